import PyProof.Rows.All
import OpenK.KLine
import OpenK.KOwn
import KE.KNestM
import KE.KDictOf
import Wide.FinOn
import Lean
import PyProof.EqAt
import PyProof.EqKinds
import PyProof.TupleCall
import PyProof.NeKinds
import PyProof.NsDelKeeps
import KE.KTryMore
import PyProof.WalksMore
import PyProof.Rows.SetFrom
import KE.KEqDict
import PyProof.ToksMono
import PyProof.StrCalls6
import PyProof.StrBlock2
import PyProof.SliceStr2
import PyProof.StrLawsTight
import PyProof.InstStoreFacts
import PyProof.Rows.FStr
import PyProof.FactsAll.set
import KE.KDictLaws
import KE.KIntText
import PyProof.Rows.StrWeight2
import PyProof.StrWalks
import PyProof.StrBlockH
import PyProof.WalksEnum
import PyProof.ZipIter
import PyProof.EnumMake
import PyProof.FitsReplace
import PyProof.StrLawsIn
import PyProof.Rows.SortWalk
import PyProof.DictUpdate
import KE.KDictList
import KE.KDictSum
import KE.KPairComp
import PyProof.FactsAll.dict
import KE.KMinKey
import KE.KLam
import PyProof.DictWalks
import PyProof.DictValues
import PySem.Challenge.RW_sidebook_k55_looks_by_rising_hands
set_option Elab.async false
set_option linter.all false
set_option maxRecDepth 100000
namespace PySem.W.Fast
def te13052408679150730464:=Nat
def tw242658763761655840:=Nat
def tw12974521656910163624:=Nat
def tw1892690694989095666:=Nat
def tw256341635539772221:=Nat
def tw8583114499334966004:=Nat
def tw236085659262978080:=Nat
def tw1212102639824214643:=Nat
def tw861502493610598483:=Nat
def tw8156932348028877967:=Nat
def tw10656201738612077351:=Nat
def tw6872789842757496876:=Nat
def tw18090264274711557029:=Nat
def tw17826623284341320060:=Nat
def tw13591048310350326776:=Nat
def tw5760117238175538160:=Nat
def tw1090689591775485030:=Nat
def tw7774113678449685934:=Nat
def tw8586721762622732767:=Nat
def tw6463715187768603088:=Nat
def tw12744582225734075806:=Nat
def tw12546471409375691253:=Nat
def tw8169806428440432713:=Nat
def tw280917380089993231:=Nat
def tw12382470007097167742:=Nat
def tw10223898402276761379:=Nat
def tw11509211604773734946:=Nat
def tw495091267313879439:=Nat
def tw5320619654261168702:=Nat
def tw2244891987886370477:=Nat
def tw13578020157988156910:=Nat
def tw17105322094737777421:=Nat
def tw4139333405863992284:=Nat
def tw14169547596032710409:=Nat
def tw12361736095285214711:=Nat
def tw13758190518337804936:=Nat
def tw15359611588545569252:=Nat
def tw1486846090086101256:=Nat
def tw9074020239141712578:=Nat
def tw6344153461787385748:=Nat
def tw8057509151949241040:=Nat
def tw8514659027417952518:=Nat
def tw4779319495676466695:=Nat
def tw17949248998541250905:=Nat
def tw7830361148116998868:=Nat
def tw8997383693586321770:=Nat
def tw1799641797098859658:=Nat
def tw5567260261556248313:=Nat
def tw16209886269506037329:=Nat
def tw14151252239970057569:=Nat
def tw9094225154769264635:=Nat
def tw7970753398140278972:=Nat
def tw13730562907999268711:=Nat
def tw13002473133791111888:=Nat
def tw6784737039638806343:=Nat
def tw938635154573522699:=Nat
def tw10483620692585885732:=Nat
def tw9628104952313183171:=Nat
def tw10374632558016547081:=Nat
def tw14671481471946370582:=Nat
def tw6953138203311097117:=Nat
def tw14344478149125931734:=Nat
end PySem.W.Fast
def PySem.W.Fast.twonly:Nat:=0
namespace PySem.W
open PySem PySem.Spec PySem.Calls PyProof.Rows
def gtO (x : Option Obj) : Option Obj := match x with
  | some ⟨_, _, .freed, _⟩ => none
  | o => o
noncomputable def pk (l : List Obj) : Nat → List Addr → List (Option Obj) := @List.rec Obj (fun _ => Nat → List Addr → List (Option Obj)) (fun _ as => as.map fun _ => none) (fun o _ ih i as => @List.rec Addr (fun _ => List (Option Obj)) [] (fun a r _ => @Bool.rec (fun _ => List (Option Obj)) (ih (Nat.succ i) as) (gtO (some o) :: ih (Nat.succ i) r) (Nat.beq a i)) as) l
def rz : Nat → List Addr → Bool
  | _, [] => true
  | i, a :: r => Nat.ble i a && rz (a + 1) r
theorem rz_le : ∀ (as : List Addr) (i : Nat), rz i as = true → ∀ b ∈ as, i ≤ b
  | [], _, _, b, h => by cases h
  | a :: r, i, h, b, hb => by
    unfold rz at h
    rw [Bool.and_eq_true] at h
    have h1 := Nat.le_of_ble_eq_true h.1
    rcases List.mem_cons.mp hb with rfl | hb
    · exact h1
    · have := rz_le r (a + 1) h.2 b hb; omega
theorem rz_up {a i : Nat} {r : List Addr} (h : rz i (a :: r) = true) (n : a ≠ i) : rz (i + 1) (a :: r) = true := by
  unfold rz at *
  rw [Bool.and_eq_true] at *
  have := Nat.le_of_ble_eq_true h.1
  exact ⟨Nat.ble_eq_true_of_le (by omega), h.2⟩
theorem pk_eq : ∀ (l : List Obj) (i : Nat) (as : List Addr), rz i as = true → pk l i as = as.map fun a => gtO l[a - i]?
  | [], i, as, _ => by
    show as.map _ = _
    exact List.map_congr_left fun a _ => by simp [gtO]
  | o :: l, i, [], _ => rfl
  | o :: l, i, a :: r, h => by
    have step : ∀ as : List Addr, rz (i + 1) as = true → (as.map fun a => gtO l[a - (i + 1)]?) = as.map fun a => gtO (o :: l)[a - i]? := fun as h => List.map_congr_left fun b hb => by
      have := rz_le as _ h b hb
      rw [show b - i = (b - (i + 1)) + 1 by omega, List.getElem?_cons_succ]
    show @Bool.rec (fun _ => List (Option Obj)) (pk l (Nat.succ i) (a :: r)) (gtO (some o) :: pk l (Nat.succ i) r) (Nat.beq a i) = _
    cases e : Nat.beq a i with
    | true =>
      obtain rfl := Nat.eq_of_beq_eq_true e
      have h2 : rz (a + 1) r = true := by unfold rz at h; exact (Bool.and_eq_true_iff.mp h).2
      show gtO (some o) :: pk l (a + 1) r = _
      rw [pk_eq l (a + 1) r h2, step r h2, List.map_cons, Nat.sub_self]; rfl
    | false =>
      have h2 := rz_up h (Nat.ne_of_beq_eq_false e)
      show pk l (i + 1) (a :: r) = _
      rw [pk_eq l (i + 1) _ h2, step _ h2]
noncomputable def kmO (as : List Addr) (h : Heap) : List (Option Obj) := @Bool.rec (fun _ => List (Option Obj)) (as.map h.get?) (pk h.objs.toList 0 as) (rz 0 as)
theorem kmO_eq (as : List Addr) (h : Heap) : kmO as h = as.map h.get? := by
  unfold kmO
  cases e : rz 0 as with
  | false => rfl
  | true =>
    show pk h.objs.toList 0 as = _
    rw [pk_eq _ _ _ e]
    exact List.map_congr_left fun a _ => by
      rw [Nat.sub_zero, Array.getElem?_toList]; rfl
noncomputable def kmH2 (K : Params → Frag) (as : List Addr) (e : ∀ P, as = (K P).map (·.1)) (ts : List Addr) : Hook where
  α := List (Option Obj) × List (Option Obj)
  obs := fun s => (kmO as s.heap, ts.map s.heap.get?)
  val := fun w => ((K w.params).map fun p => some p.2, ts.map fun _ => some (tabObj #[]))
  says := fun w h => InK K w h ∧ ∀ P ∈ ts, h.get? P = some (tabObj #[])
  of := fun w s x => (kmHook K as e ts).of w s (show (as.map s.heap.get?, ts.map s.heap.get?) = _ by rw [← kmO_eq]; exact x)
  keeps := (kmHook K as e ts).keeps
theorem km2_in {K : Params → Frag} {as : List Addr} {e : ∀ P, as = (K P).map (·.1)} {ts : List Addr} {w : World} {h : Heap} (Y : (kmH2 K as e ts).says w h) : (K w.params).In h := (show InK K w h ∧ ∀ P ∈ ts, h.get? P = some (tabObj #[]) from Y).1
end PySem.W
section
open PySem PySem.W PyProof.Rows
set_option maxHeartbeats 0
local macro_rules | `(tactic| o_head ($f $a $b $c $d)) => `(tactic| o_head ((kmH2 $a $b $c) $d))
open_top hd for PySem.Challenge.rw_sidebook_k55_looks_by_rising_hands
end
open Option renaming some->BD,none->A5
open Bool renaming true->E8,false->J8
local macro_rules|`(⋯)=>`(by first|lia|omega|(simp;done)|decide|simp_all|grind)
set_option genSizeOf false
set_option tactic.hygienic false
set_option bootstrap.genMatcherCode false
set_option compiler.extract_closed false
def vd:=@beq_eq_false_iff_ne
def Bf:=@beq_iff_eq
def QZ:=@beq_self_eq_true
def Eb:=@congrArg
def ub:=@decide_eq_false
def yc:=@decide_eq_true
def Rb:=@decide_eq_true_eq
def Ml:=@if_false
def pa:=@if_neg
def ja:=@if_pos
def Dg:=@if_true
def bp:=@or_false
open Array renaming append_assoc->Bt,forIn_toList->At,getElem?_eq_getElem->Gb,getElem?_eq_none->Yp,getElem?_eq_none_iff->Vm,getElem?_eq_some_iff->Oc,getElem?_extract->Xp,getElem?_push->Yr,getElem?_toList->Xd,length_toList->Ib,toArray_toList->Li
open Bool renaming and_assoc->Lz,and_eq_true->Fa,and_false->Kz,eq_iff_iff->wf,false_eq_true->Cf,false_ne_true->qb,false_or->IB,not_eq_true->Th,or_eq_true->zf
open Classical renaming choose_spec->zaB,not_not->zaF
open Int renaming add_mul->Ag,add_zero->lr,emod_add_mul_ediv->Ds,emod_lt_of_pos->ik,emod_nonneg->bn,le_refl->Gm,mul_comm->wG,mul_le_mul_of_nonneg_right->dc,zero_add->br,zero_mul->mr
open List renaming all_cons->rf,all_eq_true->Vb,all_map->SD,any_cons->sf,any_eq_false->Av,any_eq_true->Sd,append_assoc->Hk,append_nil->ee,cons_append->Ow,drop_eq_getElem_cons->fh,drop_eq_nil_iff->js,drop_eq_nil_of_le->wq,ext_getElem?->Nf,filterMap_cons->ff,filter_cons->Ye,filter_eq_self->Jt,find?_cons->Ed,flatMap_cons->Qv,foldl_cons->qi,getD_eq_getElem?_getD->Ue,getElem?_append_left->ib,getElem?_append_right->Wd,getElem?_eq_getElem->Bb,getElem?_eq_none->yi,getElem?_eq_none_iff->Ub,getElem?_eq_some_iff->ba,getElem?_map->Ta,getElem?_of_mem->Xr,getElem?_replicate->Wp,getElem?_set->ie,getElem?_set_ne->Xi,getElem?_set_self->Pc,getElem?_take_of_lt->Xo,getElem?_toArray->zi,getElem_inj->Iw,getElem_mem->gg,getElem_of_mem->oj,length_append->Nb,length_cons->gb,length_drop->Kw,length_eq_zero_iff->Zp,length_eraseIdx_of_lt->Tn,length_filter_le->Bi,length_map->Oa,length_nil->Dd,length_range->oh,length_set->Fd,length_take->qe,length_zip->wy,lookup_cons->Wb,map_congr_left->ke,map_cons->Sa,map_map->Cb,map_nil->Ce,mem_append->pi,mem_append_left->Ya,mem_append_right->Va,mem_cons->Da,mem_cons_of_mem->ra,mem_cons_self->ua,mem_filter->Bm,mem_filterMap->ju,mem_map->Ja,mem_map_of_mem->qj,mem_of_getElem?->za,mem_of_mem_take->Bs,mem_range->Wi,mem_singleton->Wa,nil_append->Eg,nodup_append->Jv,nodup_cons->Wc,nodup_nil->On,not_mem_nil->Ze,of_mem_zip->Cm,pairwise_iff_getElem->Bo,perm_singleton->Kt,range_succ_eq_map->vq,set_append_left->Cs,set_append_right->Ai,set_cons_succ->Za,set_cons_zero->jb,set_set->Ik,size_toArray->Ua,take_length->re
open List.Perm renaming cons_inv->zaE
open List.cons renaming inj->mu
open Nat renaming add_assoc->Oj,le_of_ble_eq_true->Oe,le_of_eq->qG,le_of_lt->Od,le_refl->va,le_succ->zg,le_trans->lb,lt_irrefl->Qd,lt_of_le_of_lt->Iv,lt_of_lt_of_le->La,lt_succ_of_lt->Mb,lt_succ_self->Lb,lt_trans->cr,lt_trichotomy->Mw,min_le_right->my,mod_lt->OP,mul_assoc->aq,ne_of_gt->Pd,ne_of_lt->Aa,not_lt->FP,one_mul->UJ,one_ne_zero->Nz,succ_le_succ->sy,zero_add->vG,zero_le->xh
open Ne renaming symm->Gd
open Option renaming bind_eq_some_iff->yf,bind_some->Gk,getD_none->ku,isSome_iff_exists->ge,isSome_map->Qj,map_eq_some_iff->nb
open Option.some renaming inj->Zb
open Prod renaming ext->Iz
open Prod.mk renaming inj->Oz
open PyProof.Rows renaming AllBare->qh,IntsAre->rh,callWith_builtin1->KJ,callWith_type1->we,iadd_int->JJ,slot_tuple_getitem->qc,Subscript_->EB,args_list_sort->JP,args_tuple_getitem->DB,entry_list_iadd'->uG,entry_list_sort->NJ,entry_proto_collect'->vy,entry_tuple_getitem->Jz,envOfC->rg,firstMet->Lf,firstMet_length_le->MB,firstMet_succ->SZ,firstMet_zero->TZ,get?_update_seq->RJ,list_sort_tree->IP,seqObj->rm,size_push'->LB,slicePart_none->DP,slot_list_sort->HP,sortedHeap_at->RZ,sortedHeap_old->KP,step_dedup->QB,subscriptTail->UZ,subscriptTail_builtinR->Fv,tupleItemsOf_->CZ
open PyProof.Rows.F renaming entry_set_update_loop->Zr
open PySem renaming Around->Ma,BindsTo->Qe,Builtin->ci,CmpOp->lp,DictEntry->tu,Drawn->jp,ElemsOf->cE,Env->wg,ExceptHandler->Ve,Expr->Ia,FuncData->lf,GenState->Kh,IsPair->XP,IsPart->nk,ItemsOf->gn,Keyword->ij,Model->Mi,NameKind->Fe,Operator->jk,OsState->Sv,PassesOwn->Co,PlainAttrs->qm,Pos->Td,Program->Ba,boot_len->uy,mem_of_lookup->je,Result->Do,Sem->cn,SetTable->Ud,Slot->VP,World->Ra,argsOk->ur,assign->om,assignEach->ze,atKey->sr,attributeBase->Xc,backTo->Dc,backToKw->Lh,behindInMarks->be,behindIsImport->WP,binaryOp->pe,bindC->nu,bindL->zy,bindSpecialIfBound?->Rz,builtinLookup_eq_fast->Nw,callSpecialIfBound?->Qz,callWith->qr,call_list_seq->PZ,call_meets->FB,call_meetsIn->nh,callerA->dn,cellsFrom->AG,checkBuiltinCall->DG,cmpInfo_Eq->NB,codeAny_builtin->Lc,codeAny_call_builtin->ek,codeAny_handlers_suite->Nv,codeAny_handlers_test->Hj,codeAny_mono->xf,codeAny_of_tree->PJ,compareOp->Jb,concat_meets->Bv,entryFor->YP,entryFor_alias->MP,eqIsQuiet_byValue->ND,eval->Qb,fits_of_scanBound->og,foldedSetIterable->oe,getItem->bi,getMethod->Ni,holding->Pe,inplaceOp->yG,intBits_le_64->BZ,intKind->Pf,isInstance->RB,isSubtype_type->ir,isTrue->PB,keywordEach->pf,noFill_tuple_add->Ao,noteFrame->yh,oneThing_ref->Ov,pickOrder->Ho,plainId_quiet->ae,rawInt->Bc,reduceHash->OB,relayAll->on,richCompare->qk,seqIndex?->qu,seqIndex_neg->Dv,seqIndex_of->ny,seq_tuple_add->Dt,setFlight->Go,setItem->Rv,setNext->Uv,sizeLine_eq->ky,sliceBounds->Sg,slot_list_getitem->RD,standAt->ai,starEach->wa,storeName->xG,subscripted->qp,swappedStores->Ot,swapsWith->Lg,swapsWithSole->Nt,sysModules->kf,tryCompare->SB,typeLookup_type->QJ,typeOf->Eo,valueAt->Pg,wpAny_Call_Name_kw->Le,wpAny_Call_method_late->Hv,wpAny_Dict_empty->sG,wpAny_Name->CB,wpAny_askSetting->Kg,wpAny_assign_Name->OD,wpAny_attempt->Nl,wpAny_bind->aa,wpAny_cRoomFor->jr,wpAny_call->fj,wpAny_callSpecial?_slot->Jd,wpAny_call_entry->Hc,wpAny_comprehension_free->Ht,wpAny_execs_cons->pG,wpAny_execs_nil->nj,wpAny_field->dk,wpAny_fieldsOf->fk,wpAny_forIn_list->oG,wpAny_handleBy_cons->nl,wpAny_holding->cc,wpAny_isInstance->zo,wpAny_isSame_ref_other->gj,wpAny_isTrue_Compare1->Jw,wpAny_ite_split->Of,wpAny_items_cons->rG,wpAny_letGo->gp,wpAny_load->km,wpAny_loadName_cell->Hz,wpAny_loadName_local->jy,wpAny_loadPart_at->Ld,wpAny_mono->gc,wpAny_newFunctionEnv->gk,wpAny_newList->Ft,wpAny_newObj_type->ic,wpAny_of_eq->xy,wpAny_passesOwn->Yg,wpAny_pure->ga,wpAny_pyIter_enum->UD,wpAny_pyIter_list->Zh,wpAny_pyIter_slot->XD,wpAny_pyIter_tuple->GB,wpAny_pyIter_zip->tG,wpAny_rule->jm,wpAny_runValue->dr,wpAny_seqItems->ng,wpAny_sequenceKey->PD,wpAny_setEntries_of->Jf,wpAny_setEpoch_of->YD,wpAny_setField->qg,wpAny_setState_of->af,wpAny_specialOf->Xg,wpAny_standAt->Ct,wpAny_storeSet_of->VD,wpAny_truthy_bool->jd,wpAny_tryCatch->Ee,wpAny_typeOf->ej,wpAny_updateSeq->ah,wp_field_iff->Mv,wp_setField_iff->LJ
open PySem.Around renaming frames_deeper->uq
open PySem.Bind renaming checkArgs->Qf
open PySem.BindsTo renaming of_defaults->Nc
open PySem.Builtin.Frozenset renaming newClass->Ay,updateFrom->By
open PySem.Builtin.List renaming listExtendWith->XJ,listLengthHint->Jj,listSameRef->Jk,listTooLong->Fg,listTouch->WJ
open PySem.Builtin.Range renaming rangeSize->zG
open PySem.Builtin.Slice renaming sliceAdjust->Rj,sliceApplied->CG,slicePartIndex->BG,slicePlaces->sg
open PySem.Builtin.Tuple renaming tupleExact->Re,tupleHashOf->Ie,tupleItemsOf->dg
open PySem.Calls renaming Name_function_global->Sm,callWith_builtin->Uh,call_function_entry->Qn,evalArgs_plain->ar
open PySem.CmpOf renaming ints_lt->Mz
open PySem.CmpOp renaming In->UP,NotIn->aE
open PySem.DictEntry renaming refKey->zaG
open PySem.EntryCells renaming newEntry->Fo
open PySem.F renaming cmpArgs_eq->PP,cmpEntry_eq->SJ,cmpKind_eq->QP,cmpSplit_eq->TJ,cmp_object->lm,slot_tuple_hash->Sh,args_tuple_add_2->Zg,called_set->md,entry_min_loop->Ih,entry_tuple_add->lh,plainAttrs_dict->zd,plainAttrs_list->uf,plain_extend_loop->Em,plain_list_iadd->Pn,plain_min_loop->ye,slot_dict_delitem->Dm,slot_dict_items->ph,slot_dict_pop->Zo,slot_dict_setdefault->ql,slot_dict_update->Um,slot_dict_values->Wm,slot_list_append->Xm,slot_set_iter->cp,slot_tuple_add->Hh,type_dict_items->Vn,type_list_append->Ym
open PySem.Heap renaming ExtBut->sm,FlyingW->bE,HeldW->Wn,SameBut->Rc,get?_eq_some->Lv,get?_push_of_some->da,get?_push_size->Ca,get?_update_other->De,get?_update_self->Ic,lt_size->xa,size_push->Qc
open PySem.Heap.DictOf renaming new->GP
open PySem.Heap.IsSliceOf renaming new->QD
open PySem.Heap.IsTuple renaming push->MJ
open PySem.Heap.SameBut renaming refl->OJ,update->Xb
open PySem.Heap.UpToSlots renaming of_keeps->TD
open PySem.IsL renaming update->zaA
open PySem.Manifest renaming signature?->vg
open PySem.NameKind renaming cell->Gc,free->xb
open PySem.Obj renaming cls_mapFields->ul,data_mapFields->kc,isFreed_of_fields->Me,mapFields->bq,mapSeq->Ge,putSet->Tv
open PySem.PassesOwn renaming leaving->zaC,looking->zaD
open PySem.Sem renaming wp_bind'->ll,wp_mono->Et
open PySem.SeqAt renaming EqAt->Jc,RcAt->Tg,RcNeAt->Mg,in_listAt->Lw,in_tupleAt->Gv
open PySem.SeqAt.EqAt renaming bool_bool->HZ,bool_int->IZ,bool_none->GZ,bool_str->JZ,int_bool->LZ,int_int->Yo,int_none->KZ,int_str->Vo,none_bool->DZ,none_int->EZ,none_str->FZ,same->Pj,str_bool->NZ,str_int->Wo,str_none->MZ,str_str->OZ
open PySem.SeqAt.RcAt renaming tuples->AZ
open PySem.SetTable renaming below->Je,fresh->su,grown->Df,has->Pw,insertAt->rj
open PySem.SetTable.below renaming go->jn
open PySem.SetTable.probe renaming go->ug
open PySem.Shared renaming TypeIs->Yn
open PySem.Str renaming ofString->pr
open PySem.Value renaming bool->Rg,int->Jh,isInt->ZD,isInt_shape->iu,isStrOf->Pz,none->Fc,ref->Db,str->ip,type->Vh
open PySem.W.WData renaming int->VJ
open PySem.Walks renaming list->Ij
open PySem.WalksT renaming zip2->JB
open PySem.Within renaming cons->IJ
open PySem.pickOrder renaming go->vn
open Sum.inl renaming inj->Gz
open Sum.inr renaming inj->Vp
open PySem PyProof.Rows
abbrev ab:=List PySem.Str
abbrev b':=List PySem.Addr
abbrev em:=List PySem.Value
abbrev gV:=List Int
abbrev h8:=List Nat
abbrev i':=List (PySem.Addr × PySem.Obj)
noncomputable section
namespace L2
open Spec
abbrev wc:=Sum Int Str
noncomputable def VC:wc->Value->Bool
 | .inl k,v=>ZD k v
 | .inr x,v=>Pz x v
noncomputable def zA5(w:Ra):wc->Int
 | .inl k=>hashInt k
 | .inr x=>hashStr w x
theorem Qq:∀ {k:wc} {v:Value},VC k v=E8->(∃ i t,k=Sum.inl i/\v=Jh i t)\/(∃ x t,k=Sum.inr x/\v=ip x t)
 | .inl i,v,h=>by
  obtain⟨t,e⟩:=iu h;exact .inl ⟨i,t,rfl,e⟩
 | .inr x,v,h=>by
  obtain⟨t,e⟩:=Value.isStrOf_shape (v:=v) h;exact .inr ⟨x,t,rfl,e⟩
def Z8 i t:VC (.inl i) (.int i t)=E8:=by simp[VC,ZD]
def ġ x t:VC (.inr x) (.str x t)=E8:=by simp[VC,Pz]
def Q9 a b:decide ((Sum.inl a:wc)=Sum.inl b)=(a == b):=by
 by_cases e:a=b;all_goals simp_all
def R9 a b:decide ((Sum.inr a:wc)=Sum.inr b)=decide (a=b):=by
 simp_all
def N4 a b:decide ((Sum.inl a:wc)=Sum.inr b)=J8:=ub (λq=>nomatch q)
def Ν a b:decide ((Sum.inr a:wc)=Sum.inl b)=J8:=ub (λq=>nomatch q)
def jj(c:Ba)(w:Ra):PySem.KeyKind c w wc where
 is:=VC
 hash:=zA5 w
 inj:=λv a b g f=>by
  rcases Qq g with⟨i,t,rfl,rfl⟩|⟨x,t,rfl,rfl⟩
  ·rcases Qq f with⟨j,u,rfl,e⟩|⟨y,u,rfl,e⟩
   ·injection e with e1 _;rw[e1]
   ·exact nomatch e
  ·rcases Qq f with⟨j,u,rfl,e⟩|⟨y,u,rfl,e⟩
   ·exact nomatch e
   ·injection e with e1 _;rw[e1]
 byValue:=λk v h=>by
  rcases Qq h with⟨i,t,rfl,rfl⟩|⟨x,t,rfl,rfl⟩<;>rfl
 pyHash:=λd h=>by
  rcases Qq d with⟨i,t,rfl,rfl⟩|⟨x,t,rfl,rfl⟩
  ·exact wpAny_pyHash_int h
  ·exact wpAny_pyHash_str h
 eqBool:=λl d h=>by
  rcases Qq l with⟨i,t,rfl,rfl⟩|⟨x,t,rfl,rfl⟩
  ·rcases Qq d with⟨j,u,rfl,rfl⟩|⟨y,u,rfl,rfl⟩
   ·rw[Q9]at h;exact wpAny_eqBool_int h
   ·rw[N4]at h;exact Vo i t y u _ _ _ _ h
  ·rcases Qq d with⟨j,u,rfl,rfl⟩|⟨y,u,rfl,rfl⟩
   ·rw[Ν]at h;exact Wo x t j u _ _ _ _ h
   ·rw[R9]at h;exact wpAny_eqBool_str h
 «strs»:=λk x t v h=>by
  rcases Qq h with⟨i,u,rfl,e⟩|⟨y,u,rfl,e⟩
  ·exact nomatch e
  ·injection e with e1 _;subst e1;cases v<;>rfl
def À a w i t:(jj a w).is (.inl i) (.int i t)=E8:=Z8 i t
def l7 a w x t:(jj a w).is (.inr x) (.str x t)=E8:=ġ x t
inductive V where
 |ec|bl (b:Bool)|int (i:Int)|str (x:Str)|BJ (b:Array UInt8)|IA (b:UInt64)|ref (a:Addr)|ty (n:String)
 deriving DecidableEq
abbrev kv:=List V
def Zc:V->Value->Prop
 | .ec,u=>u=Fc
 | .bl b,u=>u=Rg b
 | .int i,u=>∃ t,u=Jh i t
 | .str x,u=>∃ t,u=ip x t
 | .BJ b,u=>∃ t,u=Value.bytes b t
 | .IA b,u=>∃ t,u=Value.float b t
 | .ref a,u=>u=Db a
 | .ty n,u=>u=Vh n
abbrev ce:kv->em->Prop:=Paired Zc
def ce.length(r:ce xs a):xs.length=a.length:=Paired.length r
theorem ce.get:∀ {xs:kv} {us:em} {i:Nat} {x:V},ce xs us->xs[i]?=BD x->∃ u,us[i]?=BD u/\Zc x u
 |_,_,_,_,.nil,e=>by simp at e
 |_,_,0,_,.cons r _,e=>by simp at e;subst e;exact⟨_,rfl,r⟩
 |_,_,i+1,x,.cons _ t,e=>by
  obtain⟨u,a,b⟩:=ce.get (i:=i) t (by assumption)
  simp_all
theorem ce.set(r:Zc x u):∀ {xs:kv} {us:em} (i:Nat),ce xs us->ce (xs.set i x) (us.set i u)
 |_,_,_,.nil=>.nil
 |_,_,0,.cons _ t=>.cons r t
 |_,_,i+1,.cons q t=>.cons q (ce.set r i t)
theorem ce.append{xs a:kv}{us ws}(h:ce xs us)(s:ce a ws):ce (xs++a) (us++ws):=by
 induction h with
 |nil=>exact s
 |cons r _ i=>exact .cons r i
theorem ce.take:∀ {xs:kv} {us:em} (n:Nat),ce xs us->ce (xs.take n) (us.take n)
 |_,_,0,_=>.nil
 |_,_,_+1,.nil=>.nil
 |_,_,n+1,.cons r t=>.cons r (ce.take n t)
theorem ce.drop:∀ {xs:kv} {us:em} (n:Nat),ce xs us->ce (xs.drop n) (us.drop n)
 |_,_,0,r=>r
 |_,_,_+1,.nil=>.nil
 |_,_,n+1,.cons _ t=>ce.drop n t
def Zn:Option V->Option Value->Prop
 |some v,BD u=>Zc v u
 |none,A5=>True
 |_,_=>False
def KV{a:Type}:List (a × V)->List (a × Value)->Prop:=Paired λ(p:a × V) (q:a × Value)=>p.1=q.1/\Zc p.2 q.2
noncomputable def kV:wc->V
 | .inl i=>.int i
 | .inr x=>.str x
def NK:Nat->Type
 |0=>wc
 |n+1=>wc ⊕ List (NK n)
instance JV (n:Nat):DecidableEq$ NK n:=λa a=>Classical.propDecidable _
abbrev TK:=List$ NK 4
theorem VO{c a:Type}{R:c->a->Prop}:∀ {xs:List c} {b:List a},Paired R xs b->∀ {j:Nat} {y:a},b[j]?=BD y->∃ x,xs[j]?=BD x/\R x y:=by
 intro _ _ h;induction h with
 |nil=>intro _ _ e;simp at e
 |cons r _ i=>
  intro j y e;cases j with
  |zero=>simp at e;subst e;exact⟨_,rfl,r⟩
  |succ j=>obtain⟨x,h⟩:=i (j:=j) (by simpa using e);exact⟨x,by simpa using h⟩
theorem eM{c d:Type}{F G:c->d->Prop}(f:∀ a b,F a b->G a b):∀ {l:List c} {m:List d},Paired F l m->Paired G l m:=by
 intro _ _ h;induction h with
 |nil=>exact .nil
 |cons r _ i=>exact .cons (f _ _ r) i
section
variable(P:Ba)(w:Ra)
def Uq(h:Heap):(n:Nat)->NK n->Value->Prop
 |0,k,v=>(jj P w).is k v=E8
 |_+1,.inl k,v=>(jj P w).is k v=E8
 |n+1,.inr ks,v=>∃ a b,v=.ref a/\IsTup h a b/\Paired (Uq h n) ks b.toList
def RC:(n:Nat)->NK n->Int
 |0,k=>(jj P w).hash k
 |_+1,.inl k=>(jj P w).hash k
 |n+1,.inr ks=>OB (Ie$ ks.map$ RC n)
noncomputable def IF:(n:Nat)->NK n->Nat
 |0,_=>1
 |_+1,.inl _=>1
 |n+1,.inr ks=>(ks.map$ IF n).sum+1
variable{P w}
theorem CU:∀ (n:Nat) {A:Ma} {E:Value->Shared->Prop} {s:Shared} {k:NK n} {v:Value} {Q:Int->Shared->Prop},Uq P w s.heap n k v->A.units+n<cLine->Q (RC P w n k) { s with toks:=s.toks+IF n k }->wpAny (model P w) A (pyHash v) Q E s
 |0,_,_,_,_,_,_,e,_,h=>(jj P w).pyHash e h
 |_+1,_,_,_,.inl _,_,_,e,_,h=>(jj P w).pyHash e h
 |n+1,A,E,s,.inr ks,v,Q,e,D,h=>by
  obtain⟨a,C,rfl,⟨o,r,u,m,y⟩,B⟩:=e;have g:s.TypeIs (.ref a) "tuple":=⟨o,r,u⟩
  refine aa$ wpAny_cRoomFor_or (.inr$ by lia)$ aa$ Xg g Sh.lookup$ aa$ Xg g Sh.lookup ?_;refine aa$ wpAny_callSpecialIfBoundUnlessNone?_slot g Sh$ Hc Sh g F.entry_tuple_hash ?_$ F.args_tuple_hash_1 _;show wpAny _ _ (dg (.ref a) >>= _) _ _ s;refine aa$ wpAny_tupleItemsOf r y ?_;refine aa ?_;rw[<-At];refine oG _
   (λrest (b:Array Int) q=>∃ c left,ks=c++left/\Paired (Uq P w s.heap n) left rest/\b.toList=c.map (RC P w n)/\q={ s with toks:=s.toks+(c.map$ IF n).sum })
   _ ?_ ?_ _ _ ⟨[],ks,rfl,B,rfl,rfl⟩
  ·rintro x rest b q ⟨c,left,rfl,l,i,rfl⟩;cases l with
   |@cons p _ d _ t f=>
    refine aa$ CU n t (show A.units+1+n<cLine by lia) ?_;first
     |exact ga ⟨c++[p],d,by simp,f,by simp[i],by simp[Oj]⟩
     |exact aa$ ga$ ga ⟨c++[p],d,by simp,f,by simp[i],by simp[Oj]⟩
  ·rintro b q ⟨c,left,rfl,l,i,rfl⟩;cases l;rw[ee]at h;show wpAny _ _ (retInt$ Ie b.toList) _ _ _;rw[i];refine wpAny_ret_mkInt ?_;have h:Q (OB$ Ie$ c.map$ RC P w n) { s with toks:=s.toks+((c.map$ IF n).sum+1) }:=h;generalize Ie (c.map$ RC P w n)=z at *;show wpAny _ _ (if (decide (-(2:Int) ^ 63<=z) && decide (z<2 ^ 63))=E8 then _ else _) Q E _;unfold OB at h;by_cases j:(decide (-(2:Int) ^ 63<=z) && decide (z<2 ^ 63))=E8
   ·rw[ja j];rw[ja j]at h;exact ga (by simpa [Oj]using h)
   ·rw[pa j];rw[pa j]at h;exact aa$ jm$ ga (by simpa [Oj]using h)
theorem uZ:∀ (n m:Nat) {A:Ma} {E:Value->Shared->Prop} {s:Shared} {k:NK n} {v:Value} {Q:Bool->Shared->Prop},n<=m->Uq P w s.heap n k v->Q E8 s->wpAny (model P w) A (eqIsQuiet m v) Q E s
 |0,_,_,_,_,_,_,_,_,b,h=>by rw[ND _$ (jj P w).byValue _ _ b];exact ga h
 |_+1,_,_,_,_,.inl _,_,_,_,b,h=>by rw[ND _$ (jj P w).byValue _ _ b];exact ga h
 |n+1,0,_,_,_,.inr _,_,_,hm,_,_=>by lia
 |n+1,m+1,A,E,s,.inr ks,v,Q,hm,b,h=>by
  obtain⟨a,d,rfl,⟨o,g,j,q,l⟩,t⟩:=b;have f:s.TypeIs (.ref a) "tuple":=⟨o,g,j⟩
  unfold eqIsQuiet;refine aa$ Xg f F.slot_tuple_eq.lookup ?_;refine aa$ zo f isSubtype_tuple_tuple$ aa$ ng g l$ aa ?_;show wpAny _ _ (forIn d _ _) _ _ s;rw[<-At];refine oG _ (λrest r e=>r.1=A5/\e=s/\∃ ks,Paired _ ks rest) _ ?_ ?_ _ _ ⟨rfl,rfl,ks,t⟩
  ·rintro v rest r e ⟨u,rfl,x,p⟩;cases p with
   |cons i c=>
    refine aa$ uZ n _ ⋯ i ?_;exact ga ⟨rfl,rfl,_,c⟩
  ·rintro ⟨y,z⟩ e ⟨rfl,rfl,_⟩;exact ga h
def DU(h:(jj P w).is k (.ref a)=E8):False:=by
 have:=(jj P w).byValue _ _ h;trivial
def IsTup.uniq(p:IsTup h a x)(q:IsTup h a y):x=y:=by
 obtain⟨o,b,_,n,c⟩:=p;obtain⟨g,d,_,f,e⟩:=q
 simp_all
theorem LO{h:Heap}:∀ (n:Nat) {x y:NK n} {v:Value},Uq P w h n x v->Uq P w h n y v->x=y
 |0,_,_,_,c,d=>(jj P w).inj _ _ _ c d
 |_+1,.inl _,.inl _,_,c,d=>Eb Sum.inl ((jj P w).inj _ _ _ c d)
 |_+1,.inl _,.inr _,_,c,d=>by obtain⟨a,_,rfl,_⟩:=d;exact(DU c).elim
 |_+1,.inr _,.inl _,_,c,d=>by obtain⟨a,_,rfl,_⟩:=c;exact(DU d).elim
 |n+1,.inr xs,.inr f,_,c,d=>by
  obtain⟨a,u,rfl,s,k⟩:=c;obtain⟨b,z,e,t,l⟩:=d;cases e;obtain rfl:=IsTup.uniq s t;have i:∀ {xs f:List _} {g:em},Paired (Uq P w h n) xs g->Paired (Uq P w h n) f g->xs=f:=by
   intro xs f g p;induction p generalizing f with
   |nil=>intro q;cases q;rfl
   |cons r _ j=>intro q;cases q with|cons m o=>rw[LO n r m,j o]
  exact Eb Sum.inr$ i k l
theorem cU{h f:Heap}(g:∀ b o c m,h.get? b=BD o->o.data=.seq c m->f.get? b=BD o):∀ (n:Nat) {k:NK n} {v:Value},Uq P w h n k v->Uq P w f n k v
 |0,_,_,d=>d
 |_+1,.inl _,_,d=>d
 |n+1,.inr _,_,d=>by
  obtain⟨a,c,rfl,⟨o,i,j,m,e⟩,p⟩:=d;exact⟨a,c,rfl,⟨o,g _ _ _ _ i e,j,m,e⟩,eM (λl l r=>cU g n r) p⟩
def Á:∀ n {A} {s} {x y} {u v} b,(b=E8 ↔ x=y)->Uq P w s.heap n x u->Uq P w s.heap n y v->A.units+n<cLine->Jc A s u v b:=by
 have k:∀ {A:Ma} {s:Shared} {x y:wc} {u v:Value} (b:Bool),(b=E8 ↔ x=y)->(jj P w).is x u=E8->(jj P w).is y v=E8->Jc A s u v b:=fun {A s x y u v} b d f g=>by
  rcases Qq f with⟨i,t,rfl,rfl⟩|⟨i,t,rfl,rfl⟩<;>rcases Qq g with⟨j,r,rfl,rfl⟩|⟨j,r,rfl,rfl⟩
  ·rw[show b=(i == j) by rw[wf,d];simp];exact .int_int _ _ _ _
  ·rw[show b=J8 by rw[<-Th,d];simp];exact .int_str _ _ _ _
  ·rw[show b=J8 by rw[<-Th,d];simp];exact .str_int _ _ _ _
  ·rw[show b=(i == j) by rw[wf,d];simp];exact .str_str _ _ _ _
 intro n;induction n with
 |zero=>intro A s x y u v b d f g _;exact k b d f g
 |succ n T=>
  intro A s x y u v b d f g X
  match x,y,d,f,g with
  | .inl x,.inl y,d,f,g=>exact k b (d.trans ⟨Gz,Eb _⟩) f g
  | .inl x,.inr F,d,f,g=>
   obtain⟨a,H,rfl,⟨o,l,B,m,C⟩,p⟩:=g;rw[show b=J8 by rw[<-Th,d];exact λz=>nomatch z];rcases Qq f with⟨i,t,rfl,rfl⟩|⟨i,t,rfl,rfl⟩
   ·exact .int_tuple _ _ ⟨o,l,B,m,C⟩ ⋯
   ·exact .str_tuple _ _ ⟨o,l,B,m,C⟩ ⋯
  | .inr xs,.inl y,d,f,g=>
   obtain⟨a,H,rfl,⟨o,l,B,m,C⟩,p⟩:=f;rw[show b=J8 by rw[<-Th,d];exact λz=>nomatch z];rcases Qq g with⟨i,t,rfl,rfl⟩|⟨i,t,rfl,rfl⟩
   ·exact .tuple_int _ _ ⟨o,l,B,m,C⟩ ⋯
   ·exact .tuple_str _ _ ⟨o,l,B,m,C⟩ ⋯
  | .inr xs,.inr F,d,f,g=>
   have q:=f;obtain⟨a,D,rfl,ό,ϋ⟩:=f;obtain⟨c,E,rfl,Q,I⟩:=g;by_cases e:a=c
   ·subst e;obtain rfl:=IsTup.uniq ό Q;rw[d.mpr$ LO (n+1) q ⟨a,D,rfl,ό,I⟩];exact .same _
   ·have l1:xs.length=D.size:=by rw[Paired.length ϋ,Ib]
    have l2:F.length=E.size:=by rw[Paired.length I,Ib]
    have r:=AZ (A:=A) (e:=λj=>decide$ xs[j]?=F[j]?) (let ⟨o,K,L,m,M⟩:=ό;⟨o,K,L,m,M⟩) (let ⟨o,K,L,m,M⟩:=Q;⟨o,K,L,m,M⟩) ⋯ λj G N=>by
     obtain⟨x,ex,ϊ⟩:=VO ϋ (j:=j) (y:=D[j]) (by simp[G]);obtain⟨y,S,V⟩:=VO I (j:=j) (y:=E[j]) (by simp[N]);exact T _ (by rw[Rb,ex,S];exact⟨Zb,Eb _⟩) ϊ V (show A.units+1+n<cLine by lia)
    have R:((List.range$ min D.size E.size).all (λj=>decide$ xs[j]?=F[j]?) && D.size == E.size)=b:=by
     rw[wf,d,Fa,Vb,Bf,<-l1,<-l2];constructor
     ·rintro ⟨G,N⟩;refine Eb Sum.inr (Nf λj=>?_);by_cases W:j<xs.length
      ·exact of_decide_eq_true$ G j$ Wi.mpr ⋯
      ·rw[yi ⋯,yi ⋯]
     ·intro h;cases (Vp h);exact⟨λj J=>by simp,rfl⟩
    rw[R]at r;exact .of_refs e r
def mE(P:Ba)(w:Ra):HeapKind P w TK where
 is:=λh ks a=>Uq P w h 5 (.inr ks)$ .ref a
 hash:=λks=>RC P w 5$ .inr ks
 draws:=λks=>IF 5$ .inr ks
 room:=λA=>A.units+5<cLine
 inj:=λf g=>Vp$ LO 5 f g
 keeps:=λx k j l=>cU (λb o n m e i=>(l.2 b$ λz=>by subst z;rw[k]at e;cases e;rw[j]at i;exact nomatch i).trans e) 5 x
 pyHash:=λd c h=>CU 5 c d h
 eqBool:=λd f g h=>Á 5 _ (by rw[Rb];exact⟨Eb _,Vp⟩) f g d _ _ _ _ h
 quiet:=λc h=>uZ 5 8 ⋯ c h
end
inductive HO where
 |qa (xs:kv)
 |db (xs:kv)
 |dK (kvs:List (wc × V))|dT (kvs:List (TK × V))
 |set (S:Int->Bool) (n:Nat)
 |yb (C dx:Addr) (fs:List (Str × V))
 |own (x:Addr)
 |xd (fs:List (Str × V))
 |met (f x:Addr)
 |cL (lo hi:Int)
 |Uc (o:Obj) (u:HO)
 |vl (ps:Array Value)
 |ext (φ:Heap->Prop)
abbrev Hp:=Addr->Option HO
def NR(H:Hp):(n:Nat)->NK n->V->Prop
 |0,k,v=>v=kV k
 |_+1,.inl k,v=>v=kV k
 |n+1,.inr ks,v=>∃ a b,v=.ref a/\H a=BD (.db b)/\Paired (NR H n) ks b
theorem NR.keeps(d:∀ b xs,H b=BD (.db xs)->c b=BD (.db xs)):∀ (n:Nat) {k:NK n} {v:V},NR H n k v->NR c n k v
 |0,_,_,h=>h
 |_+1,.inl _,_,h=>h
 |n+1,.inr _,_,h=>by obtain⟨a,f,rfl,e,p⟩:=h;exact⟨a,f,rfl,d _ _ e,eM (λg g r=>NR.keeps d n r) p⟩
noncomputable def Sb(H:Hp)(a:Addr)(o:HO):Hp:=λb=>if b=a then BD o else H b
def bf:Sb H a o a=BD o:=by unfold Sb;rw[ja rfl]
def ud(h:b≠a):Sb H a o b=H b:=by unfold Sb;rw[pa h]
def xL{H:Hp}(h:H a=BD o)(c:H b=BD u)(d:o≠u):a≠b:=by
 intro e;subst e;rw[h]at c;exact d$ Zb c
def zm{H:Hp}(h:H a=BD o)(c:H b=A5):a≠b:=by
 intro e;subst e;rw[h]at c;cases c
section
variable(P:Ba)(w:Ra)
inductive cz(h:Heap)(a:Addr)(xs:kv):Prop
 |mk (f1:xs.length<=sizeLine) (its:em) (n:Nat) (f2:ce xs its) (f3:h.get? a=BD { cls:=.type "list",data:=.seq its.toArray n }):cz h a xs
inductive tz(h:Heap)(a:Addr)(xs:kv):Prop
 |mk (f1:xs.length<=sizeLine) (its:em) (f2:ce xs its) (f3:IsTup h a its.toArray):tz h a xs
inductive Xy(H:Hp)(h:Heap)(a C dx:Addr)(fs:List (Str × V)):Prop
 |mk (f1:H dx=BD (.own a)) (f2:fs.length<=1000) (f3:dx≠a) (f4:h.get? a=BD (W.instObj C dx)) (mA:Str->Option Value) (f5:h.Ns1 dx mA) (f6:(∀ f,Zn (fs.lookup f) (mA f))) (f7:PySem.Within mA (fs.map (·.1))):Xy H h a C dx fs
def uk(H:Hp)(h:Heap)(a:Addr):HO->Prop
 | .qa xs=>cz h a xs
 | .db xs=>tz h a xs
 | .dK b=>b.length<=sizeLine/\(a == kf)=J8/\∃ vs,KV b vs/\h.DictOf (jj P w) a vs
 | .dT b=>b.length<=sizeLine/\(a == kf)=J8/\∃ xs:List (TK × Addr × Value),
   Paired (λ(p:TK × V) (q:TK × Addr × Value)=>p.1=q.1/\NR H 5 (.inr p.1) (.ref q.2.1)/\Zc p.2 q.2.2) b xs/\
   ∃ o d k,h.get? a=BD o/\o.ExactDict/\o.data=.dict d k/\d.toList=xs.map (entryOfKey$ mE P w)/\(xs.map (·.1)).Nodup
 | .set S n=>h.SetOf (Pf P w) a S n
 | .yb C j c=>Xy H h a C j c
 | .own _=>∃ o,h.get? a=BD o
 | .xd c=>∃ i,h.Ns1 a i/\∀ f,Zn (c.lookup f) (i f)
 | .cL lo l=>∃ t u v,h.get? a=BD { cls:=.type "range",data:=.fields #[.int lo t,.int l u,.int 1 v] }
 | .Uc o u=>h.get? a=BD o/\uk H h a u
 | .vl ps=>h.get? a=BD { cls:=.none,data:=.fields ps }
 | .met f x=>h.get? a=BD (W.methodObj (.ref f)$ .ref x)
 | .ext φ=>φ h/\(∃ o,h.get? a=BD o)/\∀ e g:Heap,φ e->(∀ o,e.get? a=BD o->g.get? a=BD o)->φ g
def Ph(H:Hp)(h:Heap):Prop:=∀ a o,H a=BD o->uk P w H h a o
end
section
variable{P:Ba}{w:Ra}{H H':Hp}{h h':Heap}{a:Addr}{o:HO}
def uk.lt(x:uk P w H h a o):a<h.objs.size:=by
 cases o with
 |qa xs=>obtain⟨_,_,_,_,e⟩:=x;exact xa e
 |db xs=>obtain⟨_,_,_,p⟩:=x;exact p.lt
 |dK b=>obtain⟨_,_,_,_,o,_,_,e,_⟩:=x;exact xa e
 |dT b=>obtain⟨_,_,_,_,o,_,_,e,_⟩:=x;exact xa e
 |set S n=>obtain⟨o,_,_,_,e,_⟩:=x;exact xa e
 |yb C d c=>obtain⟨_,_,_,e,_⟩:=x;exact xa e
 |own y=>obtain⟨_,e⟩:=x;exact xa e
 |xd c=>obtain⟨_,⟨_,_,_,e,_⟩,_⟩:=x;exact xa e
 |cL lo g=>obtain⟨_,_,_,e⟩:=x;exact xa e
 |Uc i u=>obtain⟨e,_⟩:=x;exact xa e
 |vl ps=>exact xa$ x
 |met f y=>exact xa$ x
 |ext j=>obtain⟨_,⟨_,e⟩,_⟩:=x;exact xa e
theorem Paired.Dp:∀ {c:List e} {d:List g},Paired F c d->(∀ a b,F a b->G a b)->Paired G c d:=by
 intro _ _ h f;induction h with
 |nil=>exact .nil
 |cons r _ i=>exact .cons (f _ _ r) i
def uk.Aj(x:uk P w H h a o)(k:∀ b u,(b=a\/H b=BD (.own a))->h.get? b=BD u->h'.get? b=BD u)
  (D:∀ b,H b=BD (.own a)->H' b=BD (.own a)) (E:∀ b xs,H b=BD (.db xs)->H' b=BD (.db xs)):uk P w H' h' a o:=by
 induction o with
 |qa xs=>obtain⟨z,j,n,r,e⟩:=x;exact⟨z,j,n,r,k _ _ (.inl rfl) e⟩
 |db xs=>obtain⟨z,j,r,ob,e,c⟩:=x;exact⟨z,j,r,ob,k _ _ (.inl rfl) e,c⟩
 |dK l=>obtain⟨z,y,I,r,ob,i,g,e,c⟩:=x;exact⟨z,y,I,r,ob,i,g,k _ _ (.inl rfl) e,c⟩
 |dT l=>
  obtain⟨z,y,xs,r,ob,i,g,e,c⟩:=x;exact⟨z,y,xs,Paired.Dp r λp q z=>⟨z.1,NR.keeps E 5 z.2.1,z.2.2⟩,ob,i,g,k _ _ (.inl rfl) e,c⟩
 |set S n=>obtain⟨ob,i,g,t,e,c⟩:=x;exact⟨ob,i,g,t,k _ _ (.inl rfl) e,c⟩
 |yb C ό B=>
  obtain⟨d,z,G,e,m,⟨s,i,g,A,c⟩,r,w⟩:=x;exact⟨D _ d,z,G,k _ _ (.inl rfl) e,m,⟨s,i,g,k _ _ (.inr d) A,c⟩,r,w⟩
 |own y=>obtain⟨ob,e⟩:=x;exact⟨ob,k _ _ (.inl rfl) e⟩
 |xd B=>obtain⟨m,⟨s,i,g,e,c⟩,r⟩:=x;exact⟨m,⟨s,i,g,k _ _ (.inl rfl) e,c⟩,r⟩
 |cL lo K=>obtain⟨t,u,v,e⟩:=x;exact⟨t,u,v,k _ _ (.inl rfl) e⟩
 |Uc ob u F=>obtain⟨e,q⟩:=x;exact⟨k _ _ (.inl rfl) e,F q⟩
 |vl ps=>
  have e:=x;exact k a _ (.inl rfl) e
 |met f y=>
  have e:=x;exact k a _ (.inl rfl) e
 |ext L=>obtain⟨p,⟨o,e⟩,st⟩:=x;exact⟨st _ _ p λo q=>k _ _ (.inl rfl) q,⟨o,k _ _ (.inl rfl) e⟩,st⟩
def Ph.lt(x:Ph P w H h)(e:H a=BD o):a<h.objs.size:=(x a o e).lt
def Ph.fresh(x:Ph P w H h)(e:h.objs.size<=a):H a=A5:=by
 cases q:H a with
 |none=>rfl
 |some u=>exact absurd (La (x.lt q) e)$ Qd _
def Ph.kept(x:Ph P w H h)(k:∀ b u,h.get? b=BD u->h'.get? b=BD u):Ph P w H h':=λa o e=>
 (x a o e).Aj (λb u c q=>k b u q) (λc q=>q) λc c q=>q
def Ph.laid(x:Ph P w H h)(k:∀ b u,h.get? b=BD u->h'.get? b=BD u)(i:h.objs.size<=a)(d:uk P w (Sb H a o) h' a o):Ph P w (Sb H a o) h':=λb u e=>by
 have g:=x.fresh i;by_cases f:b=a
 ·subst f;rw[bf]at e;cases e;exact d
 ·rw[ud f]at e;exact(x b u e).Aj (λc v j q=>k c v q) (λc q=>by rw[ud$ zm q g];exact q) λc xs q=>by rw[ud$ zm q g];exact q
end
def Rd(H:Hp)(a:Addr)(u:HO):Prop:=H a=BD u\/∃ o,H a=BD (.Uc o u)
def Rd.ok(r:Rd H a u)(x:Ph P w H h):uk P w H h a u:=by
 rcases r with r|⟨o,r⟩
 ·exact x a u r
 ·obtain⟨_,q⟩:=x a _ r;exact q
def SE:Option HO->Prop
 |some (.qa _)=>True
 |some (.dK _)=>True
 |some (.dT _)=>True
 |some (.set _ _)=>True
 |some (.yb _ _ _)=>True
 |some (.ext _)=>True
 |_=>False
section
variable{P:Ba}{w:Ra}{H:Hp}{h h':Heap}{x e:Addr}{o':HO}
def Ph.write(ok:Ph P w H h)(g:SE$ H x)(p:e=x\/H e=BD (.own x))(k:∀ b u,b≠e->h.get? b=BD u->h'.get? b=BD u)(i:∃ u,h'.get? e=BD u)
  (j:uk P w (Sb H x o') h' x o'):Ph P w (Sb H x o') h':=λb u q=>by
 have d:∀ c y,H c=BD (.own y)->c≠x:=λc y r z=>by subst z;rw[r]at g;exact g
 have f:∀ c xs,H c=BD (.db xs)->c≠x:=λc xs r z=>by subst z;rw[r]at g;exact g
 by_cases l:b=x
 ·subst l;rw[bf]at q;cases q;exact j
 ·rw[ud l]at q;by_cases a:b=e
  ·have n:H b=BD (.own x):=by
    simp_all
   rw[q]at n;cases n;obtain⟨v,o⟩:=i;exact⟨v,by rw[a];exact o⟩
  ·refine(ok b u q).Aj (λc v m r=>k c v ?_ r) (λc r=>by rw[ud$ d c b r];exact r) λc xs r=>by rw[ud$ f c xs r];exact r
   rcases m with rfl|m
   ·exact a
   ·rintro rfl
    simp_all
end
structure Un(fs ex:b')(H H':Hp)(h h':Heap):Prop where
 keep:∀ b o,h.get? b=BD o->H b=A5->b ∉ fs->b ∉ ex->h'.get? b=BD o
 slot:∀ b o,h.get? b=BD o->H b=A5->b∈fs->b ∉ ex->∃ sl,h'.get? b=BD { o with slots:=sl }
 free:∀ b o,h.get? b=BD o->H b=A5->b ∉ ex->H' b=A5
 there:∀ b o,h.get? b=BD o->b ∉ ex->∃ o',h'.get? b=BD o'
 Uj:∀ b xs,H b=BD (.db xs)->H' b=BD (.db xs)
 Ji:∀ b o u,H b=BD (.Uc o u)->H' b=BD (.Uc o u)
 wj:∀ b ps,H b=BD (.vl ps)->∃ more,H' b=BD (.vl (ps++more))
section
variable{fs fs' ex ex':b'}{H H1 H2:Hp}{h h1 h2 h':Heap}{a x e:Addr}{o:HO}
def Un.any(u:Un fs ex H H1 h h1){a}(q:h.get? b=BD a)(n:H b=A5)(d:b ∉ ex):∃ e,h1.get? b=BD { a with slots:=e }:=by
 by_cases c:b∈fs
 ·exact u.slot b a q n c d
 ·exact⟨a.slots,u.keep b a q n c d⟩
def Un.kept(k:∀ b u,h.get? b=BD u->h'.get? b=BD u):Un fs ex H H h h':=
 ⟨λb a q c c c=>k b a q,λb a q c c c=>⟨a.slots,k b a q⟩,λc c c n c=>n,λb a q c=>⟨a,k b a q⟩,λc c q=>q,λc c c q=>q,λc ps q=>⟨#[],by rw[q];simp⟩⟩
def Un.refl:Un fs ex H H h h:=Un.kept λa a q=>q
def Un.laid(k:∀ b u,h.get? b=BD u->h'.get? b=BD u)(d:h.objs.size<=a)(c:H a=A5):Un fs ex H (Sb H a o) h h' where
 keep:=λb u q e e e=>k b u q
 slot:=λb u q e e e=>⟨u.slots,k b u q⟩
 free:=λb u q n e=>by rw[ud$ Aa$ La (xa q) d];exact n
 there:=λb u q e=>⟨u,k b u q⟩
 Uj:=λb xs q=>by rw[ud$ zm q c];exact q
 Ji:=λb u xs q=>by rw[ud$ zm q c];exact q
 wj:=λb ps q=>⟨#[],by rw[ud$ zm q c,q];simp⟩
def Un.write(a:SE$ H x)(l:e=x\/H e=BD (.own x))(k:∀ b u,b≠e->h.get? b=BD u->h'.get? b=BD u)(g:∃ u,h'.get? e=BD u):Un fs ex H (Sb H x o) h h':=by
 have i:∀ b,H b=A5->b≠x:=λb n z=>by subst z;rw[n]at a;exact a
 have d:∀ b,H b=A5->b≠e:=λb n z=>by
  simp_all
 have c:∀ b u,H b=BD u->¬ SE (BD u)->b≠x:=λb u q j z=>by subst z;rw[q]at a;exact j a
 refine⟨λb u q n m m=>k b u (d b n) q,λb u q n m m=>⟨u.slots,k b u (d b n) q⟩,λb u q n m=>by rw[ud$ i b n];exact n,λb u q m=>?_,
  λb xs q=>by rw[ud (c b _ q λz=>z)];exact q,λb u xs q=>by rw[ud (c b _ q λz=>z)];exact q,λb ps q=>⟨#[],by rw[ud (c b _ q λz=>z),q];simp⟩⟩
 by_cases f:b=e;all_goals simp_all
end
noncomputable def sQ(h:Heap)(H:Hp):b':=(List.range h.objs.size).filter λa=>(H a).isSome
def Bz(h:Heap)(H:Hp):Heap:=W.hideAll h$ sQ h H
def A6 h H:(Bz h H).objs.size=h.objs.size:=W.hideAll_size _ _
def zE8(e:h.get? b=BD o)(n:H b=A5):(Bz h H).get? b=BD o:=
 W.hideAll_get _ e λa=>by
  have q:=(Bm.mp a).2
  simp_all
def zJ8(e:(Bz h H).get? b=BD o):h.get? b=BD o/\H b=A5:=by
 have a:=W.of_hideAll _ e;refine⟨a,?_⟩;cases q:H b with
 |none=>rfl
 |some x=>
  have c:b∈sQ h H:=Bm.mpr ⟨Wi.mpr$ xa a,by simp[q]⟩;have z:(Bz h H).get? b=A5:=W.hideAll_none _ c
  simp_all
noncomputable def S6(g h:Heap)(L:Addr):List$ Addr × Obj:=(List.range h.objs.size).filterMap λa=>if a=L\/(g.get? a).isSome=E8 then A5 else (h.get? a).map λo=>(a,o)
def rest(g h:Heap)(L d:Addr):List$ Addr × Obj:=(S6 g h L).filter λp=>decide$ p.1≠d
structure Mod(K:W.Frag)(mg:Str->Option Value)(base:Heap):Prop where
 dz:K.In base
 glob:base.Ns mainGlobals mg
 blt:∃ mb,base.Ns builtinsNs mb/\∀ x:Str,x ≠ "__name__"->mb x=bootBuiltins x
 nolimit:base.NoLimit
structure Cx where
 prog:Ba
 w:Ra
 K:W.Frag
 mg:Str->Option Value
 base:Heap
 A:Ma
 N:ab
 s₀:Shared
 H₀:Hp
 env:wg
 outer:List wg
 stack:List wg
 ex:b'
 fn:Str->Bool
 de:Bool
 pn:i'
 xe:Value->Shared->Prop
noncomputable def yk(l:List wg):b':=l.filterMap (·.frame)
abbrev Cx.fs(X:Cx):b':=yk X.outer
def cG(sc:Scope)(x:Str):Prop:=sc.names.lookup x=BD .local\/sc.names.lookup x=BD .cell\/sc.names.lookup x=BD .free
def Loc(sc:Scope)(x:Str):Prop:=sc.names.lookup x=BD .local\/sc.names.lookup x=BD .cell
def ū(a:wg)(h:Heap)(m:Str->Option Value)(x:Str)(u:Value):Prop:=
 (a.kindOf x=BD .local/\m x=BD u)\/((a.kindOf x=BD .cell\/a.kindOf x=BD .free)/\∃ c,a.cells.lookup x=BD c/\h.IsCell c (BD u))
structure Cx.Ok(X:Cx):Prop where
 mod:Mod X.K X.mg X.base
 kind:X.env.scope.kind=.function
 glob:X.env.globals=mainGlobals
 blt:X.env.builtins=builtinsNs
 above:X.s₀.heap.objs.size<=X.env.locals
 inj:∀ x y c,X.env.cells.lookup x=BD c->X.env.cells.lookup y=BD c->x=y
 has:∀ x,(X.env.kindOf x=BD .cell\/X.env.kindOf x=BD .free)->∃ c,X.env.cells.lookup x=BD c
 ID:∀ x c,X.fn x=E8->X.env.cells.lookup x=BD c->X.s₀.heap.objs.size<=c
 hd:X.de=E8->X.A.handled=A5
 frames:X.A.frames=BD X.stack
 Np:X.stack=X.outer\/(X.stack=X.env::X.outer/\X.env.frame=BD X.env.locals)
 YE:∀ b∈X.ex,b≠X.env.locals/\∀ x c,X.env.cells.lookup x=BD c->c≠b
 bs:∀ b o,X.base.get? b=BD o->X.s₀.heap.get? b=BD o/\X.H₀ b=A5
 Au:X.base.objs.size<=X.s₀.heap.objs.size
 Os:∀ b o,X.base.get? b=BD o->b ∉ X.ex
 Ls:∀ b∈X.ex,b ∉ X.fs
 Yj:X.s₀.heap.FunFrames X.base X.outer
 Sy:∀ b∈X.fs,X.H₀ b=A5
structure Xa(X:Cx)(pins:i')(σ:List (Option V))(H:Hp)(s:Shared):Prop where
 ok:X.Ok
 os:s.os=X.s₀.os
 bare:qh s.gens
 base:Un X.fs X.ex X.H₀ H X.s₀.heap s.heap
 loc:∃ m,s.heap.Ns X.env.locals m/\∀ (i:Nat) (x:Str) (v:V),X.N[i]?=BD x->σ[i]?=BD (BD v)->cG X.env.scope x->∃ u,Zc v u/\ū X.env s.heap m x u
 cell:∀ x c,X.env.cells.lookup x=BD c->∃ v,s.heap.IsCell c v
 free:H X.env.locals=A5
 bg:∀ x c,X.env.cells.lookup x=BD c->H c=A5
 pin:∀ p∈X.pn++pins,s.heap.get? p.1=BD p.2/\H p.1=A5/\p.1≠X.env.locals/\p.1 ∉ X.fs/\∀ v,p.2.data≠.cell v
 Cc:Ph X.prog X.w H s.heap
 len:σ.length=X.N.length
section
variable{X:Cx}{pins:List$ Addr × Obj}{σ:List$ Option V}{H H':Hp}{s:Shared}{h':Heap}
def Cx.Ok.dP(ok:X.Ok)(e:X.base.get? b=BD o):b ∉ X.fs:=λa=>by
 have:=(ok.Yj.mem a).1
 simp_all
def Xa.bs(I:Xa X pins σ H s):∀ b o,X.base.get? b=BD o->s.heap.get? b=BD o/\H b=A5:=λb o e=>
 ⟨I.base.keep b o (I.ok.bs b o e).1 (I.ok.bs b o e).2 (I.ok.dP e)$ I.ok.Os b o e,I.base.free b o (I.ok.bs b o e).1 (I.ok.bs b o e).2$ I.ok.Os b o e⟩
def Xa.bk(I:Xa X pins σ H s):∀ b o,X.base.get? b=BD o->s.heap.get? b=BD o:=λb o e=>(I.bs b o e).1
def Xa.mod(I:Xa X pins σ H s):Mod X.K X.mg X.base:=I.ok.mod
def Xa.Ki(I:Xa X pins σ H s):X.K.In s.heap:=I.ok.mod.dz.keeps I.bk
def Xa.nolimit(I:Xa X pins σ H s):s.heap.NoLimit:=I.ok.mod.nolimit.keeps I.bk
def Xa.lt(I:Xa X pins σ H s):X.env.locals<s.heap.objs.size:=let ⟨_,a,_⟩:=I.loc;a.lt
def Xa.sz(I:Xa X pins σ H s):X.s₀.heap.objs.size<=s.heap.objs.size:=lb I.ok.above$ Od I.lt
def Xa.uF(I:Xa X pins σ H s)(h:s.heap.objs.size<=a):a ∉ X.fs:=λb=>by
 obtain⟨_,o,c,_⟩:=I.ok.Yj.mem b;exact absurd (La (xa c)$ lb I.sz h)$ Qd _
def Xa.UE(I:Xa X pins σ H s):∀ x c,X.env.cells.lookup x=BD c->c≠X.env.locals:=λx c e z=>by
 obtain⟨v,o,h,g⟩:=I.cell x c e;obtain⟨m,⟨i,f,d,b,a,_⟩,_⟩:=I.loc
 simp_all
def Xa.Yj(I:Xa X pins σ H s):s.heap.FunFrames X.base X.outer:=by
 have a:∀ l,(∀ b∈yk l,b∈X.fs)->X.s₀.heap.FunFrames X.base l->s.heap.FunFrames X.base l:=by
  intro l;induction l with
  |nil=>intro _ _;trivial
  |cons env r n=>
   rintro g ⟨i,⟨L,o,f,j,k,h⟩,m⟩;have c:=g L (by unfold yk;rw[ff,f];exact ua);obtain⟨p,e⟩:=I.base.slot L o k (I.ok.Sy L c) c λz=>I.ok.Ls L z c;exact⟨i,⟨L,_,f,j,e,h⟩,n (λb d=>g b (by unfold yk;rw[ff,f];exact ra _ d)) m⟩
 exact a X.outer (λq d=>d) I.ok.Yj
def Xa.stack(I:Xa X pins σ H s):s.heap.FunFrames X.base X.stack:=by
 rcases I.ok.Np with e|⟨e,a⟩
 ·rw[e];exact I.Yj
 ·rw[e];obtain⟨m,b,_⟩:=I.loc;exact .cons (by rw[I.ok.kind];decide) a b (Heap.get?_none_of_le$ lb I.ok.Au I.ok.above) I.Yj
def Xa.Kq(I:Xa X pins σ H s):∀ b∈yk X.stack,b∈X.env.locals::X.fs:=λb a=>by
 rcases I.ok.Np with e|⟨e,c⟩
 ·rw[e]at a;exact ra _ a
 ·rw[e]at a;unfold yk at a
  rwa [ff,c]at a
def Xa.Dl(I:Xa X pins σ H s):∀ b∈yk X.stack,H b=A5:=λb a=>by
 rcases Da.mp (I.Kq b a)with e|a
 ·rw[e];exact I.free
 ·obtain⟨_,o,c,_⟩:=I.ok.Yj.mem a;exact I.base.free b o c (I.ok.Sy b a) λz=>I.ok.Ls b z a
def Xa.step{g'}{t'}{d'}{ch:b'}(I:Xa X pins σ H s)
  (h:∀ b∈ch,(b∈X.ex\/X.s₀.heap.objs.size<=b)/\b≠X.env.locals/\(∀ x c,X.env.cells.lookup x=BD c->c≠b)/\∀ p∈X.pn++pins,p.1≠b)
  (j:∀ b o,b≠X.env.locals->b ∉ X.fs->b ∉ ch->s.heap.get? b=BD o->H b=A5->h'.get? b=BD o)
  (B:∀ b o,b≠X.env.locals->b∈X.fs->b ∉ ch->s.heap.get? b=BD o->H b=A5->∃ Q,h'.get? b=BD { o with slots:=Q }) (f:∀ b o,b ∉ ch->s.heap.get? b=BD o->H b=A5->H' b=A5)
  (D:∀ b o,b ∉ ch->s.heap.get? b=BD o->∃ L,h'.get? b=BD L)
  (N:∀ b xs,H b=BD (.db xs)->H' b=BD (.db xs)) (G:∀ b o u,H b=BD (.Uc o u)->H' b=BD (.Uc o u)) (M:∀ b ps,H b=BD (.vl ps)->∃ ό,H' b=BD (.vl$ ps++ό))
  (ns:∀ m,s.heap.Ns X.env.locals m->h'.Ns X.env.locals m) (P:Ph X.prog X.w H' h') (Y:qh g') :
  Xa X pins σ H' { s with heap:=h',gens:=g',drawn:=d',toks:=t' }:=by
 have K:∀ b o,X.s₀.heap.get? b=BD o->b≠X.env.locals:=λb o e=>Aa$ La (xa e) I.ok.above;have A:∀ b o,X.s₀.heap.get? b=BD o->b ∉ X.ex->b ∉ ch:=λb o e a C=>by
  rcases(h b C).1 with z|z
  ·exact a z
  ·exact absurd (La (xa e) z)$ Qd _
 have g:∀ x c,X.env.cells.lookup x=BD c->∀ v,s.heap.IsCell c v->h'.IsCell c v:=λx c e v ⟨o,E,ϋ⟩=>by
  have t:c ∉ ch:=λz=>(h c z).2.2.1 x c e rfl;by_cases S:c∈X.fs
  ·obtain⟨Q,q⟩:=B c o (I.UE x c e) S t E (I.bg x c e);exact⟨_,q,ϋ⟩
  ·exact⟨o,j c o (I.UE x c e) S t E$ I.bg x c e,ϋ⟩
 refine⟨I.ok,I.os,Y,⟨λb o e n C a=>?_,λb o e n C a=>?_,λb o e n a=>?_,λb o e a=>?_,λb xs e=>N b xs$ I.base.Uj b xs e,λb o xs e=>G b o xs$ I.base.Ji b o xs e,λb ps e=>?_⟩,?_,λx c e=>?_,?_,λx c e=>?_,λp T=>?_,P,I.len⟩
 ·exact j b o (K b o e) C (A b o e a) (I.base.keep b o e n C a)$ I.base.free b o e n a
 ·obtain⟨Q,y⟩:=I.base.slot b o e n C a;obtain⟨R,F⟩:=B b _ (K b o e) C (A b o e a) y (I.base.free b o e n a);exact⟨R,F⟩
 ·obtain⟨L,y⟩:=I.base.there b o e a;exact f b L (A b o e a) y$ I.base.free b o e n a
 ·obtain⟨L,y⟩:=I.base.there b o e a;exact D b L (A b o e a) y
 ·obtain⟨m1,y⟩:=I.base.wj b ps e;obtain⟨m2,F⟩:=M b _ y;exact⟨m1++m2,by rw[F,Bt]⟩
 ·obtain⟨m,hn,Z⟩:=I.loc;refine⟨m,ns m hn,λi x v y F W=>?_⟩;obtain⟨u,r,l⟩:=Z i x v y F W;refine⟨u,r,?_⟩;rcases l with l|⟨k,c,e,z⟩
  ·exact .inl l
  ·exact .inr ⟨k,c,e,g x c e _ z⟩
 ·obtain⟨v,z⟩:=I.cell x c e;exact⟨v,g x c e v z⟩
 ·obtain⟨m,⟨o,_,_,E,_⟩,_⟩:=I.loc;exact f _ o (λz=>(h _ z).2.1 rfl) E I.free
 ·obtain⟨v,o,E,ϋ⟩:=I.cell x c e;exact f c o (λz=>(h c z).2.2.1 x c e rfl) E$ I.bg x c e
 ·obtain⟨e,n,ϊ,V,d⟩:=I.pin p T;have t:p.1 ∉ ch:=λz=>(h p.1 z).2.2.2 p T rfl;exact⟨j p.1 p.2 ϊ V t e n,f p.1 p.2 t e n,ϊ,V,d⟩
def Xa.un(I:Xa X pins σ H s)(u:Un X.fs [] H H' s.heap h')(g:Ph X.prog X.w H' h'):Xa X pins σ H' { s with heap:=h',toks:=t' }:=by
 obtain⟨m,⟨o,p,l,h,r⟩,_⟩:=id I.loc;obtain⟨v,i⟩:=u.any h I.free ⋯;exact I.step (g':=s.gens) (d':=s.drawn) (ch:=[]) (λq z=>nomatch z) (λb o q f q e n=>u.keep b o e n f ⋯) (λb o q f q e n=>u.slot b o e n f ⋯) (λb o q e n=>u.free b o e n ⋯) (λb o q e=>u.there b o e ⋯) u.Uj u.Ji u.wj (λq j=>by
  obtain⟨t,d,c,a,k⟩:=j;rw[h]at a;cases a;exact⟨_,d,c,i,k⟩) g I.bare
def Xa.call(I:Xa X pins σ H s)(u:Un (yk X.stack) ch H H' s.heap h')(j:Ph X.prog X.w H' h')(q:qh g')
  (d:∀ b∈ch,(b∈X.ex\/X.s₀.heap.objs.size<=b)/\b≠X.env.locals/\(∀ x c,X.env.cells.lookup x=BD c->c≠b)/\∀ p∈X.pn++pins,p.1≠b) :
  Xa X pins σ H' { s with heap:=h',gens:=g',drawn:=d',toks:=t' }:=by
 obtain⟨m,⟨o,A,y,k,r⟩,_⟩:=id I.loc;obtain⟨D,i⟩:=u.any k I.free λz=>(d _ z).2.1 rfl;exact I.step d (λb o i l a e n=>u.keep b o e n (λz=>(Da.mp$ I.Kq b z).elim i l) a) (λb o B B a e n=>u.any e n a) (λb o a e n=>u.free b o e n a) (λb o a e=>u.there b o e a) u.Uj u.Ji u.wj (λB t=>by
  obtain⟨C,h,g,f,v⟩:=t;rw[k]at f;cases f;exact⟨_,h,g,i,v⟩) j q
def Xa.turned(I:Xa X pins σ H s)(k:∀ b o,b≠it->s.heap.get? b=BD o->h'.get? b=BD o)(y:H it=A5)(d:it≠X.env.locals)
  (h:it∈X.ex\/X.s₀.heap.objs.size<=it) (i:∀ x c,X.env.cells.lookup x=BD c->c≠it) (j:∀ p∈X.pn++pins,p.1≠it):Xa X pins σ H { s with heap:=h',toks:=t' }:=by
 refine I.step (g':=s.gens) (ch:=[it]) (λb l=>?_) (λb o m m a e m=>k b o (λz=>a (by simp[z])) e) (λb o m m a e m=>⟨o.slots,k b o (λz=>a (by simp[z])) e⟩) (λm m m m n=>n)
  (λb o a e=>⟨o,k b o (λz=>a (by simp[z])) e⟩) (λm m e=>e) (λm m m e=>e) (λb ps e=>⟨#[],by rw[e];simp⟩) (λm t=>?_) (λb u e=>?_) I.bare
 ·have e:b=it:=by simpa using l
  subst e;exact⟨h,d,i,j⟩
 ·obtain⟨o,g,f,w,r⟩:=t;exact⟨o,g,f,k _ o (Gd d) w,r⟩
 ·refine(I.Cc b u e).Aj (λc v a q=>k c v ?_ q) (λm q=>q) λm m q=>q;rcases a with z|z;all_goals grind
def Xa.tok(I:Xa X pins σ H s) t:Xa X pins σ H { s with toks:=t }:=I.un Un.refl I.Cc
def Xa.kept(I:Xa X pins σ H s)(k:∀ b u,s.heap.get? b=BD u->h'.get? b=BD u):Xa X pins σ H { s with heap:=h',toks:=t' }:=I.un (Un.kept k)$ I.Cc.kept k
def Xa.laid(I:Xa X pins σ H s)(k:∀ b u,s.heap.get? b=BD u->h'.get? b=BD u)(c:s.heap.objs.size<=a)(d:uk X.prog X.w (Sb H a o) h' a o) :
  Xa X pins σ (Sb H a o) { s with heap:=h',toks:=t' }:=I.un (Un.laid k c$ I.Cc.fresh c)$ I.Cc.laid k c d
def Xa.write(I:Xa X pins σ H s)(f:SE$ H x)(d:e=x\/H e=BD (.own x))(k:∀ b u,b≠e->s.heap.get? b=BD u->h'.get? b=BD u)(a:∃ u,h'.get? e=BD u)
  (c:uk X.prog X.w (Sb H x o) h' x o):Xa X pins σ (Sb H x o) { s with heap:=h',toks:=t' }:=I.un (Un.write f d k a)$ I.Cc.write f d k a c
def Xa.ui(I:Xa X pins σ H s)(h:∀ p∈a,s.heap.get? p.1=BD p.2/\H p.1=A5/\p.1≠X.env.locals/\p.1 ∉ X.fs/\∀ v,p.2.data≠.cell v):Xa X a σ H s:=
 ⟨I.ok,I.os,I.bare,I.base,I.loc,I.cell,I.free,I.bg,λp b=>(pi.mp b).elim (λz=>I.pin p$ Ya _ z)$ h p,I.Cc,I.len⟩
def AM{N:ab}(e:N.Nodup){i j:Nat}(a:N[i]?=BD x)(b:N[j]?=BD x):i=j:=by
 obtain⟨f,c⟩:=ba.mp a;obtain⟨g,d⟩:=ba.mp b;exact(Iw e).mp$ c.trans d.symm
def mS(I:Xa X pins σ H s)(hN:X.N.Nodup)(T:X.N[i]?=BD x)(B:Loc X.env.scope x)(r:Zc v u)
  (h:∀ s',Xa X pins (σ.set i$ BD v) H s'->(∃ a,Rc a s.heap s'.heap/\(a=X.env.locals\/X.env.cells.lookup x=BD a))->Q () s') (hf:X.fn x=E8\/X.env.scope.names.lookup x=BD .local:=by first|exact .inl rfl|exact .inr rfl|assumption):wpAny M A (xG X.env x u) Q E s:=by
 obtain⟨m,hn,hl⟩:=id I.loc;have S:(X.env.scope.kind == .class || (X.env.scope.kind == .module && X.env.locals != X.env.globals))=J8:=by rw[I.ok.kind];rfl
 have F:i<σ.length:=by rw[I.len];exact(ba.mp T).1
 have ό:=I.UE;have l:∀ {a:Addr} {h':Heap},(∃ o,s.heap.get? a=BD o/\H a=A5)->Rc a s.heap h'->Ph X.prog X.w H h':=fun {a h'} ha f b ob e=>by
  obtain⟨_,_,C⟩:=ha;refine(I.Cc b ob e).Aj (λc w' t q=>(f.2 c ?_).trans q) (λJ q=>q) λJ J q=>q;rintro rfl;rcases t with rfl|t
  ·rw[C]at e;cases e
  ·rw[C]at t;cases t
 rcases B with G|G
 ·refine wpAny_storeName_local G hn (λh' a0 f=>?_) S;obtain⟨oL,_,_,a1,_⟩:=id hn;refine h _ ⟨I.ok,I.os,I.bare,⟨λb o e n K B=>?_,λb o e n K B=>?_,I.base.free,λb o e B=>?_,I.base.Uj,I.base.Ji,I.base.wj⟩,⟨_,a0,λj y v' g D e3=>?_⟩,λy c e=>?_,I.free,I.bg,λp hp=>?_,l ⟨oL,a1,I.free⟩ f,by simpa using I.len⟩ ⟨_,f,.inl rfl⟩
  ·exact(f.2 b$ Aa$ La (xa e) I.ok.above).trans$ I.base.keep b o e n K B
  ·obtain⟨sl,g⟩:=I.base.slot b o e n K B;exact⟨sl,(f.2 b$ Aa$ La (xa e) I.ok.above).trans g⟩
  ·obtain⟨o',g⟩:=I.base.there b o e B;exact⟨o',(f.2 b$ Aa$ La (xa e) I.ok.above).trans g⟩
  ·by_cases ϋ:j=i
   ·subst ϋ;rw[T]at g;cases g;rw[Pc F]at D;cases D;exact⟨u,r,.inl ⟨G,by simp⟩⟩
   ·rw[Xi$ Gd ϋ]at D;obtain⟨u',r',q⟩:=hl j y v' g D e3;refine⟨u',r',?_⟩;rcases q with⟨k,e⟩|⟨k,c,e,z⟩
    ·refine .inl ⟨k,?_⟩;have:y≠x:=λe=>ϋ$ AM hN g$ e ▸ T;simp[this,e]
    ·exact .inr ⟨k,c,e,z.sameBut f$ ό y c e⟩
  ·obtain⟨w',z⟩:=I.cell y c e;exact⟨w',z.sameBut f$ ό y c e⟩
  ·obtain⟨e,n,Z,nf,d⟩:=I.pin p hp;exact⟨(f.2 p.1 Z).trans e,n,Z,nf,d⟩
 ·have L:X.fn x=E8:=by
   rcases hf with z|z
   ·exact z
   ·rw[z]at G;cases G
  obtain⟨c,t⟩:=I.ok.has x (.inl G);obtain⟨w',z⟩:=I.cell x c t;refine wpAny_storeName_cell I.ok.kind G t z (λh' P f=>?_);obtain⟨oc,ϊ,W⟩:=id z;refine h { s with heap:=h' } ⟨I.ok,I.os,I.bare,⟨λb o e n K B=>?_,λb o e n K B=>?_,I.base.free,λb o e B=>?_,I.base.Uj,I.base.Ji,I.base.wj⟩,⟨m,hn.sameBut f$ Gd$ ό x c t,λj y v' g D e3=>?_⟩,λy Y e=>?_,I.free,I.bg,λp hp=>?_,l ⟨oc,ϊ,I.bg x c t⟩ f,by simpa using I.len⟩ ⟨c,f,.inr t⟩
  ·exact(f.2 b$ Aa$ La (xa e)$ I.ok.ID x c L t).trans$ I.base.keep b o e n K B
  ·obtain⟨sl,g⟩:=I.base.slot b o e n K B;exact⟨sl,(f.2 b$ Aa$ La (xa e)$ I.ok.ID x c L t).trans g⟩
  ·obtain⟨o',g⟩:=I.base.there b o e B;exact⟨o',(f.2 b$ Aa$ La (xa e)$ I.ok.ID x c L t).trans g⟩
  ·by_cases ϋ:j=i
   ·subst ϋ;rw[T]at g;cases g;rw[Pc F]at D;cases D;exact⟨u,r,.inr ⟨.inl G,c,t,P⟩⟩
   ·rw[Xi$ Gd ϋ]at D;obtain⟨u',r',q⟩:=hl j y v' g D e3;refine⟨u',r',?_⟩;rcases q with q|⟨k,Y,e,z'⟩
    ·exact .inl q
    ·refine .inr ⟨k,Y,e,z'.sameBut f ?_⟩;rintro rfl;exact ϋ$ AM hN g$ I.ok.inj _ _ _ e t ▸ T
  ·by_cases R:Y=c
   ·subst R;exact⟨_,P⟩
   ·obtain⟨w2,z2⟩:=I.cell y Y e;exact⟨w2,z2.sameBut f R⟩
  ·obtain⟨e,n,Z,nf,d⟩:=I.pin p hp;refine⟨(f.2 p.1 ?_).trans e,n,Z,nf,d⟩;intro q;rw[q,ϊ]at e;have q':oc=p.2:=Zb e;exact d w' (by rw[<-q'];exact W)
def lJ(I:Xa X pins σ H s)(c:X.N.Nodup)(e:X.N[i]?=BD x)(f:Loc X.env.scope x)(r:Zc v u)
  (h:∀ a,Xa X pins (σ.set i$ BD v) H a->Q () a) (d:X.fn x=E8\/X.env.scope.names.lookup x=BD .local:=by first|exact .inl rfl|exact .inr rfl|assumption):wpAny M A (xG X.env x u) Q E s:=
 mS I c e f r (λa b g=>h a b) d
def Xa.Ou(I:Xa X pins σ H s)(g:s'.os=s.os)(u:Un (yk X.stack) ch H H' s.heap s'.heap)(d:Ph X.prog X.w H' s'.heap)(f:qh s'.gens)
  (a:∀ b∈ch,(b∈X.ex\/X.s₀.heap.objs.size<=b)/\b≠X.env.locals/\(∀ x c,X.env.cells.lookup x=BD c->c≠b)/\∀ p∈X.pn++pins,p.1≠b):Xa X pins σ H' s':=by
 obtain⟨h',g',d',t',h⟩:=s';have e:=g;subst e;exact I.call u d f a
end
abbrev XK:=Value->Option Addr->Hp->Prop
abbrev St:=List$ Option V
abbrev VK:=V->Hp->Prop
abbrev TE:=St->Hp->VK->Prop
abbrev TT:=St->Hp->(Bool->Hp->Prop)->Prop
abbrev TA:=St->Hp->(kv->Hp->Prop)->Prop
structure ck where
 nx:St->Hp->Prop
 rt:VK
 bk:St->Hp->Prop:=λa a=>False
 ct:St->Hp->Prop:=λa a=>False
abbrev TS:=ck->St->Hp->Prop
inductive EP(X:Cx)(pins:i')(σ:St)(Q:VK)(u:Value)(s':Shared):Prop
 |mk (v:V) (H':Hp) (f1:Xa X pins σ H' s') (f2:Zc v u) (f3:Q v H'):EP X pins σ Q u s'
inductive TP(X:Cx)(pins:i')(σ:St)(Q:Bool->Hp->Prop)(b:Bool)(s':Shared):Prop
 |mk (H':Hp) (f1:Xa X pins σ H' s') (f2:Q b H'):TP X pins σ Q b s'
inductive AP(X:Cx)(pins:i')(σ:St)(Q:kv->Hp->Prop)(us:em)(s':Shared):Prop
 |mk (vs:kv) (H':Hp) (f1:Xa X pins σ H' s') (f2:ce vs us) (f3:Q vs H'):AP X pins σ Q us s'
inductive NP(X:Cx)(pins:i')(Q:St->Hp->Prop)(s':Shared):Prop
 |mk (σ':St) (H':Hp) (f1:Xa X pins σ' H' s') (f2:Q σ' H'):NP X pins Q s'
inductive RP(X:Cx)(pins:i')(Q:VK)(u:Value)(s':Shared):Prop
 |mk (v:V) (σ':St) (H':Hp) (f1:Xa X pins σ' H' s') (f2:Zc v u) (f3:Q v H'):RP X pins Q u s'
def SP(X:Cx)(a:List$ Addr × Obj)(D:ck)(f:Flow)(b:Shared):Prop:=
 match f with
 | .next=>NP X a D.nx b
 | .brk=>NP X a D.bk b
 | .cont=>NP X a D.ct b
 | .ret u=>RP X a D.rt u b
def PE(X:Cx)(e:Ia)(t:TE):Prop:=
 ∀ a s σ H Q,Xa X a σ H s->t σ H Q->wpAny (model X.prog X.w) X.A (Qb e X.env) (EP X a σ Q) X.xe s
def PT(X:Cx)(e:Ia)(t:TT):Prop:=
 ∀ a s σ H Q,Xa X a σ H s->t σ H Q->wpAny (model X.prog X.w) X.A (PB e X.env$ Qb e X.env) (TP X a σ Q) X.xe s
def PW(X:Cx)(e:Ia)(t:TT):Prop:=
 ∀ a pins s σ H Q,Xa X pins σ H s->t σ H Q->wpAny (model X.prog X.w) X.A (PB e X.env a) (TP X pins σ Q) X.xe s
def PW.pt(h:PW X e t):PT X e t:=h _
def PA(X:Cx)(b:List Ia)(t:TA):Prop:=
 ∀ a pins s σ H Q,Xa X pins σ H s->t σ H Q->wpAny (model X.prog X.w) X.A (spliced$ Dc a$ wa b X.env) (AP X pins σ Q) X.xe s
def PS(X:Cx)(st:Stmt)(t:TS):Prop:=
 ∀ a s σ H D,Xa X a σ H s->t D σ H->wpAny (model X.prog X.w) X.A (exec st X.env) (SP X a D) X.xe s
def xw(X:Cx)(st:List Stmt)(t:TS):Prop:=
 ∀ a s σ H D,Xa X a σ H s->t D σ H->wpAny (model X.prog X.w) X.A (execs st X.env) (SP X a D) X.xe s
def Bd{t:cn c}{Q b}(h:wpAny M A t Q E s)(d:∀ a s,Q a s->b a s):wpAny M A t b E s:=gc h d λe e x=>x
section
variable{X:Cx}
def bin(p:PE X a k)(q:PE X b l){R:V->V->Hp->Prop}(I:Xa X c e H s)(h:k e H λx j=>l e j λy d=>R x y d) {Q} {f:Value->Value->cn m}
  (r:∀ v u s2 x y d,Xa X c e d s2->Zc x v->Zc y u->R x y d->wpAny (model X.prog X.w) X.A (f v u) Q X.xe s2) :
  wpAny (model X.prog X.w) X.A (Qb a X.env) (λv g=>wpAny (model X.prog X.w) X.A (Qb b X.env) (λu i=>wpAny (model X.prog X.w) X.A (f v u) Q X.xe i) X.xe g) X.xe s:=by
 refine Bd (p c s e H _ I h) λv s1 ⟨x,j,n,B,t⟩=>(Bd (q c s1 e j _ n t) λu s2 ⟨y,d,o,C,z⟩=>?_)
 exact r v u s2 x y d o B C z
noncomputable def vW(i:Nat):TE:=λa H Q=>∃ v,a[i]?=BD (BD v)/\Q v H
noncomputable def tC(v:V):TE:=λa H Q=>Q v H
def rW(o:X.N[i]?=BD x)(w:cG X.env.scope x)(j:(x == ("__debug__" : Str))=J8:=by decide)(g:(x == ("__classdict__" : Str))=J8:=by decide):PE X (.Name x k)$ vW i:=by
 intro f s y H Q I h;obtain⟨v,e,h⟩:=h;obtain⟨m,t,p⟩:=I.loc;obtain⟨u,r,l⟩:=p i x v o e w;have b:EP X f y Q u s:=⟨v,H,I,r,h⟩
 rcases l with⟨d,q⟩|⟨d,c,n,a⟩
 ·exact CB (jy I.ok.kind d t q b) j
 ·rcases d with d|d
  ·exact CB (Hz I.ok.kind d n a b) j
  ·exact CB (wpAny_loadName_free I.ok.kind d n a b g) j
def æ{i j pos}:PE X (.Constant (.int i) j pos)$ tC$ .int i:=λa a a H a I h=>wpAny_Constant_int ⟨.int i,H,I.tok _,⟨_,rfl⟩,h⟩
def yoy{b j pos}:PE X (.Constant (.bool b) j pos)$ tC$ .bl b:=λa a a H a I h=>Constant_bool ⟨.bl b,H,I,rfl,h⟩
def Β{j pos}:PE X (.Constant .none j pos)$ tC .ec:=λa a a H a I h=>Constant_none ⟨.ec,H,I,rfl,h⟩
def G5{x j pos}:PE X (.Constant (.str x) j pos)$ tC$ .str x:=λa a a H a I h=>Calls.Constant_str ⟨.str x,H,I.tok _,⟨_,rfl⟩,h⟩
def Gl(X:Cx)(x:Str):Prop:=X.env.kindOf x=BD .globalImplicit
def JE(I:Xa X a f H s)(d:Gl X x)(e:X.mg x=BD u)(h:Q u s)
  (c:(x == ("__debug__" : Str))=J8:=by decide):wpAny (model X.prog X.w) X.A (Qb (.Name x b) X.env) Q E s:=
 Sm I.ok.kind d (Calls.loadGlobal_global (by rw[I.ok.glob];exact I.mod.glob.keeps I.bk) e h) c
def Ny(I:Xa X a k H s)(f:Gl X x)(g:X.mg x=A5)(j:bootBuiltins x=BD u)(h:Q u s)
  (i:x ≠ "__name__":=by decide) (e:(x == ("__debug__" : Str))=J8:=by decide):wpAny (model X.prog X.w) X.A (Qb (.Name x b) X.env) Q E s:=by
 obtain⟨l,c,d⟩:=I.mod.blt;exact Sm I.ok.kind f (Calls.loadGlobal_builtin (by rw[I.ok.glob];exact I.mod.glob.keeps I.bk) g (by rw[I.ok.blt];exact c.keeps I.bk) ((d x i).trans j) h) e
def xN(c:Gl X x)(d:X.mg x=BD u)(r:Zc v u)(b:(x == ("__debug__" : Str))=J8:=by decide):PE X (.Name x a)$ tC v:=
 λe e e H e I h=>JE I c d ⟨v,H,I,r,h⟩ b
def zwz(c:Gl X x)(d:X.mg x=A5)(f:bootBuiltins x=BD u)(r:Zc v u)(e:x ≠ "__name__":=by decide)(b:(x == ("__debug__" : Str))=J8:=by decide):PE X (.Name x a)$ tC v:=
 λg g g H g I h=>Ny I c d f ⟨v,H,I,r,h⟩ e b
variable{a b:Ia}{ta tb:TE}{pos:Td}
def PC(X:Cx)(f:lp)(a b:Ia)(t:TE):Prop:=
 ∀ c s σ H Q,Xa X c σ H s->t σ H Q->
  wpAny (model X.prog X.w) X.A (Qb a X.env) (λv d=>wpAny (model X.prog X.w) X.A (Qb b X.env) (λu e=>wpAny (model X.prog X.w) X.A (Jb f v u) (EP X c σ Q) X.xe e) X.xe d) X.xe s
def Ú b{a}(h:a≠.In)(e:a≠.NotIn):be a b=J8:=by
 have c:(a == UP)=J8:=by cases a<;>first|rfl|exact absurd rfl h
 have d:(a == aE)=J8:=by cases a<;>first|rfl|exact absurd rfl e
 cases b<;>simp[be,c,d]
noncomputable def tB(t:TE):TT:=λb H Q=>t b H λx a=>∃ c,x=.bl c/\Q c a
def yha(h:PC X g a b t)(f:be g b=J8:=by first|exact Ú _ ⋯ ⋯|rfl):PT X (.Compare a [g] [b] pos)$ tB t:=by
 intro e s n H Q I k;refine Jw (Bd (h e s n H _ I k) λv s1 f=>Bd f λu s2 j=>Bd j λc s3 ſ=>?_) f;obtain⟨x,H1,i,m,l⟩:=ſ;obtain⟨d,rfl,q⟩:=l;cases m;exact jd ⟨H1,i,q⟩
def U5(h:PE X e t)(f:∀ a,PB e X.env a=(do let v <-a;ai e.pos;Pe [v] (truthy v)):=by intro _;rfl):PT X e$ tB t:=by
 intro b s k H Q I g;refine isTrue_plain (Bd (h b s k H _ I g) λv s1 ⟨x,H1,c,j,i⟩=>?_)$ f _;obtain⟨d,rfl,q⟩:=i;cases j;exact jd ⟨H1,c,q⟩
variable{tA tB':TT}{rest:List Ia}
noncomputable def J6(t u:TT):TT:=λb H Q=>t b H λc a=>if c=E8 then u b a Q else Q J8 a
noncomputable def Ŝ(t u:TT):TT:=λb H Q=>t b H λc a=>if c=E8 then Q E8 a else u b a Q
noncomputable def P0(t:TT):TT:=λb H Q=>t b H λc a=>Q (!c) a
def zxm(d:PT X a tA):PW X (.BoolOp .And [a] pos) tA:=by
 intro g b s f H Q I h;refine isTrue_and (Bd (d b s f H Q I h) λc s1 e=>?_);cases c with
 |true=>exact isTrue_and_nil e
 |false=>exact e
def yhg(d:PT X a tA):PW X (.BoolOp .Or [a] pos) tA:=by
 intro g b s f H Q I h;refine isTrue_or (Bd (d b s f H Q I h) λc s1 e=>?_);cases c with
 |false=>exact isTrue_or_nil e
 |true=>exact e
def Λ(i:PT X a tA)(j:PW X (.BoolOp .And (b::rest) pos) tB'):PW X (.BoolOp .And (a::b::rest) pos)$ J6 tA tB':=by
 intro k d s g H Q I h;refine isTrue_and (Bd (i d s g H _ I h) λc s1 ſ=>?_);obtain⟨H1,e,f⟩:=ſ;cases c with
 |true=>exact j k d s1 g H1 Q e f
 |false=>exact⟨H1,e,f⟩
def j6(i:PT X a tA)(j:PW X (.BoolOp .Or (b::rest) pos) tB'):PW X (.BoolOp .Or (a::b::rest) pos)$ Ŝ tA tB':=by
 intro k d s g H Q I h;refine isTrue_or (Bd (i d s g H _ I h) λc s1 ſ=>?_);obtain⟨H1,e,f⟩:=ſ;cases c with
 |true=>exact⟨H1,e,f⟩
 |false=>exact j k d s1 g H1 Q e f
def ó(c:PT X a tA):PT X (.UnaryOp .Not a pos)$ P0 tA:=by
 intro b s d H Q I h;exact isTrue_not (Bd (c b s d H _ I h) λ_ _ ⟨H1,i,q⟩=>⟨H1,i,q⟩)
noncomputable def Ç(ta tb:TE):TE:=λb H Q=>ta b H λx a=>∃ c,x=.bl c/\if c=E8 then tb b a Q else Q (.bl J8) a
noncomputable def Y0(ta tb:TE):TE:=λb H Q=>ta b H λx a=>∃ c,x=.bl c/\if c=E8 then Q (.bl E8) a else tb b a Q
noncomputable def É(ta:TE):TE:=λb H Q=>ta b H λx a=>∃ c,x=.bl c/\Q (.bl$ !c) a
def WZ{op}(h:PE X a t):PE X (.BoolOp op [a] pos) t:=λb s d H Q I c=>BoolOp_one$ h b s d H Q I c
def w5(i:PE X a ta)(j:PE X (.BoolOp .And (b::rest) pos) tb):PE X (.BoolOp .And (a::b::rest) pos)$ Ç ta tb:=by
 intro d s g H Q I h;refine BoolOp_and (Bd (i d s g H _ I h) λv s1 ſ=>?_);obtain⟨x,H1,f,k,e⟩:=ſ;obtain⟨c,rfl,e⟩:=e;cases k;refine jd ?_;cases c with
 |true=>exact j d s1 g H1 Q f e
 |false=>exact⟨.bl J8,H1,f,rfl,e⟩
def F9(i:PE X a ta)(j:PE X (.BoolOp .Or (b::rest) pos) tb):PE X (.BoolOp .Or (a::b::rest) pos)$ Y0 ta tb:=by
 intro d s g H Q I h;refine BoolOp_or (Bd (i d s g H _ I h) λv s1 ſ=>?_);obtain⟨x,H1,f,k,e⟩:=ſ;obtain⟨c,rfl,e⟩:=e;cases k;refine jd ?_;cases c with
 |false=>exact j d s1 g H1 Q f e
 |true=>exact⟨.bl E8,H1,f,rfl,e⟩
def ygn(f:PE X a ta):PE X (.UnaryOp .Not a pos)$ É ta:=by
 intro b s i H Q I h;refine UnaryOp_ (Bd (f b s i H _ I h) λv s1 ſ=>?_);obtain⟨x,H1,e,g,d⟩:=ſ;obtain⟨c,rfl,d⟩:=d;cases g;exact not_of$ jd ⟨.bl$ !c,H1,e,rfl,d⟩
noncomputable def V1(t:TT)(ta tb:TE):TE:=λa H Q=>t a H λc b=>if c=E8 then ta a b Q else tb a b Q
def zoe(l:PT X c tA)(j:PE X a ta)(k:PE X b tb):PE X (.IfExp c a b pos)$ V1 tA ta tb:=by
 intro e s f H Q I h;refine wpAny_IfExp (Bd (l e s f H _ I h) λd s1 ſ=>?_);obtain⟨H1,g,i⟩:=ſ;cases d with
 |true=>exact j e s1 f H1 Q g i
 |false=>exact k e s1 f H1 Q g i
end
def Te(K:W.Frag)(H:Hp)(a:Addr)(xs:kv):Prop:=
 Rd H a (.qa xs)\/
  ∃ (o:Obj) (b:Array Value) (n:Nat),K.lookup a=BD o/\o.cls=.type "list"/\o.dict=A5/\o.data=.seq b n/\b.size<=sizeLine/\ce xs b.toList
def dh(K:W.Frag)(H:Hp)(a:Addr)(xs:kv):Prop:=
 Rd H a (.db xs)\/
  ∃ (o:Obj) (b:Array Value) (n:Nat),K.lookup a=BD o/\o.cls=.type "tuple"/\o.data=.seq b n/\b.size<=sizeLine/\ce xs b.toList
noncomputable def ė:Value->Option V
 | .none=>BD .ec
 | .bool b=>BD (.bl b)
 | .int i _=>BD (.int i)
 | .str x _=>BD (.str x)
 | .bytes b _=>BD (.BJ b)
 | .float b _=>BD (.IA b)
 | .ref a=>BD (.ref a)
 | .type n=>BD (.ty n)
 |_=>A5
theorem Zc.abs(r:Zc x u):ė u=BD x:=by
 cases x with
 |ec=>cases r;rfl
 |bl _=>cases r;rfl
 |int _=>obtain⟨t,rfl⟩:=r;rfl
 |str _=>obtain⟨t,rfl⟩:=r;rfl
 |BJ _=>obtain⟨t,rfl⟩:=r;rfl
 |IA _=>obtain⟨t,rfl⟩:=r;rfl
 |ref _=>cases r;rfl
 |ty _=>cases r;rfl
def Zc.inj(r:Zc x u)(q:Zc y u):x=y:=Zb$ r.abs.symm.trans q.abs
theorem ce.inj{xs a:kv}{us}(h:ce xs us)(g:ce a us):xs=a:=by
 induction h generalizing a with
 |nil=>cases g;rfl
 |cons r t i=>cases g with|cons b c=>rw[r.inj b,i c]
section
variable{X:Cx}{pins:List$ Addr × Obj}{σ:St}{H:Hp}{s:Shared}{a:Addr}{xs ys:kv}
def Te.of{K}(h:H a=BD (.qa xs)):Te K H a xs:=.inl$ .inl h
def dh.of{K}(h:H a=BD (.db xs)):dh K H a xs:=.inl$ .inl h
def Xa.list(I:Xa X pins σ H s)(h:Te X.K H a xs):∃ b:em,ce xs b/\PlainL s.heap a b.toArray/\xs.length<=sizeLine:=by
 rcases h with h|⟨o,b,n,f,c,d,g,i,r⟩
 ·obtain⟨z,b,n,r,e⟩:=h.ok I.Cc;exact⟨b,r,⟨_,n,e,rfl,rfl,rfl⟩,z⟩
 ·refine⟨b.toList,r,⟨o,n,I.Ki a o f,c,d,by simpa using g⟩,?_⟩;have e:=r.length;simp[Ib]at e
  lia
def Xa.tuple(I:Xa X pins σ H s)(h:dh X.K H a xs):∃ b:em,ce xs b/\IsTup s.heap a b.toArray/\xs.length<=sizeLine:=by
 rcases h with h|⟨o,b,n,d,c,f,g,r⟩
 ·obtain⟨z,b,r,p⟩:=h.ok I.Cc;exact⟨b,r,p,z⟩
 ·refine⟨b.toList,r,⟨o,I.Ki a o d,c,n,by simpa using f⟩,?_⟩;have e:=r.length
  simp_all
def Xa.Fj(I:Xa X pins σ H s)(h:Te X.K H a xs)(h':Te X.K H a ys):xs=ys:=by
 obtain⟨b,r,⟨o,n,e,_,_,d⟩,_⟩:=I.list h;obtain⟨its',f,⟨i,g,c,_,_,d'⟩,_⟩:=I.list h';rw[e]at c;cases c;rw[d]at d';injection d' with d1 _;have:b=its':=by simpa using Eb Array.toList d1
 subst this;exact r.inj f
def Xa.Rs(I:Xa X pins σ H s)(h:dh X.K H a xs)(h':dh X.K H a ys):xs=ys:=by
 obtain⟨b,r,⟨o,e,_,n,d⟩,_⟩:=I.tuple h;obtain⟨its',f,⟨i,c,_,g,d'⟩,_⟩:=I.tuple h';rw[e]at c;cases c;rw[d]at d';injection d' with d1 _;have:b=its':=by simpa using Eb Array.toList d1
 subst this;exact r.inj f
end
section
variable{X:Cx}{st:Stmt}{rest:List Stmt}{t u:TS}{e:Ia}{te:TE}{pos:Td}
noncomputable def Ľ:TS:=λD a H=>D.nx a H
noncomputable def A8(t u:TS):TS:=λD a H=>t { D with nx:=u D } a H
def xQ:xw X [] Ľ:=λb b a H b I h=>nj ⟨a,H,I,h⟩
def sT(e:PS X st t)(g:xw X rest u):xw X (st::rest)$ A8 t u:=by
 intro a s i H D I h;refine pG (Bd (e a s i H { D with nx:=u D } I h) λf s1 q=>?_);cases f with
 |next=>
  obtain⟨b,c,d,q⟩:=q;exact g a s1 b c D d q
 |ret v=>exact q
 |brk=>exact q
 |cont=>exact q
def P2(b:PS X st t):xw X [st] t:=by
 intro a s c H D I h;refine pG (Bd (b a s c H D I h) λf s1 q=>?_);cases f with
 |next=>exact nj q
 |ret v=>exact q
 |brk=>exact q
 |cont=>exact q
def Xa.quiet(I:Xa X a b H s):interactive X.env=J8:=by simp[interactive,I.ok.kind]
noncomputable def yqy(te:TE):TS:=λD a H=>te a H λc b=>D.nx a b
def B3(d:PE X e te)(f:Lg e A5 pos.line X.env=pure J8:=by rfl):PS X (.Expr e pos)$ yqy te:=by
 intro a s b H D I h;exact wpAny_Expr_any (Bd (d a s b H _ I h) λv s1 ⟨x,H1,c,i,g⟩=>⟨b,H1,c,g⟩) I.quiet f
noncomputable def P9(te:TE):TS:=λD a H=>te a H D.rt
def L3(d:PE X e te):PS X (.Return (BD e) pos)$ P9 te:=by
 intro a s b H D I h;exact wpAny_Return_some (Bd (d a s b H _ I h) λv s1 ⟨x,H1,c,g,f⟩=>⟨x,b,H1,c,g,f⟩)
noncomputable def F4(c:TT)(t u:TS):TS:=λD a H=>c a H λb d=>if b=E8 then t D a d else u D a d
def pQ(m:PT X c j)(k:xw X a t)(l:xw X b u):PS X (.If c a b pos)$ F4 j t u:=by
 intro e s f H D I h;refine wpAny_If (Bd (m e s f H _ I h) λd s1 ſ=>?_);obtain⟨H1,g,i⟩:=ſ;cases d with
 |true=>exact k e s1 f H1 D g i
 |false=>exact l e s1 f H1 D g i
end
abbrev TG:=V->St->Hp->(St->Hp->Prop)->Prop
abbrev Hy:=kv->St->Hp->(St->Hp->Prop)->Prop
def PG(X:Cx)(a:Ia)(t:TG):Prop:=
 ∀ b s σ H v u Q,Xa X b σ H s->Zc v u->t v σ H Q->
  wpAny (model X.prog X.w) X.A (om a X.env u) (λd c=>NP X b Q c) X.xe s
def OF(X:Cx)(d:List Ia)(t:Hy):Prop:=
 ∀ a s σ H b us Q,Xa X a σ H s->ce b us->t b σ H Q->
  wpAny (model X.prog X.w) X.A (assignInOrder ((ze d X.env).map (·.2)) us) (λe c=>NP X a Q c) X.xe s
abbrev ZG:=V->V->V->Hp->(Hp->Prop)->Prop
def GM(X:Cx)(t:ZG):Prop:=
 ∀ a s σ H o i v d c u Q,Xa X a σ H s->Zc o d->Zc i c->Zc v u->t o i v H Q->
  wpAny (model X.prog X.w) X.A (Rv d c u) (λf e=>∃ b,Xa X a σ b e/\Q b) X.xe s
abbrev GI:=V->V->Hp->VK->Prop
def GO(X:Cx)(b:jk)(t:GI):Prop:=
 ∀ a s σ H x y v u Q,Xa X a σ H s->Zc x v->Zc y u->t x y H Q->
  wpAny (model X.prog X.w) X.A (yG b v u) (EP X a σ Q) X.xe s
section
variable{X:Cx}{pos:Td}
noncomputable def yU(i:Nat):TG:=λv a H Q=>Q (a.set i$ BD v) H
def zw6(c:X.N.Nodup)(e:X.N[i]?=BD x)(f:Loc X.env.scope x)(d:X.fn x=E8\/X.env.scope.names.lookup x=BD .local:=by first|exact .inl rfl|exact .inr rfl|assumption):PG X (.Name x pos)$ yU i:=by
 intro a s j H v u Q I r h;exact OD$ lJ I c e f r (λg b=>⟨_,H,b,h⟩) d
noncomputable def Ň:Hy:=λa b H Q=>a=[]/\Q b H
noncomputable def Ē(t:TG)(u:Hy):Hy:=λc d H Q=>∃ v r,c=v::r/\t v d H λa b=>u r a b Q
def l5:OF X [] Ň:=by
 intro a s b H d c Q I r h;obtain⟨rfl,h⟩:=h;cases r;exact assignInOrder_nil ⟨b,H,I,h⟩
def Š(f:PG X e t)(g:OF X b u)
  (i:(ze (e::b) X.env).map (·.2)=om e X.env::(ze b X.env).map (·.2):=by rfl):OF X (e::b)$ Ē t u:=by
 intro a s l H vs m Q I r h;obtain⟨v,n,rfl,h⟩:=h;cases r with
 |cons r k=>
  rw[i];exact assignInOrder_cons (Bd (f a s l H _ _ _ I r h) λ_ s1 ⟨c,H1,d,j⟩=>(g a s1 c H1 _ _ Q d k j))
noncomputable def Χ(K:W.Frag)(n:Nat)(t:Hy):TG:=λv b H Q=>∃ a xs,v=.ref a/\dh K H a xs/\xs.length=n/\t xs b H Q
def i5(l:X.de=E8)(h:OF X d t)
  (p:(ze d X.env).length=n:=by rfl) (f:(ze d X.env).findIdx? (·.1)=A5:=by rfl):PG X (.Tuple d k pos)$ Χ X.K n t:=by
 intro c s i H v u Q I r g;obtain⟨a,xs,rfl,q,m,g⟩:=g;cases r;obtain⟨y,z,w,A⟩:=I.tuple q;refine assign_Tuple_tuple (I.ok.hd l) w (by simp[p,<-m,z.length]) f λh' x=>?_;have j:Xa X c i H { s with heap:=h' }:=I.kept λb o e=>x b o (Aa$ xa e) e;exact h c _ i H xs _ Q j ⋯ g
noncomputable def Ņ(f e:TE)(t:ZG):TG:=λv a H Q=>f a H λo b=>e a b λi c=>t o i v c λd=>Q a d
def yV(q:PE X o f)(p:PE X i e)(w:GM X t)
  (n:∀ v,om (.Subscript o i pos) X.env v=(do
   let b <-Pe [v] (Qb o X.env);let c <-Pe [v,b] (Qb i X.env)
   ai pos
   Pe [v,b,c] (Rv b c v)
   release [v,b,c] []):=by intro _;rfl):PG X (.Subscript o i pos)$ Ņ f e t:=by
 intro a s d H v u Q I r h;rw[n];refine aa$ cc (Bd (q a s d H _ I h) λb s1 ⟨x,H1,k,C,z⟩=>(aa$ cc$ Bd (p a s1 d H1 _ k z) λc s2 ⟨y,g,l,D,A⟩=>?_));refine aa$ Ct$ aa$ cc (Bd (w a s2 d g x y v b c u _ l C D r A) λE s3 ſ=>?_);obtain⟨j,m,B⟩:=ſ;exact wpAny_release ⟨d,j,m,B⟩
noncomputable def AR(c:TE)(g:TG):TS:=λD a H=>c a H λx b=>g x a b D.nx
def cT(j:PE X e c)(k:PG X b g)(l:Nt [b] e pos.line X.env=pure J8:=by rfl)(m:Ot [b] e X.env=pure A5:=by rfl)
  (i:(ze [b] X.env).map (·.2)=[om b X.env]:=by rfl):PS X (.Assign [b] e pos)$ AR c g:=by
 intro a s d H D I h;refine wpAny_Assign_stores (Bd (j a s d H _ I h) λv s1 ſ=>?_) l m;obtain⟨x,H1,f,o,n⟩:=ſ;rw[i];exact Bd (k a s1 d H1 x v _ f o n) λp s2 q=>q
def T5(g:X.N.Nodup)(l:X.N[i]?=BD x)(n:Loc X.env.scope x)(j:PE X e c)(m:Lg e (BD$ .Name x a) pos.line X.env=pure J8:=by rfl)(k:X.fn x=E8\/X.env.scope.names.lookup x=BD .local:=by first|exact .inl rfl|exact .inr rfl|assumption) :
  PS X (.Assign [.Name x a] e pos)$ AR c$ yU i:=by
 intro b s q H D I h;exact wpAny_Assign_Name (Bd (j b s q H _ I h) λv s1 ⟨y,H1,d,p,o⟩=>(lJ d g l n p (λs2 f=>⟨_,H1,f,o⟩) k)) m
noncomputable def V7(i:Nat)(d:TE)(e:GI):TS:=λD a H=>∃ x,a[i]?=BD (BD x)/\d a H λy b=>e x y b λz c=>D.nx (a.set i$ BD z) c
def L8(M:X.N.Nodup)(t:X.N[i]?=BD x)(n:Loc X.env.scope x)(P:PE X e B)(ϊ:GO X o C)(Q:X.fn x=E8\/X.env.scope.names.lookup x=BD .local:=by first|exact .inl rfl|exact .inr rfl|assumption) :
  PS X (.AugAssign (.Name x f) o e pos)$ V7 i B C:=by
 intro a s E H D I h;obtain⟨v,L,h⟩:=h;obtain⟨m,T,R⟩:=I.loc;have p:cG X.env.scope x:=by rcases n with k|k;exact .inl k;exact .inr$ .inl k
 obtain⟨u,r,l⟩:=R i x v t L p;refine wpAny_AugAssign_Name ?_;have q:wpAny (model X.prog X.w) X.A (Qb e X.env) (λw g=>wpAny (model X.prog X.w) X.A (yG o u w) (λr j=>wpAny (model X.prog X.w) X.A (xG X.env x r) (λz=>SP X a D .next) X.xe j) X.xe g) X.xe s:=by
  refine Bd (P a s E H _ I h) λw s1 ⟨y,H1,G,Y,V⟩=>(Bd (ϊ a s1 E H1 v y u w _ G r Y V) λz s2 ⟨zv,F,ό,Z,W⟩=>?_)
  exact lJ ό M t n Z (λs3 K=>⟨_,F,K,W⟩) Q
 rcases l with⟨b,S⟩|⟨b,c,ϋ,d⟩
 ·exact jy I.ok.kind b T S q
 ·rcases b with b|b
  ·exact Hz I.ok.kind b ϋ d q
  ·rcases n with k|k
   ·have:X.env.scope.names.lookup x=BD .free:=b;rw[k]at this;cases this
   ·have:X.env.scope.names.lookup x=BD .free:=b;rw[k]at this;cases this
noncomputable def yW(f:Int->Int->Int):GI:=λx y H Q=>∃ i j,x=.int i/\y=.int j/\Q (.int$ f i j) H
def xV:GO X .Add (yW λi j=>i+j):=by
 rintro a s f H x y v u Q I d e ⟨i,j,b,c,q⟩;subst b;subst c;obtain⟨t,rfl⟩:=d;obtain⟨t',rfl⟩:=e;exact iadd_int ⟨.int _,H,I.tok _,⟨_,rfl⟩,q⟩
end
structure It where
 go:Nat->Hp->Prop
 eD:Nat->Hp->V->Hp->Prop
 stop:Nat->Hp->Prop
def Nk(X:Cx)(a:List$ Addr × Obj)(H:Hp)(b:Addr):Prop:=
 H b=A5/\b≠X.env.locals/\b ∉ X.fs/\(b∈X.ex\/X.s₀.heap.objs.size<=b)/\(∀ x c,X.env.cells.lookup x=BD c->c≠b)/\∀ p∈X.pn++a,p.1≠b
def Xa.Jm(I:Xa X a i H s)(d:s.heap.objs.size<=b)(g:f b=A5):Nk X a f b:=by
 refine⟨g,Pd$ La I.lt d,I.uF d,.inr$ lb I.sz d,λx c e z=>?_,λp h z=>?_⟩
 ·obtain⟨v,q⟩:=I.cell x c e;exact absurd (La q.lt$ by simp_all)$ Qd _
 ·exact absurd (La (xa (I.pin p h).1)$ by simp_all)$ Qd _
structure Rm(P:Ba)(w:Ra)(K:W.Frag)(tg:Ia)(ό:It)(fp:b')(it:Addr)(tn:Nat->Heap->Prop):Prop where
 mem:it∈fp
 obj:∀ i h,tn i h->∀ b∈fp,∃ o,h.get? b=BD o/\∀ v,o.data≠.cell v
 keep:∀ i h h',tn i h->(∀ b∈fp,∀ o,h.get? b=BD o->h'.get? b=BD o)->tn i h'
 item:∀ (X:Cx),X.prog=P->X.w=w->X.K=K->X.de=E8->∀ (i:Nat) (pins:i') (s:Shared) (σ:St) (H:Hp) (E:Value->Shared->Prop),Xa X pins σ H s->(∀ b∈fp,Nk X pins H b)->tn i s.heap->ό.go i H->
  wpAny (model P w) X.A (pyNext (.ref it)) (λr s1=>∃ u,r=BD u/\
   wpAny (model P w) X.A (letOwnedTupleGo tg (.ref it) u) (λa s2=>∃ x H',Xa X pins σ H' s2/\Zc x u/\ό.eD i H x H'/\tn (i+1) s2.heap/\∀ b∈fp,H' b=A5) E s1) E s
 done:∀ (X:Cx),X.prog=P->X.w=w->X.K=K->X.de=E8->∀ (i:Nat) (pins:i') (s:Shared) (σ:St) (H:Hp) (E:Value->Shared->Prop),Xa X pins σ H s->(∀ b∈fp,Nk X pins H b)->tn i s.heap->ό.stop i H->
  wpAny (model P w) X.A (pyNext (.ref it)) (λr s1=>r=A5/\Xa X pins σ H s1) E s
 self:∀ (A:Ma) (i:Nat) (s:Shared) (Q:Value->Shared->Prop) (E:Value->Shared->Prop),tn i s.heap->Q (.ref it) s->wpAny (model P w) A (pyIter (.ref it)) Q E s
abbrev TI:=St->Hp->(It->Hp->Prop)->Prop
def zX(X:Cx)(a:List$ Addr × Obj)(i:St)(h:Ia)(R:It->Hp->Prop)(d:Value)(s2:Shared):Prop:=
 ∃ (f:Addr) (e:b') (g:Nat->Heap->Prop) (ό:It) (c:Hp),d=.ref f/\Xa X a i c s2/\Rm X.prog X.w X.K h ό e f g/\g 0 s2.heap/\(∀ b∈e,Nk X a c b)/\R ό c
def PI(X:Cx)(c b:Ia)(d:TI):Prop:=
 ∀ a s σ H R,Xa X a σ H s->d σ H R->
  wpAny (model X.prog X.w) X.A (Qb b X.env) (λv s1=>wpAny (model X.prog X.w) X.A (pyIter v) (zX X a σ c R) X.xe s1) X.xe s
def BE (g : s.heap.get? b = BD o) (e : o.cls = .type n) (f : o.data = .fields d)
    (h : ["enumerate","zip","dict_itemiterator","dict_reverseitemiterator","odict_iterator","itertools.zip_longest","itertools.pairwise"].contains n = J8) (a : Q () s) : wpAny M A (letOwnedTupleGo c (.ref b) u) Q E s := by
  cases c <;> first
    | exact ga a
    | (cases u <;> first
        | exact ga a
        | (refine aa$ km g ?_
           rw [e, f];show wpAny M A (if (["enumerate","zip","dict_itemiterator","dict_reverseitemiterator","odict_iterator","itertools.zip_longest","itertools.pairwise"].contains n && d[0]? == BD _) = E8 then _ else _) Q E s;rw [pa ⋯];exact ga a))
noncomputable def JK(K:W.Frag)(a:Addr):It:=
 ⟨λi H=>∃ xs x,Te K H a xs/\xs[i]?=BD x,λi H x b=>b=H/\∀ xs,Te K H a xs->xs[i]?=BD x,λi H=>∃ xs,Te K H a xs/\xs.length<=i⟩
noncomputable def SO(K:W.Frag)(a:Addr):It:=
 ⟨λi H=>∃ xs x,dh K H a xs/\xs[i]?=BD x,λi H x b=>b=H/\∀ xs,dh K H a xs->xs[i]?=BD x,λi H=>∃ xs,dh K H a xs/\xs.length<=i⟩
noncomputable def uK(lo:Int)(n:Nat):It:=⟨λi b=>i<n,λi H x a=>a=H/\x=.int (lo+i),λi b=>n<=i⟩
def X8{P:Ba}{w:Ra}{K:W.Frag}{ϊ:Ia}(a j:Addr):Rm P w K ϊ (JK K a) [j] j (λi h=>h.IsListIter j a i) where
 mem:=by simp
 obj:=λi h st b g=>by
  have e:b=j:=by simpa using g
  subst e;obtain⟨o,e,c,d⟩:=st
  simp_all
 keep:=λi h h' st k=>st.at λo e=>k j ⋯ o e
 item:=by
  intro X A C z ό i f s L H E I m st B;subst A C z;obtain⟨xs,x,n,D⟩:=B;obtain⟨F,G,p,S⟩:=I.list n;obtain⟨u,Q,T⟩:=G.get D;obtain⟨q,r,ϋ,t,v,y⟩:=m j ⋯;refine wpAny_pyNext_list_item st p.isList (by simpa using Q) λh' l sb=>?_;have M:Xa X f L H { s with heap:=h' }:=I.turned (t':=s.toks) (λb o g e=>(sb.2 b g).trans e) q r t v y;obtain⟨o,e,c,d⟩:=id l;exact⟨u,rfl,BE (s:={ s with heap:=h' }) e c d ⋯ ⟨x,H,M,T,⟨rfl,λY R=>by rw[I.Fj R n];exact D⟩,l,λb g=>(m b g).1⟩⟩
 done:=by
  intro X A C z ό i f s L H E I m st B;subst A C z;obtain⟨xs,n,D⟩:=B;obtain⟨F,G,p,S⟩:=I.list n;obtain⟨q,r,ϋ,t,v,y⟩:=m j ⋯;have V:=G.length;exact wpAny_pyNext_list_end (I.ok.hd ό) st p.isList (by simp;lia) λh' N=>⟨rfl,I.turned (t':=s.toks) (λb o g e=>N b o g e) q r t v y⟩
 self:=λJ J J J J st h=>wpAny_pyIter_listiter st h
def œ{P:Ba}{w:Ra}{K:W.Frag}{T:Ia}(a j:Addr):Rm P w K T (SO K a) [j] j (λi h=>h.IsTupleIter j a i) where
 mem:=by simp
 obj:=λi h st b g=>by
  have e:b=j:=by simpa using g
  subst e;obtain⟨o,e,c,d⟩:=st
  simp_all
 keep:=λi h h' st k=>st.at λo e=>k j ⋯ o e
 item:=by
  intro X B D A ό i f s L H E I n st C;subst B D A;obtain⟨xs,x,q,F⟩:=C;obtain⟨l,G,p,R⟩:=I.tuple q;obtain⟨u,V,S⟩:=G.get F;obtain⟨r,t,ϋ,v,y,z⟩:=n j ⋯;refine wpAny_pyNext_tuple_item st (show s.heap.IsTuple a l.toArray from p) (x:=u) ⋯ λh' m sb=>?_;have M:Xa X f L H { s with heap:=h' }:=I.turned (t':=s.toks) (λb o g e=>(sb.2 b g).trans e) r t v y z;obtain⟨o,e,c,d⟩:=id m;exact⟨u,rfl,BE (s:={ s with heap:=h' }) e c d ⋯ ⟨x,H,M,S,⟨rfl,λY Q=>by rw[I.Rs Q q];exact F⟩,m,λb g=>(n b g).1⟩⟩
 done:=by
  intro X B D A ό i f s L H E I n st C;subst B D A;obtain⟨xs,q,F⟩:=C;obtain⟨l,G,p,R⟩:=I.tuple q;obtain⟨r,t,ϋ,v,y,z⟩:=n j ⋯;have ϊ:=G.length;exact wpAny_pyNext_tuple_end (I.ok.hd ό) st (show s.heap.IsTuple a l.toArray from p) (by simp;lia) λh' N=>⟨rfl,I.turned (λb o g e=>N b o g e) r t v y z⟩
 self:=λJ J J J J st h=>wpAny_pyIter_tupleiter st h
def N6{P:Ba}{w:Ra}{K:W.Frag}{L:Ia}(c:Addr)(lo:Int)(n:Nat):Rm P w K L (uK lo n) [c] c (λi h=>IsRangeIter h c (lo+(i:Nat) * 1) ((n:Int) - (i:Nat)) 1) where
 mem:=by simp
 obj:=λi h st b d=>by
  simp_all
 keep:=λi h h' st k=>k c ⋯ _ st
 item:=by
  intro X u z r x i a s B H E I g st y;subst u z r;obtain⟨j,l,F,m,p,q⟩:=g c ⋯;refine(Walks.range (I.ok.hd x) c lo 1 n).item i s _ _ y st λv h' A G f ό=>?_;obtain⟨t,rfl⟩:=G;have C:Xa X a B H { s with heap:=h',toks:=A }:=I.turned (λb o d e=>ό b o (by simpa using d) e) j l m p q;refine⟨_,rfl,BE (s:={ s with heap:=h',toks:=A }) (n:="range_iterator") f rfl rfl ⋯ ⟨.int _,H,C,⟨t,?_⟩,⟨rfl,rfl⟩,f,λb d=>(g b d).1⟩⟩;rw[Int.mul_one]
 done:=by
  intro X u z r x i a s B H E I g st y;subst u z r;obtain⟨j,l,F,m,p,q⟩:=g c ⋯;exact wpAny_pyNext_range_end (I.ok.hd x) st (by have:n<=i:=y;lia) λh' D=>⟨rfl,I.turned (t':=s.toks) (λb o d e=>D b o d e) j l m p q⟩
 self:=λv v v v v st h=>wpAny_pyIter_rangeiter st h
section
variable{X:Cx}{tg:Ia}
def YZ{lo a}(I:Xa X c f H s)(j:-(2 ^ 62)<=lo)(k:lo<2 ^ 62)(l:-(2 ^ 62)<=a)(m:a<2 ^ 62)
  (q:R (uK lo (a - lo).toNat) H):wpAny (model X.prog X.w) X.A (pyIter$ .ref s.heap.objs.size) (zX X c f tg R) E { s with heap:=s.heap.push { cls:=.type "range",data:=.fields #[.int lo t,.int a u,.int 1 v] },toks:=g }:=by
 refine wpAny_pyIter_range (IsRange.new ..) (small_one j k l m) ?_;have d:Xa X c f H { s with heap:=s.heap.push { cls:=.type "range",data:=.fields #[.int lo t,.int a u,.int 1 v] },toks:=g }:=I.kept λb o e=>da _ e;refine⟨(s.heap.push { cls:=.type "range",data:=.fields #[.int lo t,.int a u,.int 1 v] }).objs.size,[(s.heap.push { cls:=.type "range",data:=.fields #[.int lo t,.int a u,.int 1 v] }).objs.size],_,_,H,rfl,
  d.kept λb o e=>da _ e,N6 _ lo (a - lo).toNat,?_,λb n=>?_,q⟩
 ·have h:lo+(0:Nat) * 1=lo:=by simp
  have i:(((a - lo).toNat:Nat):Int) - ((0:Nat):Int)=zG lo a 1:=by rw[rangeSize_one];split<;>lia
  rw[h,i];exact Ca _ rfl
 ·have e:b=(s.heap.push { cls:=.type "range",data:=.fields #[.int lo t,.int a u,.int 1 v] }).objs.size:=by simpa using n
  subst e;exact d.Jm (va _)$ d.Cc.fresh$ va _
def N7(b:TA):TI:=λd H R=>b d H λc a=>∃ j:Int,c=[.int j]/\-(2 ^ 62)<=j/\j<2 ^ 62/\R (uK 0 j.toNat) a
def zis(i:Gl X "range")(k:X.mg "range" = A5)(g:PA X [a] e)(l:wa [a] X.env=[(J8,Qb a X.env)]:=by rfl):PI X tg (.Call (.Name "range" p) [a] [] c)$ N7 e:=by
 intro b s u H R I h;refine Call_$ Ny I i k boot_range$ we (Bd (g c b s u H _ I h) λus s1 ſ=>?_) l rfl;obtain⟨v,H1,f,n,d⟩:=ſ;obtain⟨j,rfl,d,m,q⟩:=d;cases n with
 |cons r o=>
  cases o;obtain⟨t,rfl⟩:=r;exact call_range_1$ YZ f ⋯ ⋯ d m ⋯
noncomputable def Ι(k:TI)(g:TG)(j:TS):TS:=λD a H=>k a H λό f=>∃ W:Nat->Nat->St->Hp->Prop,(∃ m,W 0 m a f)/\∀ i m a H,W i m a H->
 (ό.stop i H/\D.nx a H)\/(ό.go i H/\∃ N:St->Hp->Prop,(∀ c b,N c b->∃ e,e<m/\W (i+1) e c b)/\∀ x b,ό.eD i H x b->g x a b λd h=>j { D with nx:=N,ct:=N,bk:=D.nx } d h)
noncomputable def VE(a:b')(h:Heap):List$ Addr × Obj:=a.filterMap λb=>(h.get? b).map λo=>(b,o)
def WG(c:b∈a)(e:h.get? b=BD o):(b,o)∈VE a h:=ju.mpr ⟨b,c,by rw[e];rfl⟩
def K5(d:p∈VE a h):p.1∈a/\h.get? p.1=BD p.2:=by
 obtain⟨b,f,e⟩:=ju.mp d;cases q:h.get? b with
 |none=>simp_all
 |some o=>
  rw[q]at e;have c:=Zb e;subst c
  simp_all
def Xa.pinned(I:Xa X a g H s)(h:∀ b∈c,Nk X a H b)(i:∀ b∈c,∃ o,s.heap.get? b=BD o/\∀ v,o.data≠.cell v):Xa X (a++VE c s.heap) g H s:=
 I.ui λp j=>(pi.mp j).elim (λz=>I.pin p$ Va _ z) λz=>by
  obtain⟨f,e⟩:=K5 z;obtain⟨l,m,n,_⟩:=h p.1 f;obtain⟨o,k,d⟩:=i p.1 f
  simp_all
def Xa.zj(I:Xa X (a++pl) b H s):Xa X a b H s:=I.ui λp c=>I.pin p$ Va _$ Ya _ c
def xZ(L:Co (model X.prog X.w) X.A X.env X.xe)(hc:X.de=E8)(hi:PI X tg q wi)(hg:PG X tg g)(p:xw X C tb)
  (hs:∀ x,oe q X.env x=pure x:=by intro _;rfl):PS X (.For tg q C [] Y)$ Ι wi g tb:=by
 intro a s σ H D I h;refine wpAny_For (Bd (hi a s σ H _ I h) λv s1 h1=>Bd h1 λa2 s2 h2=>?_) hs;obtain⟨it,G,tn,ό,H2,e,I2,T,a0,f2,W,⟨m0,w0⟩,Q⟩:=h2;subst e;have t:∀ {B:Hp},(∀ b∈G,B b=A5)->∀ b∈G,Nk X a B b:=λhn b p=>⟨hn b p,(f2 b p).2⟩
 refine codeAny_forLoop_any (λn s'=>∃ i y B,Xa X a y B s'/\tn i s'.heap/\(∀ b∈G,B b=A5)/\W i n y B) ?_ m0 ⟨0,σ,H2,I2,a0,λb p=>(f2 b p).1,w0⟩;rintro n s3 ⟨i,z,R,I3,ϋ,K,w3⟩;rcases Q i n z R w3 with⟨P,qn⟩|⟨go,N,hN,step⟩
 ·refine Yg L (Bd (T.done X rfl rfl rfl hc i a s3 z R X.xe I3 (t K) ϋ P) λr s4 ⟨V,I4⟩=>?_);subst V;exact nj ⟨z,R,I4,qn⟩
 ·refine Yg L (Bd (T.item X rfl rfl rfl hc i a s3 z R X.xe I3 (t K) ϋ go) λr s4 ſ=>?_);obtain⟨u,V,h4⟩:=ſ;subst V;refine Yg L (Bd h4 λr s5 ſ=>?_);obtain⟨x,H5,I5,r5,y5,F,ϊ⟩:=ſ;have S:=I5.pinned (t ϊ)$ T.obj _ _ F;refine Yg L (Bd (hg _ s5 z H5 x u _ S r5$ step x H5 y5) λr s6 ſ=>?_);obtain⟨a1,H6,I6,q6⟩:=ſ;refine Yg L (Bd (p _ s6 a1 H6 _ I6 q6) λf Z E=>?_);have l:∀ {c:St} {j:Hp},Xa X (a++VE G s5.heap) c j Z->N c j->∃ m,m<n/\∃ i y B,Xa X a y B Z/\tn i Z.heap/\(∀ b∈G,B b=A5)/\W i m y B:=fun {c j} k M=>by
   obtain⟨m',hm,w7⟩:=hN c j M;refine⟨m',hm,i+1,c,j,k.zj,T.keep _ _ _ F λb p o e=>(k.pin (b,o)$ Va _$ Va _$ WG p e).1,λb p=>?_,w7⟩;obtain⟨o,e,d⟩:=T.obj _ _ F b p;exact(k.pin (b,o)$ Va _$ Va _$ WG p e).2.1
  cases f with
  |next=>obtain⟨c,j,k,M⟩:=E;exact l k M
  |cont=>obtain⟨c,j,k,M⟩:=E;exact l k M
  |brk=>obtain⟨c,j,k,E⟩:=E;exact⟨c,j,k.zj,E⟩
  |ret v=>obtain⟨x7,c,j,k,r7,E⟩:=E;exact⟨x7,c,j,k.zj,r7,E⟩
end
abbrev R2:=V->V->Hp->VK->Prop
def wh(X:Cx)(f:Value->Value->cn Value)(r:R2):Prop:=
 ∀ a s σ H x y v u Q,Xa X a σ H s->Zc x v->Zc y u->r x y H Q->
  wpAny (model X.prog X.w) X.A (f v u) (EP X a σ Q) X.xe s
def jH(X:Cx)(f:Value->cn Value)(r:V->Hp->VK->Prop):Prop:=
 ∀ a s σ H x v Q,Xa X a σ H s->Zc x v->r x H Q->
  wpAny (model X.prog X.w) X.A (f v) (EP X a σ Q) X.xe s
def To(X:Cx)(f:Value)(r:kv->Hp->VK->Prop):Prop:=
 ∀ a s σ H xs us Q,Xa X a σ H s->ce xs us->r xs H Q->
  wpAny (model X.prog X.w) X.A (call f us) (EP X a σ Q) X.xe s
noncomputable def HC(r:R2)(d e:TE):TE:=λa H Q=>d a H λx b=>e a b λy c=>r x y c Q
def Y2(r:V->Hp->VK->Prop)(b:TE):TE:=λc H Q=>b c H λx a=>r x a Q
def rI(C:Int->Int->Prop)(g:Int->Int->V):R2:=λx y H Q=>∃ i j,x=.int i/\y=.int j/\C i j/\Q (g i j) H
noncomputable def Vq(g:Int->Int->V):R2:=λx y H Q=>∃ i j,x=.int i/\y=.int j/\Q (g i j) H
def rU(g:Int->V):V->Hp->VK->Prop:=λx H Q=>∃ i,x=.int i/\Q (g i) H
section
variable{X:Cx}{a b c:Ia}{ta tb tc:TE}{pos:Td}
def pL(m:PE X a ta)(n:PE X b tb){c}{R:V->V->Hp->Prop}(I:Xa X c e H s)
  (h:ta e H λx j=>tb e j λy d=>R x y d) {f:Value->Value->cn Value}
  (o:∀ v u s2 x y d,Xa X c e d s2->Zc x v->Zc y u->R x y d->wpAny (model X.prog X.w) X.A (f v u) Q X.xe s2) :
  wpAny (model X.prog X.w) X.A (Qb a X.env) (λv g=>wpAny (model X.prog X.w) X.A (Qb b X.env) (λu i=>wpAny (model X.prog X.w) X.A (f v u) Q X.xe i) X.xe g) X.xe s:=by
 exact Bd (m c s e H _ I h) λv s1 ⟨x,j,k,r,p⟩=>(Bd (n c s1 e j _ k p) λu s2 ⟨y,d,l,t,q⟩=>(o v u s2 x y d l r t q))
def Ũ(j:wh X (pe d) r)(g:PE X a ta)(i:PE X b tb):PE X (.BinOp a d b pos)$ HC r ta tb:=by
 intro c s m H Q I h;exact wpAny_BinOp (pL g i I h λv u s2 x y e f k l q=>j c s2 m e x y v u Q f k l q)
def o0{c}(g:jH X (unaryOp c) r)(f:PE X a ta):PE X (.UnaryOp c a pos)$ Y2 r ta:=by
 intro b s d H Q I h;exact UnaryOp_ (Bd (f b s d H _ I h) λv s1 ⟨x,H1,e,j,i⟩=>g b s1 d H1 x v Q e j i)
def NI{g:Int->Int->Int}
  (a:∀ i j t u s Q E,C i j->Q (.int (g i j) s.toks) { s with toks:=s.toks+1 }->wpAny (model X.prog X.w) X.A (f (.int i t)$ .int j u) Q E s) :
  wh X f (rI C λi j=>.int$ g i j):=by
 rintro b s h H x y v u Q I d e ⟨i,j,rfl,rfl,c,q⟩;obtain⟨t,rfl⟩:=d;obtain⟨t',rfl⟩:=e;exact a i j t t' s _ _ c ⟨.int _,H,I.tok _,⟨_,rfl⟩,q⟩
def lR{g:Int->Int->Int}
  (a:∀ i j t u s Q E,Q (.int (g i j) s.toks) { s with toks:=s.toks+1 }->wpAny (model X.prog X.w) X.A (f (.int i t)$ .int j u) Q E s) :
  wh X f (Vq λi j=>.int$ g i j):=by
 rintro b s e H x y v u Q I c d ⟨i,j,rfl,rfl,q⟩;obtain⟨t,rfl⟩:=c;obtain⟨t',rfl⟩:=d;exact a i j t t' s _ _ ⟨.int _,H,I.tok _,⟨_,rfl⟩,q⟩
def TH{g:Int->Int->Bool}
  (a:∀ i j t u s Q E,Q (.bool$ g i j) s->wpAny (model X.prog X.w) X.A (f (.int i t)$ .int j u) Q E s) :
  wh X f (Vq λi j=>.bl$ g i j):=by
 rintro b s e H x y v u Q I c d ⟨i,j,rfl,rfl,q⟩;obtain⟨t,rfl⟩:=c;obtain⟨t',rfl⟩:=d;exact a i j t t' s _ _ ⟨.bl _,H,I,rfl,q⟩
def zR(i j:Int):Prop:=0<j/\j<1073741824
def wU(i j:Int):Prop:=0<=j/\j<=1000000/\i.natAbs<2 ^ 64
def kI(i j:Int):Prop:=(-(2 ^ 64)<i/\i<2 ^ 64)\/(-(2 ^ 64)<j/\j<2 ^ 64)
def kI.ok(h:kI i j):IntMulOk i j:=by
 rcases h with⟨a,b⟩|⟨a,b⟩
 ·exact .of_left$ BZ a b
 ·exact .of_right$ BZ a b
def þ:wh X (pe .Add) (Vq λi j=>.int$ i+j):=lR λa a a a a a a q=>add_int q
def Q8:wh X (pe .Sub) (Vq λi j=>.int$ i - j):=lR λa a a a a a a q=>sub_int q
def ygb:wh X (pe .Mult) (rI kI λi j=>.int$ i * j):=NI λb b b b b b b a q=>mul_int q a.ok
def zwv:wh X (pe .FloorDiv) (rI zR λi j=>.int$ i / j):=NI λi j d d d d d a q=>by
 have b:(0:Int)<j:=a.1;have c:j<1073741824:=a.2;exact floordiv_int ⋯ (by rw[Int.fdiv_eq_ediv_of_nonneg i ⋯];exact q)$ .inl$ PyProof.noPylong_small ⋯
def wW:wh X (pe .Mod) (rI (λb j=>0<j) λi j=>.int$ i % j):=NI λi j b b b b b a q=>by
 exact mod_int' ⋯ (by rw[Int.fmod_eq_emod_of_nonneg i ⋯];exact q)
def yge:wh X (pe .Pow) (rI wU λi j=>.int$ i ^ j.toNat):=NI λb b b b b b b a q=>pow_int_small a.1 a.2.1 a.2.2 q
def F6{g:Int->Int}
  (a:∀ i t s Q E,Q (.int (g i) s.toks) { s with toks:=s.toks+1 }->wpAny (model X.prog X.w) X.A (f$ .int i t) Q E s) :
  jH X f (rU λi=>.int$ g i):=by
 rintro b s d H x v Q I c ⟨i,rfl,q⟩;obtain⟨t,rfl⟩:=c;exact a i t s _ _ ⟨.int _,H,I.tok _,⟨_,rfl⟩,q⟩
def Ļ:jH X (unaryOp .USub) (rU λi=>.int$ -i):=F6 λd d d d d q=>neg_int q
end
section
variable{X:Cx}{a b c:Ia}{ta tb tc:TE}{pos:Td}
def sU{a}{c}{k b}(I:Xa X a c H s)(q:Q (.bl k) H)(e:k=b):EP X a c Q (.bool b) s:=by
 subst e;exact⟨.bl k,H,I,rfl,q⟩
def gE:wh X (Jb .Lt) (Vq λi j=>.bl$ decide$ i<j):=TH λa a a a a a a q=>lt_int q
def mG:wh X (Jb .LtE) (Vq λi j=>.bl$ decide$ i<=j):=TH λa a a a a a a q=>le_int q
def wX:wh X (Jb .Gt) (Vq λi j=>.bl$ decide$ j<i):=TH λa a a a a a a q=>gt_int q
def eL:wh X (Jb .GtE) (Vq λi j=>.bl$ decide$ j<=i):=TH λa a a a a a a q=>ge_int q
theorem pR:wh X (Jb .Is) (λx y H Q=>y=.ec/\Q (.bl$ decide$ x=.ec) H):=by
 rintro a s d H x y v u Q I b c ⟨rfl,q⟩;cases c;refine is_none_gen$ sU I q ?_;cases x<;>first
  |(cases b;rfl)
  |(obtain⟨t,rfl⟩:=b;rfl)
theorem WR:wh X (Jb .IsNot) (λx y H Q=>y=.ec/\Q (.bl$ !decide (x=.ec)) H):=by
 rintro a s d H x y v u Q I b c ⟨rfl,q⟩;cases c;refine isnot_none_gen$ sU I q ?_;cases x<;>first
  |(cases b;rfl)
  |(obtain⟨t,rfl⟩:=b;rfl)
def Qm b{a}(h:a≠.In:=by decide)(e:a≠.NotIn:=by decide):be a b=J8:=by
 have c:(a == UP)=J8:=by cases a<;>first|rfl|exact absurd rfl h
 have d:(a == aE)=J8:=by cases a<;>first|rfl|exact absurd rfl e
 cases b<;>simp[be,c,d]
def L9(k:wh X (Jb d) r)(g:PE X a ta)(i:PE X b tb)(j:be d b=J8):PE X (.Compare a [d] [b] pos)$ HC r ta tb:=by
 intro c s n H Q I h;exact wpAny_Compare1 (pL g i I h λv u s2 x y e f l m q=>k c s2 n e x y v u Q f l m q) j
noncomputable def Z6(t:TE):TT:=λb H Q=>t b H λx a=>∃ k,x=.bl k/\Q k a
def cK(t:wh X (Jb f) r)(o:PE X a ta)(p:PE X b tb)(q:be f b=J8):PT X (.Compare a [f] [b] pos)$ Z6$ HC r ta tb:=by
 intro d s g H Q I h;refine Jw (Bd (o d s g H _ I h) λv s1 ⟨x,H1,l,C,w⟩=>Bd (p d s1 g H1 _ l w) λu s2 ⟨y,i,m,D,A⟩=>
  Bd (t d s2 g i x y v u _ m C D A) λc s3 ⟨z,j,n,E,k,e,B⟩=>?_) q
 subst e;cases E;exact jd ⟨j,n,B⟩
noncomputable def V2(r f:R2)(ta tb tc:TE):TE:=λa H Q=>ta a H λx c=>tb a c λy d=>r x y d λz b=>∃ k,z=.bl k/\
 (if k=E8 then tc a b λg e=>f y g e Q else Q (.bl J8) b)
def zob(ό:wh X (Jb l) r)(j:wh X (Jb g) p)(D:PE X a ta)(E:PE X b tb)(F:PE X c tc)
  (G:lastMarks [l,g] [b,c]=J8:=by with_unfolding_all rfl):PE X (.Compare a [l,g] [b,c] pos)$ V2 r p ta tb tc:=by
 intro f s i H Q I h;refine Compare_chain (Bd (D f s i H _ I h) λv s1 ⟨x,H1,A,N,K⟩=>chain_link (Bd (E f s1 i H1 _ A K) λu s2 ⟨y,t,B,q,L⟩=>
  Bd (ό f s2 i t x y v u _ B N q L) λd s3 ⟨z,m,n,ϋ,k,e,o⟩=>?_)) G
 subst e;cases ϋ;refine jd ?_;cases k with
 |false=>exact ite_ff ⟨.bl J8,m,n,rfl,o⟩
 |true=>exact ite_tt$ chain_last (Bd (F f s3 i m _ n o) λR s4 ⟨S,w,C,P,M⟩=>j f s4 i w y S u R Q C q P M)
def lH: sizeLine <2 ^ 63:=by rw[ky];decide
def ľ:wh X (pe .Add) (λx y H Q=>∃ i j,x=.str i/\y=.str j/\i.length+j.length<=sizeLine/\Q (.str$ i++j) H):=by
 rintro a s f H x y v u Q I c d ⟨i,j,rfl,rfl,b,q⟩;obtain⟨t,rfl⟩:=c;obtain⟨t',rfl⟩:=d;exact add_str (λt' e=>⟨.str _,H,I.tok _,⟨_,rfl⟩,q⟩) b
def vt{a}(r:ce [x] a):∃ u,a=[u]/\Zc x u:=by
 cases r with
 |cons b c=>cases c;exact⟨_,rfl,b⟩
def D7{a}(r:ce [x,y] a):∃ u b,a=[u,b]/\Zc x u/\Zc y b:=by
 cases r with
 |cons c d=>
  cases d with
  |cons e f=>cases f;exact⟨_,_,rfl,c,e⟩
end
structure Nq(h:Heap)(x dx C:Addr)(mA:Str->Option Value):Prop where
 obj:h.get? x=BD (W.instObj C dx)
 ns:h.Ns1 dx mA
 ne:dx≠x
set_option tactic.hygienic true in
def ξ{h:Heap}(n:h.Ns1 d f):∃ g,h.get? d=BD g/\∀ b,W.lookIn b g=BD (f b):=by
 obtain⟨o,i,r,m,j,k,_,l⟩:=n;refine⟨o,m,λb=>?_⟩;have e:=l b;unfold nsFind findBy at e;rw[<-Array.find?_toList]at e;unfold W.lookIn;rw[j];dsimp only;split
 ·rename_i y q
  simp_all
 ·rename_i q
  have a:i.toList.any (·.refKey)=J8:=by
   rw[Av];intro y p;obtain⟨z,t,c⟩:=k y (Array.mem_toList_iff.mp p);simp[zaG,c]
  simp_all
def Nq.look(I:Nq h x c C d):∃ b,W.InstAt h x (W.instObj C c) C (BD b)/\∀ a,W.lookIn a b=BD (d a):=
 let ⟨b,f,e⟩:=ξ I.ns
 ⟨b,⟨I.obj,rfl,rfl,f⟩,e⟩
section
variable{prog:Ba}{w:Ra}{A:Ma}{E:Value->Shared->Prop}{s:Shared}{K:W.Frag}{x dx C f:Addr}{mA:Str->Option Value}{name:Str}{v:Value}
def ztm(X:K.In s.heap)(I:Nq s.heap x dx C mA)(d:W.plainGet K C name=E8)(e:W.hasDictIn K C=E8)
  (c:W.findIn K (.ref C) name=BD A5) (g:mA name=BD v) (b:W.handedIn v=E8) (h:Q v { s with toks:=s.toks+1 }) :
  wpAny (model prog w) A (getAttr (.ref x) name a) Q E s:=by
 obtain⟨i,ό,f⟩:=I.look;exact W.get_value X ό (W.plainGet_of d).1 (W.findObj_own e c rfl$ by simp_all) b h
def W2(X:K.In s.heap)(I:Nq s.heap x dx C mA)(a:W.plainGet K C name=E8)
  (b:W.findIn K (.ref C) name=BD (BD$ .ref f)) (d:W.isFn K (.ref f)=E8) (e:mA name=A5) (h:Q (.ref f,[.ref x]) s) :
  wpAny (model prog w) A (Ni (.ref x) name pl) Q E s:=by
 obtain⟨g,ό,c⟩:=I.look;exact W.method_fn X ό (W.plainGet_of a).1 (W.plainGet_of a).2 b (Bf.mp d) (by show (W.lookIn name g).map (·.isSome)=BD J8;rw[c,e];rfl) h
def R0(X:K.In s.heap)(I:Nq s.heap x dx C mA)
  (p:W.findIn K (.ref C) "__setattr__" = BD (BD$ .builtin "object.__setattr__")) (o:W.plainOver K C=E8) (t:W.takerIn K C name=BD A5) (n:W.hasDictIn K C=E8)
  (u:PySem.Within mA j) (q:j.length<=sizeLine)
  (h:∀ h',Nq h' x dx C (λy=>if y=name then BD v else mA y)->Rc dx s.heap h'->Q () { s with heap:=h',toks:=s.toks+2 }) :
  wpAny (model prog w) A (setAttr (.ref x) name v) Q E s:=by
 obtain⟨F,ό,D⟩:=I.look;refine W.set_plain X ό p (W.osa_open (s:={ s with toks:=s.toks+1 }) (r:=A5) X ό o t λb=>?_);obtain⟨B,m,f⟩:=W.any_some n;have z:=I.obj;refine aa$ ga$ aa$ aa$ wpAny_loadPart z$ aa$ W.Looks.here (s:={ s with toks:=s.toks+1 }) (W.looks_clsIn X m) ?_;rw[f];refine ga (a:=BD dx)$ aa$ ga$ aa (wpAny_nsSet1 (s:={ s with toks:=s.toks+1 }) I.ns λh' c d=>?_);obtain⟨oD,l,k,i,g,e⟩:=c.count (IJ name v u);exact aa$ wpAny_lookBehind i (by rw[g];exact pastItsLine_dict$ lb e (by rw[gb];lia))$ ga$ h _ ⟨(d.2 _$ Gd I.ne).trans I.obj,c,I.ne⟩ d
def Y8(X:K.In s.heap)(i:W.makesIn K C=E8)
  (e:W.findIn K (.ref C) "__init__" = BD (BD$ .ref f)) (c:W.typeIn K (.ref f)=BD (.type "function"))
  (h:codeAny (model prog w) (A.under$ .builtin "type.__call__" ⟨.ref C::b,kw⟩) (.call (.ref f) ⟨.ref (s.heap.objs.size+1)::b,kw⟩) (W.InitBack (s.heap.objs.size+1) R)
   { s with heap:=(s.heap.push W.emptyDict).push (W.instObj C s.heap.objs.size) }) :
  codeAny (model prog w) A (.call (.ref C) ⟨b,kw⟩) R s:=by
 obtain⟨j,g,d,t,k⟩:=s;exact W.make_core (W.makes_of X i) (W.looks_findIn X e) (λa=>W.bind_fn X a c) (.inl rfl) h
end
noncomputable def Mm(f:Str)(v:V):List (Str × V)->List (Str × V)
 |[]=>[(f,v)]
 |(g,x)::r=>if g=f then (g,v)::r else (g,x)::Mm f v r
theorem NQ(f g:Str)(v:V):∀ c:List$ Str × V,(Mm f v c).lookup g=if g=f then BD v else c.lookup g
 |[]=>by
  show List.lookup g [(f,v)]=_;by_cases h:g=f
  ·have a:(g == f)=E8:=Bf.mpr h;simp only[List.lookup,a,ja h]
  ·have a:(g == f)=J8:=vd.mpr h;simp only[List.lookup,a,pa h]
 |(k,x)::r=>by
  have d:=NQ f g v r;rw[show Mm f v _=(if k=f then (k,v)::r else (k,x)::Mm f v r)from rfl];by_cases b:k=f
  ·rw[ja b];by_cases h:g=k
   ·have a:(g == k)=E8:=Bf.mpr h;simp[List.lookup,a,ja$ h.trans b]
   ·have a:(g == k)=J8:=vd.mpr h;simp only[List.lookup,a,pa (λe:g=f=>h$ e.trans b.symm)]
  ·rw[pa b];by_cases h:g=k
   ·have a:(g == k)=E8:=Bf.mpr h;simp only[List.lookup,a,pa (λe:g=f=>b$ h.symm.trans e)]
   ·have a:(g == k)=J8:=vd.mpr h;simp only[List.lookup,a];exact d
theorem OM(f:Str)(v:V):∀ a:List$ Str × V,f∈(Mm f v a).map (·.1)/\∀ g,g∈a.map (·.1)->g∈(Mm f v a).map (·.1)
 |[]=>⟨by simp[Mm],λg h=>by simp at h⟩
 |(k,x)::r=>by
  obtain⟨c,d⟩:=OM f v r;rw[show Mm f v _=(if k=f then (k,v)::r else (k,x)::Mm f v r)from rfl];by_cases b:k=f
  ·rw[ja b]
   grind
  ·rw[pa b];refine⟨?_,λg h=>?_⟩
   ·rw[Sa];exact ra _ c
   ·rw[Sa]at h ⊢;rcases Da.mp h with e|e
    ·exact Da.mpr$ .inl e
    ·exact ra _$ d g e
theorem oW(f:Str)(v:V):∀ a:List$ Str × V,(Mm f v a).length<=a.length+1
 |[]=>by simp[Mm]
 |(k,x)::r=>by
  have c:=oW f v r;rw[show Mm f v _=(if k=f then (k,v)::r else (k,x)::Mm f v r)from rfl];by_cases b:k=f;all_goals simp_all
def Zn.some_of(r:Zn (BD v) o):∃ u,o=BD u/\Zc v u:=by
 cases o with
 |none=>exact(r).elim
 |some u=>exact⟨u,rfl,r⟩
def Zn.none_of(r:Zn A5 o):o=A5:=by
 cases o with
 |none=>rfl
 |some u=>exact(r).elim
theorem zhd(r:Zc v u):W.handedIn u=E8:=by
 cases v with
 |ec=>cases (r);rfl
 |bl b=>cases (r);rfl
 |int i=>obtain⟨t,e⟩:=(r);cases e;rfl
 |str x=>obtain⟨t,e⟩:=(r);cases e;rfl
 |BJ b=>obtain⟨t,e⟩:=(r);cases e;rfl
 |IA b=>obtain⟨t,e⟩:=(r);cases e;rfl
 |ref a=>cases (r);rfl
 |ty n=>cases (r);rfl
section
variable{P:Ba}{w:Ra}{H H':Hp}{h h':Heap}{a C dx:Addr}{fs fs':List$ Str × V}
def MI(c:Ph P w H h)(e:H a=BD (.yb C dx fs)):∃ b,Nq h a dx C b/\(∀ f,Zn (fs.lookup f) (b f))/\PySem.Within b (fs.map (·.1))/\fs.length<=1000/\H dx=BD (.own a):=by
 obtain⟨d,z,g,ob,b,n,r,q⟩:=(c a _ e)
 exact⟨b,⟨ob,n,g⟩,r,q,z,d⟩
end
structure zr(K:W.Frag)(C:Addr):Prop where
 pg:W.plainGet K C Str.empty=E8
 hd:W.hasDictIn K C=E8
 po:W.plainOver K C=E8
 sa:W.findIn K (.ref C) "__setattr__" = BD (BD (.builtin "object.__setattr__"))
def zr.get{K}(c:zr K C) f:W.plainGet K C f=E8:=c.pg
def Yx(K:W.Frag)(C:Addr)(f:Str):Prop:=W.findIn K (.ref C) f=BD A5
theorem Yx.fE{K}(n:Yx K C f):W.takerIn K C f=BD A5:=by
 unfold W.takerIn;rw[n];rfl
structure Su(K:W.Frag)(C:Addr)(m:Str)(f:Addr):Prop where
 at_:W.findIn K (.ref C) m=BD (BD (.ref f))
 fn:W.isFn K (.ref f)=E8
 kp:W.keepIn K (.ref f)=E8
section
variable{X:Cx}{pins:List$ Addr × Obj}{σ:St}{H:Hp}{s:Shared}{a C dx:Addr}{fs:List$ Str × V}{f:Str}{v:V}{A:Ma}{E:Value->Shared->Prop}
def tX(I:Xa X pins σ H s)(e:H a=BD (.yb C dx fs))(c:zr X.K C)(n:Yx X.K C f)(l:fs.lookup f=BD v)
  (h:∀ u g,Xa X pins σ H g->Zc v u->Q u g):wpAny (model X.prog X.w) A (getAttr (.ref a) f b) Q E s:=by
 obtain⟨j,ϋ,r,_,_,_⟩:=MI I.Cc e;obtain⟨u,i,d⟩:=Zn.some_of (by rw[<-l];exact r f);exact ztm I.Ki ϋ (c.get f) c.hd n i (zhd d)$ h u _ (I.tok _) d
def HK(I:Xa X pins σ H s)(e:H a=BD (.yb C dx fs))(c:zr X.K C)(k:Su X.K C m g)(l:fs.lookup m=A5)
  (h:Q (.ref g,[.ref a]) s):wpAny (model X.prog X.w) A (Ni (.ref a) m pl) Q E s:=by
 obtain⟨d,ϋ,r,_,_,_⟩:=MI I.Cc e;have b:=Zn.none_of (by rw[<-l];exact r m);exact W2 I.Ki ϋ (c.get m) k.at_ k.fn b h
def KS(I:Xa X pins σ H s)(e:H a=BD (.yb C dx fs))(c:zr X.K C)(n:Yx X.K C f)(F:fs.length<1000)(D:Zc y u)
  (h:∀ k,Xa X pins σ (Sb H a$ .yb C dx$ Mm f y fs) k->Q () k):wpAny (model X.prog X.w) A (setAttr (.ref a) f u) Q E s:=by
 obtain⟨j,ϋ,r,l,_,i⟩:=MI I.Cc e;have B:(fs.map (·.1)).length<=sizeLine:=by rw[Oa,ky];lia
 refine R0 I.Ki ϋ c.sa c.po n.fE c.hd l B λh' d sb=>h _ ?_;have t:∃ o,h'.get? dx=BD o:=let ⟨o,_,_,m,_⟩:=d.ns;⟨o,m⟩;refine I.write (x:=a) (e:=dx) (by rw[e];exact True.intro) (.inr i) (λb q p z=>(sb.2 b p).trans z) t ?_;refine⟨by rw[ud ϋ.ne];exact i,?_,ϋ.ne,d.obj,_,d.ns,λg=>?_,λg v=>?_⟩
 ·have:=oW f y fs;lia
 ·show Zn ((Mm f y fs).lookup g) (if g=f then BD u else j g);rw[NQ];by_cases q:g=f
  ·rw[ja q,ja q];exact D
  ·rw[pa q,pa q];exact r g
 ·by_cases q:g=f
  ·rw[q];exact(OM f y fs).1
  ·refine(OM f y fs).2 g (l g λz=>v ?_);show (if g=f then BD u else j g)=A5;rw[pa q];exact z
def Xa.made(I:Xa X pins σ H s):Xa X pins σ (Sb (Sb H s.heap.objs.size$ .own$ s.heap.objs.size+1) (s.heap.objs.size+1)$ .yb C s.heap.objs.size [])
  { s with heap:=(s.heap.push W.emptyDict).push (W.instObj C s.heap.objs.size) }:=by
 have a:(s.heap.push W.emptyDict).get? s.heap.objs.size=BD W.emptyDict:=Ca s.heap rfl;have d:((s.heap.push W.emptyDict).push$ W.instObj C s.heap.objs.size).get? (s.heap.objs.size+1)=BD (W.instObj C s.heap.objs.size):=by
  have:=Ca (s.heap.push W.emptyDict) (o:=W.instObj C s.heap.objs.size) rfl
  simp_all
 have f:(s.heap.push W.emptyDict).Ns s.heap.objs.size _:=⟨W.emptyDict,#[],_,a,rfl,(λe g=>absurd g ⋯),λb=>rfl⟩
 refine(I.laid (o:=.own _) (t':=s.toks) (λb u q=>da _ q) (va _) ⟨_,a⟩).laid (λb u q=>da _ q) (qG$ Qc _ _) ?_;have c:s.heap.objs.size≠s.heap.objs.size+1:=Aa$ Lb _;refine⟨by rw[ud c,bf],xh _,c,d,λb=>A5,(Heap.Ns1.of_empty f).at λo q=>da _ q,λb=>True.intro,λy h=>absurd rfl h⟩
def O3{a}(g:Xc e f a (Qb e a)=Qb e a)
  (h:wpAny (model b w) A (Qb e a) (λo c=>wpAny (model b w) A (getAttr o f E8) Q E c) E s):wpAny (model b w) A (Qb (.Attribute e f d) a) Q E s:=
 Attribute_any_ h (by rw[arm_eval_Attribute,g])
end
def G0(K:W.Frag)(e:TE)(f:Str):TE:=λg H Q=>e g H λx b=>∃ a C d c v,x=.ref a/\b a=BD (.yb C d c)/\zr K C/\Yx K C f/\c.lookup f=BD v/\Q v b
def ĉ(K:W.Frag)(h i:TE)(f:Str):TS:=λD c H=>i c H λy g=>h c g λx d=>∃ a C e b,x=.ref a/\d a=BD (.yb C e b)/\zr K C/\Yx K C f/\b.length<1000/\
 D.nx c (Sb d a$ .yb C e$ Mm f y b)
def gW(X:Cx)(b:jk)(rd:V->V->Hp->VK->Prop):Prop:=
 ∀ a s σ H x y u v Q,Xa X a σ H s->Zc x u->Zc y v->rd x y H Q->wpAny (model X.prog X.w) X.A (yG b u v) (EP X a σ Q) X.xe s
def Ä(K:W.Frag)(k l:TE)(rd:V->V->Hp->VK->Prop)(f:Str):TS:=λD d H=>k d H λx e=>∃ a C j h v,x=.ref a/\e a=BD (.yb C j h)/\zr K C/\Yx K C f/\h.lookup f=BD v/\
 l d e λy i=>rd v y i λz g=>∃ c b,g a=BD (.yb C c b)/\b.length<1000/\D.nx d (Sb g a$ .yb C c$ Mm f z b)
section
variable{X:Cx}{o e value:Ia}{f:Str}{pos pos' tpos:Td}{ta tv:TE}
def U4(k:PE X e ta)(j:Xc e f X.env (Qb e X.env)=Qb e X.env):PE X (.Attribute e f pos)$ G0 X.K ta f:=by
 intro b s p H Q I h;refine O3 j (Bd (k b s p H _ I h) λu s1 ſ=>?_);obtain⟨x,H1,d,o,a,C,r,t,v,ex,i,c,n,l,q⟩:=ſ;subst ex;obtain rfl:u=Db a:=o;exact tX d i c n l λw s2 g m=>⟨v,H1,g,m,q⟩
def yg5(k:PE X o ta)(p:PE X value tv)(m:Lg value (BD$ .Attribute o f pos') pos.line X.env=pure J8):PS X (.Assign [.Attribute o f pos'] value pos)$ ĉ X.K ta tv f:=by
 intro b s d H D I h;refine plainObj_wpAny_Assign_Attribute (Bd (p b s d H _ I h) λu s1 ⟨y,H1,e,w,q⟩=>Bd (k b s1 d H1 _ e q) λr s2 ⟨x,z,g,v,a,C,A,B,ex,j,c,n,l,t⟩=>?_) m;subst ex;obtain rfl:r=Db a:=v;exact KS g j c n l w λE i=>⟨d,_,i,t⟩
def ŷ(E:PE X o ta)(F:PE X value tv)(g:gW X i rd):PS X (.AugAssign (.Attribute o f tpos) i value pos)$ Ä X.K ta tv rd f:=by
 intro b s d H D I h;refine wpAny_AugAssign_AttributeAny (Bd (E b s d H _ I h) λό s1 ſ=>?_);obtain⟨x,H1,k,ϋ,a,C,T,ϊ,v,ex,A,c,n,l,q⟩:=ſ;subst ex;obtain rfl:ό=Db a:=ϋ;refine tX k A c n l λu s2 m N=>Bd (F b s2 d H1 _ m q) λR s3 ⟨y,j,p,P,L⟩=>Bd (g b s3 d j v y u R _ p N P L) λY s4 ⟨z,S,r,Q,w,B,e,G,M⟩=>?_;exact KS r e c n G Q λW t=>⟨d,_,t,M⟩
def S4:V->V->Hp->VK->Prop:=λx y H Q=>∃ i j,x=.int i/\y=.int j/\Q (.int$ i+j) H
def x6:gW X .Add S4:=by
 rintro a s d H x y u v Q I b c ⟨i,j,rfl,rfl,q⟩;obtain⟨t,rfl⟩:=(b)
 obtain⟨t',rfl⟩:=(c)
 exact JJ ⟨.int$ i+j,H,I.tok _,⟨_,rfl⟩,q⟩
end
section
variable{X:Cx}{pins:List$ Addr × Obj}{σ:St}{H:Hp}{s:Shared}{A:Ma}{E:Value->Shared->Prop}{Q:Value->Shared->Prop}{c:Value}{b:Bool}
inductive Vj(K:W.Frag)(H:Hp):V->Value->Prop where
 |ec:Vj K H .ec (.type "NoneType")
 |bl (x:Bool):Vj K H (.bl x) (.type "bool")
 |int (i:Int):Vj K H (.int i) (.type "int")
 |str (x:Str):Vj K H (.str x) (.type "str")
 |IA (x:UInt64):Vj K H (.IA x) (.type "float")
 |qa {a:Addr} {xs:kv} (e:H a=BD (.qa xs)):Vj K H (.ref a) (.type "list")
 |Uc {a:Addr} {o:Obj} {xs:kv} (e:H a=BD (.Uc o (.qa xs))):Vj K H (.ref a) (.type "list")
 |db {a:Addr} {xs:kv} (e:H a=BD (.db xs)):Vj K H (.ref a) (.type "tuple")
 |dK {a:Addr} {kvs:List (wc × V)} (e:H a=BD (.dK kvs)):Vj K H (.ref a) (.type "dict")
 |dT {a:Addr} {kvs:List (TK × V)} (e:H a=BD (.dT kvs)):Vj K H (.ref a) (.type "dict")
 |yb {a C dx:Addr} {fs:List (Str × V)} (e:H a=BD (.yb C dx fs)) (cl:zr K C) (ha:W.findIn K (.ref C) "__class__" = BD (BD (.builtin "object.__class__")))
   (hn:W.specialIn K (.builtin "object.__class__") "__get__" = BD (BD (.builtin "getset_descriptor.__get__"))) (htk:W.takesIn K (.builtin "object.__class__")=BD E8)
   (hm:W.mroIn K C (.type "object")=BD E8):Vj K H (.ref a) (.ref C)
def N3(I:Xa X pins σ H s)(f:Zc x u)(ty:Vj X.K H x t)(e:W.kitOne X.K t c=BD b)(h:∀ D,Q (.bool b) { s with toks:=D }) :
  wpAny (model X.prog X.w) A (call (.builtin "isinstance") [u,c]) Q E s:=by
 cases ty with
 |ec=>cases (f);exact W.kia_one W.kitx_none I.Ki True.intro e (λz=>nomatch z) h
 |bl y=>cases (f);exact W.kia_one W.kitx_bool I.Ki True.intro e (λz=>nomatch z) h
 |int i=>obtain⟨t,q⟩:=(f);cases q;exact W.kia_one W.kitx_int I.Ki True.intro e (λz=>nomatch z) h
 |str y=>obtain⟨t,q⟩:=(f);cases q;exact W.kia_one W.kitx_str I.Ki True.intro e (λz=>nomatch z) h
 |IA y=>obtain⟨t,q⟩:=(f);cases q;exact W.kia_one W.kitx_float I.Ki True.intro e (λz=>nomatch z) h
 |@qa a xs d=>
  cases (f);obtain⟨_,_,n,_,g⟩:=(I.Cc a _ d)
  exact W.kia_one W.kitx_list I.Ki ⟨_,g,rfl⟩ e (λz=>nomatch z) h
 |@Uc a M xs d=>
  cases (f);obtain⟨_,_,_,n,_,g⟩:=(I.Cc a _ d)
  exact W.kia_one W.kitx_list I.Ki ⟨_,g,rfl⟩ e (λz=>nomatch z) h
 |@db a xs d=>
  cases (f);obtain⟨_,_,_,p⟩:=(I.Cc a _ d)
  obtain⟨o,g,j,_⟩:=p;exact W.kia_one W.kitx_tuple I.Ki ⟨o,g,j⟩ e (λz=>nomatch z) h
 |@dK a l d=>
  cases (f);obtain⟨_,_,vs,_,p⟩:=(I.Cc a _ d)
  obtain⟨o,r,m,g,j,_⟩:=p;exact W.kia_one W.kitx_dict I.Ki ⟨o,g,j.1⟩ e (λz=>nomatch z) h
 |@dT a l d=>
  cases (f);obtain⟨_,_,xs,_,o,r,m,g,j,_⟩:=(I.Cc a _ d)
  exact W.kia_one W.kitx_dict I.Ki ⟨o,g,j.1⟩ e (λz=>nomatch z) h
 |@yb a C F G d cl v B k hm=>
  cases (f);obtain⟨L,ϋ,_⟩:=MI I.Cc d;obtain⟨N,ό,_⟩:=ϋ.look;exact W.kia_one (W.kitx_own (cl.get _) cl.hd v B k hm) I.Ki ό e (λz=>nomatch z) h
end
structure Md(k:Nat)(A:Ma):Prop where
 hd:A.handled=A5
 dp:A.depth+3 * k+5<recursionLimit
 un:A.units+16 * k+200<cLine
def Md.mono(r:Md k A)(h:j<=k):Md j A:=⟨r.hd,by have:=r.dp;lia,by have:=r.un;lia⟩
def Md.deeper(r:Md (k+1) A) a:Md k$ A.deeper a:=
 ⟨r.hd,by have:=r.dp;show A.depth+1+3 * k+5<_;lia,by have:=r.un;show A.units+3+16 * k+200<_;lia⟩
def Md.in1(r:Md (k+1) A):Md k A.in1:=
 ⟨r.hd,by have:=r.dp;show A.depth+3 * k+5<_;lia,by have:=r.un;show A.units+1+16 * k+200<_;lia⟩
theorem zev{A:Ma}:(A.under$ .builtin "type.__call__" ⟨.ref C::a,kw⟩).depth=A.depth+1:=by
 rfl
theorem ŕ{A:Ma}:(A.under$ .builtin "type.__call__" ⟨.ref C::a,kw⟩).units=A.units+1:=by
 rfl
def Md.make(r:Md (k+1) A) C a kw:Md k$ A.under$ .builtin "type.__call__" ⟨.ref C::a,kw⟩:=
 ⟨r.hd,by have:=r.dp;rw[zev];lia,by have:=r.un;rw[ŕ];lia⟩
def Md.depth(r:Md k A):A.depth<recursionLimit:=by have:=r.dp;lia
noncomputable def S7:TA:=λa H Q=>Q [] H
noncomputable def N2(d:TE)(e:TA):TA:=λa H Q=>d a H λx b=>e a b λxs c=>Q (x::xs) c
section
variable{X:Cx}{e:Ia}{es:List Ia}{te:TE}{t:TA}{pos:Td}
def Nx:PA X [] S7:=λa a a a H Q I h=>Calls.spliced_nil ⟨[],H,I,.nil,h⟩
def vu(g:PE X e te)(i:PA X es t)(j:wa (e::es) X.env=(J8,Qb e X.env)::wa es X.env:=by rfl):PA X (e::es)$ N2 te t:=by
 intro pos a s b H Q I h;rw[j];refine Calls.spliced_cons (Bd (g a s b H _ I h) λu s1 ſ=>?_);obtain⟨x,H1,d,m,k⟩:=ſ;exact Bd (i pos a s1 b H1 _ d k) λus s2 ⟨xs,c,f,n,l⟩=>⟨x::xs,c,f,.cons m n,l⟩
def ů(t:TA):TE:=λb H Q=>t b H λxs a=>xs.length<=sizeLine/\∀ p,a p=A5->Q (.ref p) (Sb a p$ .db xs)
def N1(t:TA):TE:=λb H Q=>t b H λxs a=>xs.length<=sizeLine/\∀ p,a p=A5->Q (.ref p) (Sb a p$ .qa xs)
def Y3{x1}(h:PA X es t):PE X (.Tuple es x1 pos)$ ů t:=by
 intro a s g H Q I f;refine wpAny_Tuple_spliced (Bd (h pos a s g H _ I f) λus s1 ⟨xs,H1,c,r,z,q⟩=>⟨by rw[<-r.length];exact z,?_⟩);have d:H1 s1.heap.objs.size=A5:=c.Cc.fresh$ va _;refine⟨.ref s1.heap.objs.size,Sb H1 s1.heap.objs.size _,c.laid (t':=s1.toks) (λb u e=>da _ e) (va _) ?_,rfl,q _ d⟩;exact⟨z,us,r,⟨_,Ca _ rfl,rfl,_,rfl⟩⟩
def jX(h:PA X es t):PE X (.List es pos)$ N1 t:=by
 intro a s g H Q I f;refine wpAny_List_spliced (Bd (h pos a s g H _ I f) λus s1 ⟨xs,H1,c,r,z,q⟩=>⟨by rw[<-r.length];exact z,?_⟩);have d:=c.Cc.fresh$ va _;refine⟨.ref s1.heap.objs.size,Sb H1 s1.heap.objs.size$ .qa xs,c.laid (λb u e=>da _ e) (va _) ?_,rfl,q _ d⟩;exact⟨z,us,0,r,Ca _ rfl⟩
end
abbrev Sp:=kv->Hp->VK->XK->Prop
abbrev dw:=List wg->Hp->Shared->XK->Value->Shared->Prop
structure Xq(P:Ba)(w:Ra)(K:W.Frag)(mg:Str->Option Value)(base:Heap)(A:Ma)(outer:List wg)(s:Shared)(H:Hp):Prop where
 frames:A.frames=BD outer
 mod:Mod K mg base
 bs:∀ b o,base.get? b=BD o->s.heap.get? b=BD o/\H b=A5
 Au:base.objs.size<=s.heap.objs.size
 Yj:s.heap.FunFrames base outer
 Sy:∀ b∈yk outer,H b=A5
 Cc:Ph P w H s.heap
 bare:qh s.gens
def CE(a:List wg)(P:Ba)(w:Ra)(H:Hp)(s:Shared)(Q:VK)(u:Value)(b:Shared):Prop:=
 ∃ v c,b.os=s.os/\qh b.gens/\Un (yk a) [] H c s.heap b.heap/\Ph P w c b.heap/\Zc v u/\Q v c
def CR(c:dw)(a:List wg)(P:Ba)(w:Ra)(H:Hp)(s:Shared)(Q:VK)(E:XK)(r:Do)(b:Shared):Prop:=
 match r with
 | .ok (.ret u)=>CE a P w H s Q u b
 | .ok _=>False
 | .error e=>c a H s E e b
structure gh(P:Ba)(w:Ra)(K:W.Frag)(mg:Str->Option Value)(base:Heap)(CX:dw)(k:Nat)(f:Addr)(fd:lf)(ps:ab)(sp:Sp):Prop where
 len:∀ vs H Q E,sp vs H Q E->vs.length=ps.length
 Ch:∀ (A:Ma) (outer:List wg) (s:Shared) (H:Hp) (args:Args) (us:em) (vs:kv) (Q:VK) (E:XK),Md k A->Xq P w K mg base A outer s H->Qe s fd args (ps.zip us)->ce vs us->sp vs H Q E->
  codeAny (model P w) A (.call (.ref f) args) (CR CX outer P w H s Q E) s
def gh.mono{K}(F:gh P w K g a d j f e ps i)(h:j<=k) :
  gh P w K g a d k f e ps i:=⟨F.len,λA b s H c m n Q E l=>F.Ch A b s H c m n Q E$ l.mono h⟩
def gh.imp{K}(F:gh P w K g base d k f e ps i)
  (h:∀ vs H Q E,c vs H Q E->i vs H Q E):gh P w K g base d k f e ps c:=
 ⟨λvs H Q E q=>F.len vs H Q E$ h _ _ _ _ q,λA a s H b p vs Q E m l j o n=>F.Ch A a s H b p vs Q E m l j o$ h _ _ _ _ n⟩
def Xq.make{K}(e:Xq P w K c b A a s H) C d kw :
  Xq P w K c b (A.under$ .builtin "type.__call__" ⟨.ref C::d,kw⟩) a s H:=⟨by first|exact e.frames|(simpa using e.frames),e.mod,e.bs,e.Au,e.Yj,e.Sy,e.Cc,e.bare⟩
section
variable{X:Cx}{pins:List$ Addr × Obj}{σ:St}{H:Hp}{s s':Shared}
def Xa.pF(I:Xa X pins σ H s):Xq X.prog X.w X.K X.mg X.base X.A X.stack s H:=
 ⟨I.ok.frames,I.ok.mod,I.bs,lb I.ok.Au I.sz,I.stack,I.Dl,I.Cc,I.bare⟩
def Xa.after(I:Xa X pins σ H s)(h:CE X.stack X.prog X.w H s Q u s'):EP X pins σ Q u s':=by
 obtain⟨v,f,i,a,j,c,r,q⟩:=h;obtain⟨k,g,d,t,e⟩:=s';obtain rfl:e=s.os:=i;exact⟨v,f,I.call j c a (λb z=>absurd z ⋯),r,q⟩
end
def vr(K:W.Frag)(c:lf)(b:ab)(a:em):Prop:=
 ∀ s us,K.In s.heap->(us++a).length=b.length->Qe s c ⟨us,[]⟩ (b.zip$ us++a)
def vr.all{K}(h:∀ a:em,a.length=ps.length->bindArgs b ⟨a,[]⟩=pure (ps.zip a)):vr K b ps []:=λs a d c=>by
 rw[ee]at c ⊢;exact .of_eq$ h a c
section
variable{X:Cx}{CX:dw}{k:Nat}{f C:Addr}{fd:lf}{ps:ab}{sp:Sp}{dvs:kv}{ds:em}{E:XK}{x m:Str}{p pos apos:Td}{e o:Ia}{es:List Ia}{ta:TE}{t:TA}
structure Mk(K:W.Frag)(C f:Addr):Prop where
 makes:W.makesIn K C=E8
 init:W.findIn K (.ref C) "__init__" = BD (BD (.ref f))
 fn:W.isFn K (.ref f)=E8
 kp:W.keepIn K (.ref C)=E8
end
structure Ec(N P:ab)(sc:Scope):Prop where
 kind:sc.kind=.function
 co:sc.isCoroutine=J8
 gen:sc.isGenerator=J8
 nd:N.Nodup
 pre:N.take P.length=P
 par:∀ x∈P,sc.names.lookup x=BD .local\/sc.names.lookup x=BD .cell
 cB:∀ y∈sc.names,y.2≠.free
theorem jQ{b:Str->Option Fe}{x:Str}:∀ {a:List$ Str × Value} {m:Str->Option Value},(∀ v,(x,v) ∉ a)->zy b a m x=m x
 |[],_,_=>rfl
 |(n,v)::r,m,h=>by
  unfold zy;rw[jQ λw c=>h w$ ra _ c];split
  ·have:x≠n:=by rintro rfl;exact h v ua
   simp_all
  ·rfl
theorem vX{b:Str->Option Fe}{x:Str}:∀ {a:List$ Str × Value} {m:Str->Option Value},(∀ v,(x,v) ∉ a)->nu b a m x=m x
 |[],_,_=>rfl
 |(n,v)::r,m,h=>by
  unfold nu;rw[vX λw c=>h w$ ra _ c];split
  ·rfl
  ·have:x≠n:=by rintro rfl;exact h v ua
   simp[this]
theorem zV{a:Str->Option Fe}{x:Str}{v:Value}:∀ {P:ab} {vs:em} {i:Nat} {m:Str->Option Value},P.Nodup->P[i]?=BD x->vs[i]?=BD v->a x=BD .local->
  zy a (P.zip vs) m x=BD v
 |[],_,_,_,_,h,_,_=>by simp at h
 |_::_,[],_,_,_,_,h,_=>by simp at h
 |p::P,w::vs,0,m,e,b,c,d=>by
  simp at b c;subst b;subst c;show zy a ((p,w)::P.zip vs) m p=_;unfold zy;rw[jQ λv f=>(Wc.mp e).1 (Cm f).1,ja d];simp
 |p::P,w::vs,i+1,m,e,b,c,d=>by
  show zy a ((p,w)::P.zip vs) m x=_;exact zV (i:=i) (Wc.mp e).2 (by assumption) ⋯ d
theorem SS{a:Str->Option Fe}{x:Str}{v:Value}:∀ {P:ab} {vs:em} {i:Nat} {m:Str->Option Value},P.Nodup->P[i]?=BD x->vs[i]?=BD v->a x≠BD .local->
  nu a (P.zip vs) m x=BD v
 |[],_,_,_,_,h,_,_=>by simp at h
 |_::_,[],_,_,_,_,h,_=>by simp at h
 |p::P,w::vs,0,m,e,b,c,d=>by
  simp at b c;subst b;subst c;show nu a ((p,w)::P.zip vs) m p=_;unfold nu;rw[vX λv f=>(Wc.mp e).1 (Cm f).1,pa d];simp
 |p::P,w::vs,i+1,m,e,b,c,d=>by
  show nu a _ m x=_;unfold nu;exact SS (i:=i) (Wc.mp e).2 ⋯ ⋯ d
noncomputable def start(N:ab)(a:kv):St:=a.map BD++List.replicate (N.length - a.length) A5
noncomputable def vp(g:dw)(P:Ba)(w:Ra)(K:W.Frag)(mg:Str->Option Value)(base:Heap)(N:ab)(b:Str)(a:Scope)(f:Addr)(d:Value)(A:Ma)(outer:List wg)(s:Shared)(H:Hp)(E:XK):Cx where
 prog:=P
 w:=w
 K:=K
 mg:=mg
 base:=base
 A:=A.deeper (rg b a s.heap.objs.size f d)
 N:=N
 s₀:=s
 H₀:=H
 env:=rg b a s.heap.objs.size f d
 outer:=outer
 stack:=rg b a s.heap.objs.size f d::outer
 ex:=[]
 de:=E8
 fn:=λj=>E8
 pn:=[]
 xe:=λe i=>wpAny (model P w) (A.deeper$ rg b a s.heap.objs.size f d) (leaving (rg b a s.heap.objs.size f d) e) (λj c=>g outer H s E e c) (λh c=>g outer H s E h c) i
def aW{sc:Scope}(h:sc.names.lookup x=BD .cell):∃ c,(AG n sc.names []).lookup x=BD c:=by
 exact ge.mp$ W.cellsFrom_some sc.names n []$ .inl h
def Θ{K}
  (S:Ec N ps d) (R:A.handled=A5) (m:Xq P w K I base A g s H) (Y:vs.length=ps.length) (r:ce vs ό)
  (x:InCallC s s.heap.objs.size (zy (rg j d s.heap.objs.size f D).kindOf (ps.zip ό) λJ=>A5) (AG (s.heap.objs.size+1) d.names []) (nu (rg j d s.heap.objs.size f D).kindOf (ps.zip ό) λJ=>A5) s1) :
  Xa (vp L P w K I base N j d f D A g s H E) [] (start N vs) H s1:=by
 have T:ps.length<=N.length:=by have:=Eb List.length S.pre;rw[qe]at this;lia
 obtain⟨F,Z,rfl,M⟩:=x.done;have t:∀ b:Addr,b ∉ (vp L P w K I base N j d f D A g s H E).ex:=λb z=>absurd (show b∈([]:b')from z) ⋯;refine⟨⟨m.mod,S.kind,rfl,rfl,va _,λy z c F l=>?_,λy o=>?_,λy c J h=>?_,λJ=>R,uq m.frames,.inr ⟨rfl,rfl⟩,λb z=>absurd z$ t b,m.bs,m.Au,λb J J=>t b,λb z=>absurd z$ t b,m.Yj,m.Sy⟩,
  rfl,m.bare,Un.kept M,⟨_,x.toInCall.ns,λi y v F l X=>?_⟩,λy c h=>⟨_,x.cell y c h⟩,m.Cc.fresh$ va _,λy c h=>?_,λp B=>absurd (show p∈([]:List _)from B) ⋯,m.Cc.kept M,?_⟩
 ·exact name_of_addr x.apart (je F)$ je l
 ·have o:d.names.lookup y=BD .cell\/d.names.lookup y=BD .free:=o;rcases o with o|o
  ·exact aW o
  ·exact absurd rfl$ S.cB _$ je o
 ·exact Od$ x.above y c$ je h
 ·have G:i<vs.length:=by
   unfold start at l;by_cases G:i<vs.length
   ·exact G
   ·rw[Wd (by simpa using G)]at l;rw[Wp]at l;split at l<;>cases l
  have Q:vs[i]?=BD v:=by
   unfold start at l;rw[ib (by simpa using G),Ta]at l;cases e:vs[i]? with
   |none=>rw[e]at l;cases l
   |some a=>rw[e]at l;cases l;rfl
  obtain⟨u,ϋ,ϊ⟩:=r.get Q;have B:ps[i]?=BD y:=by
   rw[<-S.pre,Xo ⋯];exact F
  have C:ps.Nodup:=by rw[<-S.pre];exact S.nd.sublist$ List.take_sublist _ _
  refine⟨u,ϊ,?_⟩;rcases S.par y (za B)with k|k
  ·exact .inl ⟨k,zV C B ϋ k⟩
  ·obtain⟨c,e⟩:=aW (n:=s.heap.objs.size+1) k;refine .inr ⟨.inl k,c,e,?_⟩;have q:=x.cell y c e;rw[SS C B ϋ (by show d.names.lookup y≠_;rw[k];decide)]at q;exact q
 ·exact m.Cc.fresh$ Od$ x.above y c$ je h
 ·unfold start;show _=N.length;rw[Nb,Oa,List.length_replicate]
  lia
def W3{K:W.Frag}{dV kV C pm g ct oc}{an od} (lk:K.lookup f=BD ⟨oc,od,.func$ W.fnOf m d h i a dV kV C pm an g ct,X⟩) (R:W.codeIn K g d=E8) (S:Ec N ps a)
  (L:∀ vs H Q E,sp vs H Q E->vs.length=ps.length)
  (p:∀ A c s H vs Q E,Md k (A.deeper$ rg d a s.heap.objs.size f g)->sp vs H Q E->
   ∃ t,xw (vp M P w K ϋ base N d a f g A c s H E) i t/\t { nx:=λJ l=>Q .ec l,rt:=Q } (start N vs) H) :
  gh P w K ϋ base M (k+1) f (W.fnOf m d h i a dV kV C pm an g ct) ps sp:=by
 refine⟨L,λA c s H a0 us vs Q E T D hb r G=>?_⟩;have KX:K.In s.heap:=D.mod.dz.keeps λb o e=>(D.bs b o e).1;have ϊ:s.heap.NoLimit:=D.mod.nolimit.keeps λb o e=>(D.bs b o e).1;have z:∀ y∈ps.zip us,a.names.lookup y.1=BD .local\/(a.names.lookup y.1=BD .cell/\((AG (s.heap.objs.size+1) a.names []).lookup y.1).isSome=E8):=λ⟨n,v⟩ hy=>by
  rcases S.par n (Cm hy).1 with q|q
  ·exact .inl q
  ·exact .inr ⟨q,W.cellsFrom_some _ _ _$ .inl q⟩
 refine codeAny_call_function T.depth (KX _ _ lk) rfl S.co S.gen rfl (W.codeRec_of KX R)$ hb _ _ _ _ (wpAny_newFunctionEnv_cells S.kind z λa1 he s1 x=>?_);subst he;refine⟨ϊ.keeps x.toInCall.keep,codeAny_func ?_⟩;obtain⟨t,ht,hq⟩:=p A c s H vs Q E (T.deeper _) G;have I:Xa (vp M P w K ϋ base N d a f g A c s H E) [] (start N vs) H s1:=Θ S T.hd D (L _ _ _ _ G) r x;refine gc (ht [] s1 _ H _ I hq) (λfl Z B=>?_) λe Z B=>B;have F:∀ {j:St} {l:Hp} {v:V} {u:Value},Xa (vp M P w K ϋ base N d a f g A c s H E) [] j l Z->Zc v u->Q v l->CE c P w H s Q u Z:=
  fun {j l v u} ό Y q=>⟨v,l,ό.os,ό.bare,ό.base,ό.Cc,Y,q⟩
 cases fl with
 |ret u=>
  obtain⟨v,j,l,ό,Y,q⟩:=B;exact F ό Y q
 |next=>
  obtain⟨j,l,ό,q⟩:=B;exact F (v:=V.ec) ό rfl q
 |brk=>
  obtain⟨_,_,_,q⟩:=B;exact False.elim q
 |cont=>
  obtain⟨_,_,_,q⟩:=B;exact False.elim q
section
variable{X:Cx}{x:Str}{p pos:Td}{e:Ia}{es:List Ia}{t:TA}{id T:String}{r:kv->Hp->VK->Prop}
def AK(r:kv->Hp->VK->Prop)(t:TA):TE:=λc H Q=>t c H λb a=>r b a Q
def GH(i:To X (.builtin id) r)(k:Gl X x)(l:X.mg x=A5)(n:bootBuiltins x=BD (.builtin id))(g:PA X (e::es) t)(m:x ≠ "__name__":=by decide)(b:(x == ("__debug__" : Str))=J8:=by decide)
  (j:wa (e::es) X.env=(J8,Qb e X.env)::wa es X.env:=by rfl) (c:(Dc pos$ wa es X.env).any (·.1)=J8:=by rfl):PE X (.Call (.Name x p) (e::es) [] pos)$ AK r t:=by
 intro a s d H Q I h;exact Le$ Ny I k l n (KJ (Bd (g pos a s d H _ I h) λus s1 ⟨vs,H1,f,q,o⟩=>i a s1 d H1 vs us Q f q o) j c) m b
def bK(i:To X (.type T) r)(k:Gl X x)(l:X.mg x=A5)(n:bootBuiltins x=BD (.type T))(g:PA X (e::es) t)(m:x ≠ "__name__":=by decide)(b:(x == ("__debug__" : Str))=J8:=by decide)
  (j:wa (e::es) X.env=(J8,Qb e X.env)::wa es X.env:=by rfl) (c:(Dc pos$ wa es X.env).any (·.1)=J8:=by rfl):PE X (.Call (.Name x p) (e::es) [] pos)$ AK r t:=by
 intro a s d H Q I h;exact Le$ Ny I k l n (we (Bd (g pos a s d H _ I h) λus s1 ⟨vs,H1,f,q,o⟩=>i a s1 d H1 vs us Q f q o) j c) m b
end
end L2
namespace HT
section
open PySem.SeqAt
open PySem.AutoSeq1 (wpAny_loadPart')
open PySem.MeetsSeq PySem.MeetsSeq2 PySem.MeetsSeq3
end
section
variable{prog:Ba}{w:Ra}{A:Ma}{E:Value->Shared->Prop}{s:Shared}
def Ex(z:IsTup s.heap t vs.toArray)(x:IsTup s.heap b a.toArray)(p:vs≠[])
  (v:a=[]->Q (.ref t) s) (B:a≠[]->Q (.ref s.heap.objs.size) { s with heap:=s.heap.push { cls:=.type "tuple",data:=.seq (vs++a).toArray } })
  (y:vs.length+a.length<=sizeLine):wpAny (model prog w) A (pe .Add (.ref t)$ .ref b) Q E s:=by
 obtain⟨⟨cls,l,data,u⟩,i,m,n,o⟩:=id z;obtain⟨⟨k,d,j,h⟩,c,f,r,g⟩:=id x;simp only at m o f g;subst m o f g;have e:vs.toArray++a.toArray=(vs++a).toArray:=by simp
 by_cases q:a=[]
 ·exact Bv ⟨_,i,rfl⟩ ⟨_,c,rfl⟩ Ao Dt Hh lh (Zg _ _)
   (tuple_addW1 t b vs.toArray a.toArray n r l d u h (by simpa using p)$ by simp[q]) ⟨i,c,v q⟩
 ·refine Bv ⟨_,i,rfl⟩ ⟨_,c,rfl⟩ Ao Dt Hh lh (Zg _ _)
   (tuple_addW2 t b vs.toArray a.toArray n r l d u h (by simpa using p) ⋯$ by simp_all) ⟨i,c,?_⟩
  grind
noncomputable def Mf(n d:Nat):Option Int->Nat
 |none=>d
 |some v=>if v<0 then (v+(n:Int)).toNat else min v.toNat n
def O5 n d(b:d<=n) o:Mf n d o<=n:=by
 cases o with
 |none=>exact b
 |some v=>
  show (if v<0 then (v+n).toNat else min v.toNat n)<=n;by_cases a:v<0
  ·rw[ja a];lia
  ·rw[pa a];exact my _ _
def gR v(n d:Nat):(if v<0 then max (v+(n:Int)) 0 else min v n)=((Mf n d (BD v):Nat):Int):=by
 show (if v<0 then max _ 0 else min v n)=(if v<0 then (v+n).toNat else min v.toNat n)
 grind
def Ŧ lo a(n:Nat):Rj lo a 1 n =(((Mf n 0 lo:Nat):Int),(Mf n n a:Int)):=by
 refine Iz ?_ ?_
 ·cases lo with
  |none=>rfl
  |some v=>exact gR v n 0
 ·cases a with
  |none=>rfl
  |some v=>exact gR v n n
def D6(i j:Nat):sg i j 1=j - i:=by
 unfold sg;simp only[Dg,Int.ediv_one];split<;>lia
def LQ(p:nk v o)(h:Q o s):wpAny (model prog w) A (BG v) Q E s:=by
 cases p with
 |none=>exact DP h
 |int i t=>exact slicePart_int h
def lQ{lo c}{n:Nat}(i:s.heap.IsSliceOf d e f .none)(pl:nk e lo)(j:nk f c)
  (h:Q (((Mf n 0 lo:Nat):Int),1,Mf n n c - Mf n 0 lo) s):wpAny (model prog w) A (CG (.ref d)$ pure n) Q E s:=by
 obtain⟨k,b,g,a⟩:=id i;refine aa$ aa$ dk b a rfl$ aa$ dk b a rfl$ aa$ dk b a rfl$ ga$ aa$ DP ?_;refine aa$ LQ pl$ aa$ LQ j$ aa$ ga ?_;show wpAny _ _ (match Rj lo c 1 n with|(lo,c)=>pure (lo,_,sg lo c 1)) _ _ s;rw[Ŧ lo c n];show wpAny _ _ (pure _) _ _ s;rw[D6];exact ga h
def Ŏ(xs:Array Value)(i k:Nat):((List.range k).filterMap λ(m:Nat)=>xs[(i +(m:Int) * 1).toNat]?).toArray=((xs.toList.drop i).take k).toArray:=by
 have e:(λ(m:Nat)=>xs[(i+(m:Int) * 1).toNat]?)=λm=>xs[i+m]?:=by
  funext m;have:(i+(m:Int) * 1).toNat=i+m:=by lia
  rw[this]
 have:=pick_run xs i k;have a:((λx=>xs[x]?) ∘ λx=>i+x)=λm=>xs[i+m]?:=rfl
 simp_all
def Bj{lo c}(d:IsTup s.heap t a)(k:s.heap.IsSliceOf j l n .none)(pl:nk l lo)(v:nk n c)
  (r:¬ (Mf a.size 0 lo=0/\Mf a.size a.size c=a.size))
  (h:Q (.ref s.heap.objs.size) { s with heap:=s.heap.push { cls:=.type "tuple",data:=.seq ((a.toList.drop$ Mf a.size 0 lo).take$ Mf a.size a.size c - Mf a.size 0 lo).toArray } })
  (p:a.size<=sizeLine):wpAny (model prog w) A (bi (.ref t)$ .ref j) Q E s:=by
 have b:sizeOk$ .seq ((a.toList.drop$ Mf a.size 0 lo).take$ Mf a.size a.size c - Mf a.size 0 lo).toArray:=by
  show ((a.toList.drop _).take _).toArray.size<=sizeLine;rw[Ua,qe,Kw,Ib]
  lia
 have x:Mf a.size a.size c<=a.size:=O5 _ _ (va _) c;obtain⟨u,i,f,o⟩:=id k;have e:s.TypeIs (.ref j) "slice":=⟨u,i,f⟩
 unfold bi;try with_reducible refine cc ?_
 first|refine aa$ ga ?_|skip
 refine aa$ PD d.typeIs ⋯ ?_;refine aa$ Jd (name:=pr "__getitem__") d.typeIs qc
  (Hc qc d.typeIs Jz ?_$ DB _ _)
 show wpAny _ _ (dg _ >>= _) _ _ s;refine aa$ CZ d$ aa$ ej e ?_;rw[ja ⋯];refine aa$ lQ k pl v ?_;have g:¬ ((((Mf a.size 0 lo:Nat):Int) == 0 && (1:Int) == 1 && (Mf a.size a.size c - Mf a.size 0 lo) == a.size)=E8):=by
  intro q;rw[Fa,Fa]at q;have y:((Mf a.size 0 lo:Nat):Int)=0:=eq_of_beq q.1.1;have z:Mf a.size a.size c - Mf a.size 0 lo=a.size:=eq_of_beq q.2;exact r ⟨by lia,by lia⟩
 show wpAny _ _ (if (((Mf a.size 0 lo:Nat):Int) == 0 && (1:Int) == 1 && (Mf a.size a.size c - Mf a.size 0 lo) == a.size)=E8 then _ else _) _ _ s;rw[pa g,Ŏ];first
  |exact aa (m:=Re _)$ ic (ga ⟨_,rfl,ga h⟩) b
  |exact aa (m:=Re _)$ ic _ b
  |exact aa$ aa (m:=Re _)$ ic (ga$ ga ⟨_,rfl,ga h⟩) b
  |exact aa$ aa (m:=Re _)$ ic _ b
end
end HT
namespace L2
open Spec
abbrev TO:=St->Hp->(Option Int->Hp->Prop)->Prop
def PO(X:Cx)(e:Option Ia)(t:TO):Prop:=
 ∀ a s σ H Q,Xa X a σ H s->t σ H Q->
  wpAny (model X.prog X.w) X.A (evalPart e X.env) (λu c=>∃ o b,Xa X a σ b c/\nk u o/\Q o b) X.xe s
noncomputable def q0:TO:=λa H Q=>Q A5 H
noncomputable def M4(t:TE):TO:=λb H Q=>t b H λx a=>∃ i,x=.int i/\Q (BD i) a
def zK:∀ {b},ce (a.map V.int) b->rh b a:=by
 induction a with
 |nil=>intro b r;rw[Ce]at r;cases r;exact .nil
 |cons n a c=>
  intro b r;cases r with
  |cons d e=>
   obtain⟨t,rfl⟩:=d;exact .cons n t$ c e
section
variable{X:Cx}{e:Ia}{te:TE}{lo hi:Option Ia}{tl th:TO}{pos p2:Td}
def E5:PO X A5 q0:=by
 intro a s b H Q I h;exact ga ⟨A5,H,I,.none,h⟩
def t0(h:PE X e te):PO X (BD e)$ M4 te:=by
 intro a s g H Q I c;refine Bd (h a s g H _ I c) λu s1 ſ=>?_;obtain⟨x,H1,b,f,d⟩:=ſ;obtain⟨i,rfl,q⟩:=d;obtain⟨t,rfl⟩:=f;exact⟨BD i,H1,b,.int i t,q⟩
def Ew(X:Cx)(r:V->Option Int->Option Int->Hp->VK->Prop):Prop:=
 ∀ a s σ H x v c d lo hi b Q,Xa X a σ H s->Zc x v->s.heap.IsSliceOf b c d .none->nk c lo->nk d hi->r x lo hi H Q->
  ∃ T e,typeLookup (.type T) "__getitem__" = pure (BD$ .builtin e)/\s.TypeIs v T/\wpAny (model X.prog X.w) X.A (bi v$ .ref b) (EP X a σ Q) X.xe s
def Ew.or(h:Ew X r)(h':Ew X d):Ew X (λx lo hi H Q=>r x lo hi H Q\/d x lo hi H Q):=by
 intro a s j H x v g i lo hi f Q I e b pl c q;rcases q with q|q
 ·exact h a s j H x v g i lo hi f Q I e b pl c q
 ·exact h' a s j H x v g i lo hi f Q I e b pl c q
def tSl(r:V->Option Int->Option Int->Hp->VK->Prop)(te:TE)(tl th:TO):TE:=λa H Q=>te a H λx b=>tl a b λl c=>th a c λu d=>r x l u d Q
theorem zof(y:Ew X r)(p:PE X e te)(w:PO X lo tl)(A:PO X hi th):PE X (.Subscript e (.Slice lo hi A5 p2) pos)$ tSl r te tl th:=by
 intro a s c H Q I h;refine EB (Bd (p a s c H _ I h) λv s1 ⟨x,H1,j,E,B⟩=>(wpAny_Slice$ Bd (w a s1 c H1 _ j B) λd s2 ⟨l,i,k,pl,C⟩=>Bd (A a s2 c i _ k C) λf s3 ⟨u,g,m,pu,D⟩=>?_));refine ga ?_;have n:Xa X a c g { s3 with heap:=s3.heap.push { cls:=.type "slice",data:=.fields #[d,f,.none] } }:=m.kept λb ob q=>da _ q;obtain⟨T,F,o,z,t⟩:=y a { s3 with heap:=s3.heap.push { cls:=.type "slice",data:=.fields #[d,f,.none] } } c g x v d f l u s3.heap.objs.size Q n E (QD ..) pl pu D;exact tail_any z o t (by with_unfolding_all rfl)
def XB(xs:kv)(lo hi:Option Int):kv:=(xs.drop$ HT.Mf xs.length 0 lo).take$ HT.Mf xs.length xs.length hi - HT.Mf xs.length 0 lo
def cR xs lo hi:(XB xs lo hi).length<=xs.length:=by
 unfold XB;rw[qe,Kw]
 lia
def yZ(K:W.Frag):V->Option Int->Option Int->Hp->VK->Prop:=λx lo hi H Q=>∃ a xs,x=.ref a/\dh K H a xs/\
 ¬ (HT.Mf xs.length 0 lo=0/\HT.Mf xs.length xs.length hi=xs.length)/\∀ p,H p=A5->Q (.ref p) (Sb H p$ .db$ XB xs lo hi)
def Q7:Ew X$ yZ X.K:=by
 rintro f s p H x v n o lo hi m Q I l g pl k ⟨a,xs,rfl,i,h,q⟩;cases l;obtain⟨d,r,e,j⟩:=I.tuple i;have c:d.toArray.size=xs.length:=by rw[Ua];exact r.length.symm
 refine⟨"tuple",_,qc.lookup,e.typeIs,(HT.Bj e g pl k (by rw[c];exact h) ?_$ by simp_all)⟩;rw[c];refine⟨.ref s.heap.objs.size,_,I.laid (λb ob q=>da _ q) (va _) ?_,rfl,q _$ I.Cc.fresh$ va _⟩;exact⟨lb (cR xs lo hi) j,_,(r.drop _).take _,IsTup.new _ _⟩
def ĳ(K:W.Frag):R2:=λx y H Q=>∃ a b xs c,x=.ref a/\y=.ref b/\dh K H a xs/\dh K H b c/\xs≠[]/\xs.length+c.length<=sizeLine/\
 (c=[]->Q (.ref a) H)/\(c≠[]->∀ p,H p=A5->Q (.ref p) (Sb H p$ .db$ xs++c))
def ce.xo(r:ce xs a):a=[] ↔ xs=[]:=by
 cases r with
 |nil=>simp
 |cons _ _=>simp
def Ö:wh X (pe .Add)$ ĳ X.K:=by
 rintro g s t H x y v u Q I o p ⟨a,b,xs,r,rfl,rfl,h,i,j,e,m,n⟩;cases o;cases p;obtain⟨k,d,l,_⟩:=I.tuple h;obtain⟨f,c,p2,_⟩:=I.tuple i;refine HT.Ex l p2 (λz=>j$ d.xo.mp z) (λz=>⟨.ref a,H,I,rfl,m$ c.xo.mp z⟩) (λz=>⟨.ref s.heap.objs.size,_,I.laid (λb ob q=>da _ q) (va _) ?_,rfl,n (λw=>z$ c.xo.mpr w) _$ I.Cc.fresh$ va _⟩) (by rw[<-d.length,<-c.length];exact e);exact⟨by rw[Nb];exact e,_,d.append c,IsTup.new _ _⟩
end
noncomputable def Hr(n:Nat)(i:Int):Option Nat:=if 0<=i then (if i<n then BD i.toNat else A5)else if -(n:Int)<=i then BD (i+n).toNat else A5
def Ep{a:Type}(xs:List a)(i:Int):Option a:=(Hr xs.length i).bind λj=>xs[j]?
def GU(h:Hr n i=BD j):qu i n=BD j/\j<n/\- n <=i/\i<n:=by
 unfold Hr at h;by_cases b:0<=i
 ·rw[ja b]at h;by_cases a:i<n
  ·rw[ja a]at h;have e:=Zb h;exact⟨by rw[ny b a,e],by lia,by lia,a⟩
  simp_all
 ·rw[pa b]at h;by_cases a:-n<=i
  ·rw[ja a]at h;have e:(i+n).toNat=j:=Zb h;exact⟨by rw[Dv ⋯ a,e],by lia,a,by lia⟩
  all_goals simp_all
def tY{xs}{v:a}(h:Ep xs i=BD v):∃ j,qu i xs.length=BD j/\xs[j]?=BD v/\j<xs.length/\-(xs.length:Int)<=i/\i<xs.length:=by
 unfold Ep at h;cases e:Hr xs.length i with
 |none=>simp_all
 |some j=>
  rw[e]at h;obtain⟨b,c,d,f⟩:=GU e;exact⟨j,b,h,c,d,f⟩
def Lr{xs}{j:Nat}{v:a}(h:xs[j]?=BD v):Ep xs j =BD v:=by
 have b:=(ba.mp h).1;have e:Hr xs.length j=BD j:=by
  unfold Hr
  simp_all
 unfold Ep;rw[e];exact h
def DV(b:Ia):Prop:=∀ o i,qp b J8 o i=operate [o,i] (bi o i)
def Xx(X:Cx)(r:R2):Prop:=
 ∀ b a pins s σ H x y v u Q,Xa X pins σ H s->Zc x v->Zc y u->r x y H Q->
  qp a J8 v u=operate [v,u] (bi v u)->wpAny (model X.prog X.w) X.A (UZ b a v u) (EP X pins σ Q) X.xe s
def qw(X:Cx)(b:String)(r:V->kv->Hp->VK->Prop):Prop:=
 ∀ a s σ H x xs v us Q,Xa X a σ H s->Zc x v->ce xs us->r x xs H Q->
  wpAny (model X.prog X.w) X.A (call (.builtin b)$ v::us) (EP X a σ Q) X.xe s
section
variable{X:Cx}{a b:Ia}{ta tb:TE}{pos:Td}
def Xx.or(h:Xx X r)(h':Xx X e):Xx X (λx y H Q=>r x y H Q\/e x y H Q):=by
 intro b a c s i H x y v u Q I f g q d;rcases q with q|q
 ·exact h b a c s i H x y v u Q I f g q d
 ·exact h' b a c s i H x y v u Q I f g q d
def Ĕ(i:Xx X r)(f:PE X a ta)(g:PE X b tb)(j:DV b):PE X (.Subscript a b pos)$ HC r ta tb:=by
 intro c s m H Q I h;exact EB (pL f g I h λv u s2 x y d e k l q=>i a b c s2 m d x y v u Q e k l q$ j _ _)
noncomputable def IM(K:W.Frag):R2:=λx y H Q=>∃ p xs i v,x=.ref p/\y=.int i/\Te K H p xs/\Ep xs i=BD v/\Q v H
noncomputable def aP(K:W.Frag):R2:=λx y H Q=>∃ p xs i v,x=.ref p/\y=.int i/\dh K H p xs/\Ep xs i=BD v/\Q v H
def ğ:Xx X$ IM X.K:=by
 intro g f b s G H x y v u Q I E F h m;obtain⟨p,xs,i,z,rfl,rfl,D,C,q⟩:=h;cases E;obtain⟨t,rfl⟩:=F;obtain⟨d,r,pl,N⟩:=I.list D;obtain⟨j,c,o,ό,A,B⟩:=tY C;obtain⟨w,n,e⟩:=r.get o;have L:=r.length;have M:=lH;have a:EP X b G Q w s:=⟨z,H,I,e,q⟩
 by_cases k:0<=i
 ·have l:i.toNat=j:=by
   rw[ny k B]at c;exact Zb c
  exact item_listR pl.isList k ⋯ ⋯ a m
 ·have l:(i+(d.toArray.size:Int)).toNat=j:=by
   rw[Dv ⋯ A]at c
   simp_all
  exact Fv (x:=w) pl.isList.typeIs RD.lookup
   (wpAny_getItem_list_neg pl.isList ⋯ ⋯ ⋯ (by rw[l];simpa using n) ⟨rfl,a⟩) m
def M7:Xx X$ aP X.K:=by
 intro e d a s B H x y v u Q I o A h m;obtain⟨p,xs,i,z,rfl,rfl,l,k,q⟩:=h;cases o;obtain⟨t,rfl⟩:=A;obtain⟨n,r,pl,ό⟩:=I.tuple l;obtain⟨j,f,g,D,E,F⟩:=tY k;obtain⟨w,C,c⟩:=r.get g;have G:=lH;have b:EP X a B Q w s:=⟨z,H,I,c,q⟩
 exact Fv pl.typeIs slot_tuple_getitem.lookup
  (getItem_tuple pl ⋯ ⋯ (by rw[Ua,<-r.length];exact f) ⋯ ⟨rfl,b⟩) m
def Ŵ(a:em) n j u:Ge (·.setIfInBounds j u) { cls:=.type "list",data:=.seq a.toArray n }={ cls:=.type "list",data:=.seq (a.set j u).toArray n }:=by
 simp[Ge]
def Xa.qa{b}{c}{H}{s}{p}{xs}(I:Xa X b c H s)(h:H p=BD (.qa xs)) :
  ∃ (a:em) (n:Nat),ce xs a/\s.heap.get? p=BD { cls:=.type "list",data:=.seq a.toArray n }/\xs.length<=sizeLine:=by
 obtain⟨z,a,n,r,e⟩:=I.Cc p _ h;exact⟨a,n,r,e,z⟩
def Xa.yB{a}{c its':em}(I:Xa X a j H s)(h:H p=BD (.qa xs))
  (l:s.heap.get? p=BD { cls:=.type "list",data:=.seq c.toArray n }) (i:f { cls:=.type "list",data:=.seq c.toArray n }={ cls:=.type "list",data:=.seq its'.toArray d }) (r:ce g its') (m:g.length<=sizeLine) t :
  Xa X a j (Sb H p$ .qa g) { s with heap:=s.heap.update p f,toks:=t }:=by
 have e:(s.heap.update p f).get? p=BD { cls:=.type "list",data:=.seq its'.toArray d }:=by
  rw[Ic f l (by rw[i]<;>rfl),i]
 refine I.write (by rw[h];trivial) (.inl rfl) (λb u k q=>(De _ _$ Gd k).trans q) ⟨_,e⟩ ?_;exact⟨m,its',d,r,e⟩
def ZZ:V->V->V->Hp->(Hp->Prop)->Prop:=λo i v H Q=>∃ p xs k j,o=.ref p/\i=.int k/\H p=BD (.qa xs)/\Hr xs.length k=BD j/\Q (Sb H p$ .qa$ xs.set j v)
def A1:GM X ZZ:=by
 rintro h s G H o i v F E u Q I y x z ⟨p,xs,k,j,rfl,rfl,g,w,q⟩;cases y;obtain⟨t,rfl⟩:=x;obtain⟨a,n,r,c,D⟩:=I.qa g;obtain⟨f,A,l,m⟩:=GU w;have B:=r.length;have C:=lH;have d:=
  I.yB g c (Ŵ a n j u) (r.set z j) ⋯ s.toks
 by_cases e:0<=k
 ·have b:k.toNat=j:=by
   rw[ny e m]at f
   simp_all
  exact W.ki_setAt c e ⋯ ⋯ (by rw[b];exact⟨_,d,q⟩)
 ·have b:(k+a.toArray.size).toNat=j:=by
   rw[Dv ⋯ l]at f
   simp_all
  exact W.ki_setBack c ⋯ ⋯ ⋯ (by rw[b];exact⟨_,d,q⟩)
def p8 lo a n:(Sg lo a A5 n).1=((HT.Mf n 0 lo:Nat):Int)/\(Sg lo a A5 n).2.1=((HT.Mf n n a:Nat):Int)/\(Sg lo a A5 n).2.2=1:=by
 refine⟨?_,?_,rfl⟩
 ·cases lo with
  |none=>simp[Sg,HT.Mf]
  |some i=>
   simp[Sg,HT.Mf,ku,show (1:Int) > 0 by decide,Dg];by_cases h:i<0
   ·simp[h,Dg]<;>lia
   ·simp[h,Ml]<;>lia
 ·cases a with
  |none=>simp[Sg,HT.Mf]
  |some i=>
   simp[Sg,HT.Mf,ku,show (1:Int) > 0 by decide,Dg];all_goals grind
theorem z8(a:em) lo b:slicePick a.toArray lo b A5=((a.drop$ HT.Mf a.length 0 lo).take$ HT.Mf a.length a.length b - HT.Mf a.length 0 lo).toArray:=by
 obtain⟨c,d,e⟩:=p8 lo b a.toArray.size;unfold slicePick;rw[c,d,e];simp only[sliceRange_one,pick_run]<;>rfl
def NS(K:W.Frag):V->Option Int->Option Int->Hp->VK->Prop:=λx lo b H Q=>∃ a xs,x=.ref a/\Te K H a xs/\∀ p,H p=A5->Q (.ref p) (Sb H p$ .qa$ XB xs lo b)
def đ:Ew X$ NS X.K:=by
 rintro e s p H x v n o lo f m Q I l g pl k ⟨a,xs,rfl,h,q⟩;cases l;obtain⟨j,r,d,i⟩:=I.list h;have c:=r.length;refine⟨"list",_,RD.lookup,d.isList.typeIs,(wpAny_getItem_list_slice d.isList g pl k .none ⋯ ?_$ by simp_all)⟩;rw[z8,<-c];refine⟨.ref s.heap.objs.size,_,I.laid (λb ob q=>da _ q) (va _) ?_,rfl,q _$ I.Cc.fresh$ va _⟩;exact⟨lb (cR xs lo f) i,_,0,(r.drop _).take _,Ca _ rfl⟩
noncomputable def xi:V->Bool
 | .ec=>E8
 | .bl _=>E8
 | .int _=>E8
 | .str _=>E8
 |_=>J8
noncomputable def Kl:V->V->Bool
 | .ec,.ec=>E8
 | .bl a,.bl b=>a == b
 | .bl a,.int b=>(if a then 1 else 0) == b
 | .int a,.bl b=>a == (if b then 1 else 0)
 | .int a,.int b=>a == b
 | .str a,.str b=>a == b
 |_,_=>J8
def QL(f:Zc y u)(c:Zc x v)(g:xi y=E8)(e:xi x=E8):Jc A s u v$ Kl y x:=by
 cases y with
 |ec=>
  cases f;cases x with
  |ec=>cases c;exact Pj _
  |bl b=>cases c;exact DZ b
  |int b=>obtain⟨t,rfl⟩:=c;exact EZ b t
  |str b=>obtain⟨t,rfl⟩:=c;exact FZ b t
  |_=>exact absurd (show J8=E8 from e) qb
 |bl a=>
  cases f;cases x with
  |ec=>cases c;exact GZ a
  |bl b=>cases c;exact HZ a b
  |int b=>obtain⟨t,rfl⟩:=c;exact IZ a b t
  |str b=>obtain⟨t,rfl⟩:=c;exact JZ a b t
  |_=>exact absurd (show J8=E8 from e) qb
 |int a=>
  obtain⟨d,rfl⟩:=f;cases x with
  |ec=>cases c;exact KZ a d
  |bl b=>cases c;exact LZ a d b
  |int b=>obtain⟨t,rfl⟩:=c;exact Yo a d b t
  |str b=>obtain⟨t,rfl⟩:=c;exact Vo a d b t
  |_=>exact absurd (show J8=E8 from e) qb
 |str a=>
  obtain⟨d,rfl⟩:=f;cases x with
  |ec=>cases c;exact MZ a d
  |bl b=>cases c;exact NZ a d b
  |int b=>obtain⟨t,rfl⟩:=c;exact Wo a d b t
  |str b=>obtain⟨t,rfl⟩:=c;exact OZ a d b t
  |_=>exact absurd (show J8=E8 from e) qb
 |_=>exact absurd (show J8=E8 from g) qb
def FF(x:V)(u:Value):Bool:=match u with
 | .none=>Kl .ec x
 | .bool b=>Kl (.bl b) x
 | .int i _=>Kl (.int i) x
 | .str z _=>Kl (.str z) x
 |_=>J8
def fZ(r:Zc y u)(f:xi y=E8):FF x u=Kl y x:=by
 cases y with
 |ec=>cases r;rfl
 |bl b=>cases r;rfl
 |int i=>obtain⟨t,rfl⟩:=r;rfl
 |str z=>obtain⟨t,rfl⟩:=r;rfl
 |_=>trivial
theorem QN{x:V}:∀ {xs:kv} {us:em},ce xs us->xs.all xi=E8->us.any (FF x)=xs.any λy=>Kl y x
 |_,_,.nil,_=>rfl
 |y::xs,u::us,.cons r t,f=>by
  rw[rf,Fa]at f;rw[sf,sf,fZ r f.1,QN t f.2]
theorem TM{A:Ma}{s:Shared}{x:V}{v:Value}(c:Zc x v)(b:xi x=E8):∀ {xs:kv} {us:em},ce xs us->xs.all xi=E8->∀ u∈us,Jc A s u v (FF x u)
 |_,_,.nil,_=>λu a=>by cases a
 |y::xs,u::us,.cons r t,f=>λd a=>by
  rw[rf,Fa]at f;rcases Da.mp a with rfl|a
  ·rw[fZ r f.1];exact QL r c f.1 b
  ·exact TM c b t f.2 d a
def TB(x:V)(xs:kv):Bool:=xs.any λy=>Kl y x
def UO(K:W.Frag)(a:Bool):R2:=λx y H Q=>∃ p xs,y=.ref p/\(Te K H p xs\/dh K H p xs)/\xi x=E8/\xs.all xi=E8/\Q (.bl$ if a then !TB x xs else TB x xs) H
def qP:wh X (Jb .In)$ UO X.K J8:=by
 rintro f s j H x y v u Q I g i ⟨p,xs,rfl,b,d,c,q⟩;cases i;rcases b with b|b
 ·obtain⟨a,r,pl,h⟩:=I.list b;refine Lw _ pl.isList (λw e=>TM g d r c w (by simpa using e)) ⟨.bl _,H,I,rfl,?_⟩;rw[show a.toArray.any _=a.any (FF x) by simp,QN r c];exact q
 ·obtain⟨a,r,pl,h⟩:=I.tuple b;refine Gv _ pl (λw e=>TM g d r c w ⋯) ⟨.bl _,H,I,rfl,?_⟩;rw[show a.toArray.any _=a.any (FF x) by simp,QN r c];exact q
def ņ:To X (.builtin "len") (λxs H Q=>∃ p b,xs=[.ref p]/\(Te X.K H p b\/dh X.K H p b)/\Q (.int b.length) H):=by
 rintro f s j H xs i Q I r ⟨p,b,rfl,c,q⟩;obtain⟨u,rfl,rfl⟩:=vt r;have h:=lH;rcases c with c|c
 ·obtain⟨d,e,pl,g⟩:=I.list c;have a:=e.length;exact Calls.call_len_list pl.isList (by simp<;>lia) ⟨.int b.length,H,I.tok _,⟨s.toks+1,by rw[Ua,a]⟩,q⟩
 ·obtain⟨d,e,pl,g⟩:=I.tuple c;have a:=e.length;exact len_tuple pl (by simp[Ua]<;>lia) ⟨.int b.length,H,I.tok _,⟨s.toks+1,by rw[Ua,a]⟩,q⟩
def ģ:To X (.type "list") (λxs H Q=>∃ p f,xs=[.ref p]/\(Te X.K H p f\/dh X.K H p f)/\∀ l,H l=A5->Q (.ref l) (Sb H l$ .qa f)):=by
 rintro m s z H xs A Q I r ⟨p,f,rfl,i,q⟩;obtain⟨u,rfl,rfl⟩:=vt r;have g:∀ (a:em),ce f a->f.length<=sizeLine->∀ (h':Heap) (c:Nat),(∀ b y,s.heap.get? b=BD y->h'.get? b=BD y)->
   h'.get? s.heap.objs.size=BD { cls:=.type "list",dict:=A5,data:=.seq a.toArray c,slots:=#[] }->EP X m z Q (.ref s.heap.objs.size) { s with heap:=h' }:=λa d j h' c k e=>
  ⟨.ref s.heap.objs.size,_,I.laid (t':=s.toks) k (va _) (show uk X.prog X.w _ h' _ (.qa f)from⟨j,a,c,d,e⟩),rfl,q _$ I.Cc.fresh$ va _⟩
 rcases i with i|i
 ·obtain⟨a,d,pl,j⟩:=I.list i;have h:=d.length;obtain⟨o,x,t,n,v⟩:=pl.isList;exact PZ p (.inl rfl) x t v (λh' c k e=>g a d j h' c k e) (by simp[Ua]<;>lia)
 ·obtain⟨a,d,pl,j⟩:=I.tuple i;have h:=d.length;obtain⟨o,x,t,n,v⟩:=pl;exact PZ p (.inr rfl) x t v (λh' c k e=>g a d j h' c k e) (by simp only[Ua]<;>lia)
def eS(K:W.Frag)(T:String)(x:V)(H:Hp):Prop:=match x with
 | .str _=>T = "str"
 | .int _=>T = "int"
 | .ref p=>(T = "list"/\∃ xs,Te K H p xs)\/(T = "tuple"/\∃ o,K.lookup p=BD o/\o.cls=.type "tuple"/\o.dict=A5)\/
   (T = "dict"/\((∃ a,H p=BD (.dK a))\/∃ a,H p=BD (.dT a)))\/(T = "set"/\∃ S n,H p=BD (.set S n))
 |_=>False
def g6(I:Xa X d m H s)(r:Zc x v)(ty:eS X.K T x H) :
  s.TypeIs v T/\∀ a,v=.ref a->∃ ob,s.heap.get? a=BD ob/\ob.dict=A5:=by
 cases x with
 |str z=>
  obtain⟨t,rfl⟩:=r;cases (show T = "str" from ty);exact⟨typeIs_str s z t,λq e=>nomatch e⟩
 |int i=>
  obtain⟨t,rfl⟩:=r;cases (show T = "int" from ty);exact⟨typeIs_int s i t,λq e=>nomatch e⟩
 |ref p=>
  cases r;rcases ty with⟨rfl,xs,k⟩|⟨rfl,o,b,j,g⟩|⟨rfl,b⟩|⟨rfl,S,n,b⟩
  ·obtain⟨l,_,pl,_⟩:=I.list k;refine⟨pl.isList.typeIs,λa e=>?_⟩;cases e;obtain⟨o,n,e,c,g,_⟩:=pl;exact⟨o,e,g⟩
  ·refine⟨⟨o,I.Ki p o b,j⟩,λa e=>?_⟩;cases e;exact⟨o,I.Ki _ o b,g⟩
  ·have z:∃ o,s.heap.get? p=BD o/\o.ExactDict:=by
    rcases b with⟨h,b⟩|⟨h,b⟩
    ·obtain⟨_,_,_,_,o,_,_,e,ex,_⟩:=I.Cc p _ b;exact⟨o,e,ex⟩
    ·obtain⟨_,_,_,_,o,_,_,e,ex,_⟩:=I.Cc p _ b
     simp_all
   obtain⟨o,e,ex⟩:=z;refine⟨⟨o,e,ex.1⟩,λa f=>?_⟩;cases f;exact⟨o,e,ex.2.1⟩
  ·obtain⟨o,_,_,_,e,ex,_⟩:=I.Cc p _ b;refine⟨⟨o,e,ex.1⟩,λa f=>?_⟩;cases f;exact⟨o,e,ex.2.1⟩
 |_=>exact False.elim ty
def tBM(K:W.Frag)(T:String)(r:V->kv->Hp->VK->Prop)(d:TE)(t:TA):TE:=λb H Q=>d b H λx a=>eS K T x a/\t b a λxs c=>r x xs c Q
variable{o e:Ia}{es:List Ia}{to:TE}{t:TA}{name:Str}{apos cpos:Td}{T id:String}{r:V->kv->Hp->VK->Prop}
def M1(B:qm T)(f:VP T name id)(i:Eo (.builtin id)=pure (.type "method_descriptor"))(y:qw X id r)(z:PE X o to)(w:PA X (e::es) t)
  (b:Xc o name X.env (Qb o X.env)=Qb o X.env:=by rfl)
  (d:((Dc cpos$ wa (e::es) X.env).all (λx=>!x.1) && (Lh cpos$ pf [] X.env).all (λx=>x.1.isSome)
   && decide ((e::es).length+([]:List ij).length+(if ([]:List ij).isEmpty then 0 else 1)<30))=E8:=by rfl)
  (c:(apos.endLine == cpos.line)=E8:=by rfl) (A:wa (e::es) X.env=(J8,Qb e X.env)::wa es X.env:=by rfl) (g:(Dc cpos$ wa es X.env).any (·.1)=J8:=by rfl) :
  PE X (.Call (.Attribute o name apos) (e::es) [] cpos)$ tBM X.K T r to t:=by
 intro a s j H Q I h;refine Hv b d c rfl (Bd (z a s j H _ I h) λv s1 ſ=>?_);obtain⟨x,H1,k,m,ty,C⟩:=ſ;obtain⟨q,u⟩:=g6 k m ty;refine⟨T,id,B,f,i,q,u,?_⟩;have l:=w cpos a s1 j H1 _ k C;rw[A]at l ⊢;refine Uh ⋯$ ar ?_;exact Bd l λus s2 ⟨vs,n,p,E,D⟩=>y a s2 j n x vs v us Q p m E D
end
def UL(X:Cx)(b:String)(r:V->kv->Hp->VK->Prop):Prop:=
 ∀ a s σ H x xs v us Q,Xa X a σ H s->Zc x v->ce xs us->r x xs H Q->
  wpAny (model X.prog X.w) X.A (call (.builtin b)$ v::us) (EP X a σ Q) X.xe s
theorem ce.one{x:V}{us}(h:ce [x] us):∃ u,us=[u]/\Zc x u:=by
 cases h with|cons r h=>cases h;exact⟨_,rfl,r⟩
theorem ce.two{x y:V}{us}(h:ce [x,y] us):∃ u v,us=[u,v]/\Zc x u/\Zc y v:=by
 cases h with|cons r h=>cases h with|cons q h=>cases h;exact⟨_,_,rfl,r,q⟩
theorem ce.eraseIdx:∀ {xs:kv} {us:em} (i:Nat),ce xs us->ce (xs.eraseIdx i) (us.eraseIdx i)
 |_,_,_,.nil=>.nil
 |_,_,0,.cons _ t=>t
 |_,_,i+1,.cons r t=>.cons r (ce.eraseIdx i t)
theorem RT{a:Type}:∀ (l:List a) (i:Nat),(l.eraseIdx i).length<=l.length
 |[],_=>va _
 |_::_,0=>zg _
 |_::r,i+1=>sy (RT r i)
section
variable{X:Cx}{pins:List$ Addr × Obj}{σ:St}{H:Hp}{s:Shared}{l b:Addr}{xs ys zs:kv}
def Xa.UA{a its':em}(I:Xa X pins σ H s)(b:H l=BD (.qa xs))
  (e:s.heap.get? l=BD { cls:=.type "list",data:=.seq a.toArray n }) (d:f a.toArray=its'.toArray) (h:ce ys its') (i:ys.length<=sizeLine) :
  Xa X pins σ (Sb H l$ .qa ys) { s with heap:=s.heap.update l (Ge f),toks:=t' }:=by
 have q:=zaA e f;rw[d]at q;refine I.write (by rw[b];exact trivial) (.inl rfl) (λj u c g=>(De s.heap _$ Gd c).trans g) ⟨_,q⟩ ?_;exact⟨i,its',_,h,q⟩
def Xa.gB(I:Xa X pins σ H s)(b:ce ys a)(c:ys.length<=sizeLine) :
  Xa X pins σ (Sb H s.heap.objs.size$ .qa ys) { s with heap:=s.heap.push { cls:=.type "list",data:=.seq a.toArray },toks:=t' }:=
 I.laid (λd d q=>da _ q) (va _) ⟨c,a,0,b,Ca _ rfl⟩
def Xa.fresh(I:Xa X pins σ H s):H s.heap.objs.size=A5:=I.Cc.fresh$ va _
def Xa.Fs(I:Xa X pins σ H s)(b:H l=BD (.qa xs)):xs.length<=sizeLine/\∃ (a:em) (n:Nat),ce xs a/\xs.length=a.length/\s.heap.get? l=BD { cls:=.type "list",data:=.seq a.toArray n }:=by
 obtain⟨z,a,n,r,e⟩:=I.Cc l _ b;exact⟨z,a,n,r,r.length,e⟩
def znp(h:n<=sizeLine):Fg n=J8:=by
 unfold Fg
 simp_all
end
section
variable{X:Cx}
def vK:V->kv->Hp->VK->Prop:=λx a H Q=>∃ l xs y,x=.ref l/\a=[y]/\H l=BD (.qa xs)/\xs.length<sizeLine/\Q .ec (Sb H l$ .qa$ xs++[y])
def DM:UL X "list.append" vK:=by
 intro c s o H x m v k Q I g f h;obtain⟨l,xs,y,rfl,rfl,b,j,q⟩:=h;cases g;obtain⟨u,rfl,d⟩:=f.one;obtain⟨z,a,n,r,i,e⟩:=I.Fs b;refine FB F.slot_list_append ⟨_,e,rfl⟩ F.entry_list_append (F.args_list_append_2 _ _) (PySem.list_append l a.toArray n u$ by simp_all) ⟨e,⟨.ec,_,I.UA (its':=a++[u]) b e ⋯ (r.append$ .cons d .nil) ?_,rfl,q⟩⟩;rw[Nb,List.length_singleton]
 lia
def pT:V->kv->Hp->VK->Prop:=λx c H Q=>∃ l b xs a,x=.ref l/\c=[.ref b]/\H l=BD (.qa xs)/\H b=BD (.qa a)/\xs.length+a.length<=sizeLine/\Q .ec (Sb H l$ .qa$ xs++a)
def R3:UL X "list.extend" pT:=by
 intro i s ό H x D v C Q I y w h;obtain⟨l,b,xs,G,rfl,rfl,g,k,B,q⟩:=h;cases y;obtain⟨u,rfl,t⟩:=w.one;cases t;obtain⟨z,c,n,r,A,e⟩:=I.Fs g;obtain⟨E,a,o,p,m,j⟩:=I.Fs k;have f:c.toArray.size+a.toArray.size<=sizeLine:=by rw[Ua,Ua];lia
 have d:¬ (!c.toArray.isEmpty && Fg (c.toArray.size+a.toArray.size))=E8:=by
  rw[znp f,Kz];exact qb
 refine FB F.slot_list_extend ⟨_,e,rfl⟩ F.entry_list_extend (F.args_list_extend_2 _ _)
  (AutoSeq1.list_extend_list_list_0 l c.toArray n b a.toArray o d ⋯$ by lia) ⟨e,j,?_⟩
 refine⟨.ec,_,I.UA (its':=c++a) g e ⋯ (r.append p) ?_,rfl,q⟩;rw[Nb]
 lia
def zW:V->kv->Hp->VK->Prop:=λx a H Q=>∃ l xs i k y,x=.ref l/\a=[.int i]/\H l=BD (.qa xs)/\-(2 ^ 63)<=i/\i<2 ^ 63/\qu i xs.length=BD k/\xs[k]?=BD y/\Q y (Sb H l$ .qa$ xs.eraseIdx k)
def Ŋ:UL X "list.pop" zW:=by
 rintro d s D H x vs v C Q I o m ⟨l,xs,i,k,y,rfl,rfl,c,f,g,p,h,q⟩;cases o;obtain⟨u,rfl,j⟩:=m.one;obtain⟨t,rfl⟩:=j;obtain⟨z,a,n,r,A,e⟩:=I.Fs c;obtain⟨w,B,b⟩:=r.get h;refine FB F.slot_list_pop ⟨_,e,rfl⟩ F.entry_list_pop (F.args_list_pop_2 _ _)
  (MeetsSeq.list_pop_at l a.toArray n i t k w (fitsIndex_both f g) ⋯ ⋯$ by simp_all) ⟨e,?_⟩
 refine⟨y,_,I.UA c e ?_ (r.eraseIdx k) ?_,b,q⟩
 ·show a.toArray.eraseIdxIfInBounds k=(a.eraseIdx k).toArray
  simp_all
 ·have:=RT xs k
  lia
def L6:R2:=λx y H Q=>∃ l b xs a,x=.ref l/\y=.ref b/\H l=BD (.qa xs)/\H b=BD (.qa a)/\xs.length+a.length<=sizeLine/\∀ p,H p=A5->Q (.ref p) (Sb H p$ .qa$ xs++a)
def tR:wh X (pe .Add) L6:=by
 rintro d s C H x y v u Q I m o ⟨l,b,xs,B,rfl,rfl,i,h,t,q⟩;cases m;cases o;obtain⟨z,c,n,r,p,e⟩:=I.Fs i;obtain⟨A,a,w,k,j,f⟩:=I.Fs h;refine PySem.P.add_list e f ?_ ⋯;have g:c.toArray++a.toArray=(c++a).toArray:=by simp
 rw[g];exact⟨.ref _,_,I.gB (r.append k) ⋯,rfl,q _ I.fresh⟩
end
section
variable{prog:Ba}{w:Ra}{A:Ma}{E:Value->Shared->Prop}{s:Shared}
set_option maxRecDepth 100000 in
end
end L2
namespace Att
open W Calls
def C6:∀ c d,WellAll P h d (c.map VJ)->rh d c:=by
 intro c;induction c with
 |nil=>
  intro d w;cases w;exact .nil
 |cons n c e=>
  intro d w;cases w with
  |cons a b=>
   cases a;exact .cons _ _$ e _ b
def zi5{l:OpenLaw}(s:l.most=BD n)
  (b:l.row.toRowW.claim.pre args=E8) (k:WellAll P h e args) :
  ∃ a vs c,e=[Db a]/\args=[WData.list$ c.map VJ]/\h.get? a=BD { cls:=.type "list",data:=.seq vs.toArray }/\rh vs c/\c.length<=n:=by
 have j:=(pre_splitW b).1;have m:l.pre.holds [] { args:=args }=E8:=(pre_splitW b).2;obtain⟨d,r,rfl,o,p⟩:=hasAllW_cons j;obtain rfl:=hasAllW_nil p;obtain⟨xs,rfl,q⟩:=hasW_list o;obtain⟨c,rfl⟩:=items_int q;have g:c.length<=n:=by
  unfold OpenLaw.pre at m;have i:(WTm.not$ .lt (.lit$ .int n)$ .len$ .arg 0).holds [] { args:=[.list$ c.map .int] }=E8:=by
   have i:=(holds_andW m).1
   rwa [s]at i
  have w:=condW_of i$ w_not$ w_lt w_lit$ w_len_list$ w_arg rfl
  simp_all
 cases k with
 |cons u v=>
  cases v;cases u with
  |list t f=>exact⟨_,_,c,rfl,rfl,t,C6 c _ f,g⟩
theorem ŭ(l:OpenLaw) a:l.row.toRowW.claim.post a (.bool E8) a=E8:=
 postW_of
  (show WShape.has [] (.bool E8) .bool=E8 by first|rfl|decide|simp)
  (w_eq_bool (w_res rfl) w_lit) rfl
def yp{l:OpenLaw}
  (R:l.most=BD n) (x:d.params.defaults=[])
  (i:∀ w e b s A fa o B p g a vs t,
   Ground q c [] C w e s A b.heap->D w b.heap->
   b.heap.get? fa=BD o->o.data=.func (docDef d.name d.params d.body d.scope B p g)->b.heap.CodeRec p d.name->s d.name=BD (.ref fa)->
   b.heap.get? a=BD { cls:=.type "list",data:=.seq vs.toArray }->rh vs t->t.length<=n->b.gens=#[]->
   codeAny (model l.prog w) dn (.call (.ref fa) ⟨[.ref a],[]⟩) (λr u=>r=.ok (.ret$ .bool E8)/\OldK b.heap u.heap/\u.os=b.os/\qh u.gens) b) :
  WalkO q c C D l.row.toRowW d [] (λf vs=>PySem.call f vs):=by
 intro w e b s A G Y fa o B p g ό kV S N v F y ϋ E I V m H ϊ z P;obtain rfl:ό=.none:=Dflts.none F x;obtain rfl:kV=.none:=Dflts.noKw F;obtain⟨a,vs,t,rfl,rfl,k,h,j⟩:=zi5 R m z;refine enter_call (xf (i w e b s A fa o B p g a vs t G Y S (fd_plain N) v y k h j ϋ) λr u T=>?_);obtain⟨rfl,K,L,M⟩:=T;exact⟨.inl ⟨.bool E8,.bool E8,[],rfl,λJ=>rfl,.bool E8,ŭ l _,λJ=>⟨List.Pairwise.nil,λJ Q=>(nomatch Q)⟩⟩,K,L,M⟩
end Att
namespace L2
open Spec
theorem UF:∀ {a:em} {ns:gV},rh a ns->ce (ns.map V.int) a
 |_,_,.nil=>.nil
 |_,_,.cons n t h=>.cons ⟨t,rfl⟩ (UF h)
noncomputable abbrev tU{K:W.Frag}{h:Heap}(_:K.In h):W.Frag:=K
noncomputable def xl(s:Stmt):Arguments:=match s with
 | .FunctionDef _ a _ _ _ _ _ _ _ _=>a
 |_=>{ posonlyargs:=[],args:=[],vararg:=A5,kwonlyargs:=[],kw_defaults:=[],kwarg:=A5,defaults:=[] }
noncomputable def Nj(s:Stmt):List Stmt:=match s with
 | .FunctionDef _ _ b _ _ _ _ _ _ _=>b
 |_=>[]
noncomputable def Kf(s:Stmt):Scope:=match s with
 | .FunctionDef _ _ _ _ _ _ sc _ _ _=>sc
 |_=>{ kind:=.function,names:=[],isGenerator:=J8,isCoroutine:=J8 }
noncomputable abbrev E0:XK:=λa a a=>False
inductive RE(K:W.Frag)(x qual:Str)(st:Stmt)(f:Addr)(fd:lf):Prop
 |mk (oc:Value) (od:Option Addr) (kV doc pm:Value) (an:Option Addr) (cdv ct:Value) (osl:Array (Option Value)) (f1:fd=W.fnOf x qual (xl st) (Nj st) (Kf st) .none kV doc pm an cdv ct) (f2:K.lookup f=BD ⟨oc,od,.func fd,osl⟩) (f3:W.codeIn K cdv qual=E8):RE K x qual st f fd
structure oH(K:W.Frag)(x qual:Str)(st:Stmt)(f:Addr)(fd:lf):Prop where
 ex:RE K x qual st f fd
 kp:W.keepIn K (.ref f)=E8
section
variable{P:Ba}{w:Ra}{K:W.Frag}{mg:Str->Option Value}{base:Heap}
def GS{st}{kV d h b ct}(l:K.lookup f=BD ⟨i,j,.func$ W.fnOf x a (xl st) (Nj st) (Kf st) .none kV d h g b ct,e⟩)
  (c:W.codeIn K b a=E8) (k:W.keepIn K (.ref f)=E8):oH K x a st f$ W.fnOf x a (xl st) (Nj st) (Kf st) .none kV d h g b ct:=⟨⟨i,j,kV,d,h,g,b,ct,e,rfl,l,c⟩,k⟩
end
def NU(h:n<=1000):n<sizeLine:=Iv h ⋯
section
variable{X:Cx}
def pv i(c:X.N[i]?=BD x:=by rfl)(e:cG X.env.scope x:=by first|exact Or.inl rfl|exact Or.inr$ Or.inl rfl|exact Or.inr$ Or.inr rfl)(d:(x == ("__debug__" : Str))=J8:=by decide)
  (a:(x == ("__classdict__" : Str))=J8:=by decide):PE X (.Name x b)$ vW i:=rW c e d a
end
end L2
namespace L4
open Spec L2
def PQ(a:c):∃ b,b=a:=⟨a,rfl⟩
def Yd{b:Type}(a:b):b:=Classical.choose$ PQ a
@[simp] theorem Ur(a:b):Yd a=a:=zaB$ PQ a
inductive D where
 |ec|bl (b:Bool)|int (i:Int)|str (x:Str)|db (xs:List D)|Ug (ns:gV)|ref (n:Nat)
 |qa (xs:List D)|Ga (ks:List wc) (xs:List D)|obj (c:Nat) (ns:ab) (xs:List D)|Ys (c:Nat)|gt (ss:ab)
abbrev lv:=List D
inductive Ob where
 |qa (xs:lv)
 |Ga (kvs:List (wc × D))
 |yb (c:Nat) (fs:List (Str × D))
 |Yb (kvs:List (wc × D))
 |ue (ks:List TK)
abbrev Ea:=List Ob
abbrev St:=L2.St
abbrev Ev:=List$ Option D
structure Xn where
 cls:Nat
inductive ii(α:Type) where
 |ok (a:α) (σ:Ea)
 |ex (x:Xn) (σ:Ea)
 |Ab
abbrev M(a:Type):=Ea->ii a
noncomputable def ret{b:Type}(a:b):M b:=λc=>.ok a c
noncomputable def Ab{a:Type}:M a:=λb=>.Ab
noncomputable def ii.bind{c d:Type}(o:ii c)(k:c->M d):ii d:=match o with
 | .ok a b=>k a b
 | .ex x b=>.ex x b
 | .Ab=>.Ab
def Kc{a b:Type}(m:M a)(k:a->M b):M b:=λc=>(m c).bind k
inductive Fl where
 |nx (ρ:Ev)|rt (d:D)|bk (ρ:Ev)|ct (ρ:Ev)|xc (ρ:Ev) (x:Xn)
structure Tab where
 P:Addr
 line:Int
 col:Int
 qual:Str
structure Tx where
 ro:List Tab
 bm:Addr
structure Tb where
 K:W.Frag
 ca:Nat->Addr
 tx:Tx
def wv(q:Str)(c:Addr):Heap->Prop:=λh=>∃ o a t,h.get? c=BD o/\o.data=.fields a/\a[1]?=BD (.str q t)
def EQ(a:Addr):Heap->Prop:=λh=>∃ o,h.get? a=BD o/\o.cls=.type "module"/\o.dict=BD builtinsNs/\o.data=.plain
def Ir(T:Tb)(a:b')(H:Hp):Prop:=∀ t∈T.tx.ro,(T.tx.bm ∉ a/\∃ b,H T.tx.bm=BD (.Uc b$ .ext$ EQ T.tx.bm))/\t.P ∉ a/\∃ ps,H t.P=BD (.vl ps)/\(ps=#[]\/∃ c,ps=#[Bc t.line,Bc t.col,.ref c]/\c ∉ a/\H c=BD (.ext$ wv t.qual c))
def Ir.grow(h:Ir T d H)(k:∀ b u,H b=BD u->a b=BD u):Ir T d a:=λt m=>by
 obtain⟨⟨f,o,g⟩,i,ps,j,l⟩:=h t m;exact⟨⟨f,o,k _ _ g⟩,i,ps,k _ _ j,l.imp id λ⟨c,e,n,z⟩=>⟨c,e,n,k _ _ z⟩⟩
def Ir.sub(h:Ir T a H)(k:∀ b∈d,b∈a):Ir T d H:=λt m=>by
 obtain⟨⟨f,g⟩,i,ps,j,l⟩:=h t m;exact⟨⟨λz=>f$ k _ z,g⟩,λz=>i$ k _ z,ps,j,l.imp id λ⟨c,e,n,z⟩=>⟨c,e,λy=>n$ k _ y,z⟩⟩
def Ir.more(h:Ir T a H)(o:H p=A5):Ir T (a++[p]) H:=λt l=>by
 obtain⟨⟨i,m,f⟩,j,ps,g,k⟩:=h t l;have d:∀ {b:Addr} {u:HO},H b=BD u->b ∉ a->b ∉ a++[p]:=fun {b u} e n z=>(pi.mp z).elim n λy=>by
  simp_all
 exact⟨⟨d f i,m,f⟩,d g j,ps,g,k.imp id λ⟨c,e,n,z⟩=>⟨c,e,d z n,z⟩⟩
def Ir.out(h:Ir T g H)(r:∀ b,b≠a->i b=H b)(q:a∈g\/∃ f,H a=BD (.dK f)):Ir T g i:=λt s=>by
 obtain⟨⟨k,v,m⟩,l,ps,o,p⟩:=h t s;have j:∀ {b:Addr} {u:HO},H b=BD u->b ∉ g->(∀ f,u≠.dK f)->i b=BD u:=fun {b u} e n d=>by
  rw[r b (λz=>by
   subst z;rcases q with y|⟨f,y⟩
   ·exact n y
   ·rw[e]at y;cases y;exact d f rfl)]
  exact e
 exact⟨⟨k,v,j m k (λw z=>by cases z)⟩,l,ps,j o l (λw z=>by cases z),p.imp id λ⟨c,e,n,z⟩=>⟨c,e,n,j z n (λw y=>by cases y)⟩⟩
noncomputable def Tb.cv(T:Tb)(x:Xn):Value:=.ref$ T.ca x.cls
noncomputable def eJ(c:Nat):Option Nat:=if c<100 then A5 else BD (c / 100 - 1)
def VH(C:Addr)(c:Option Addr)(a:Addr):Heap->Prop:=λh=>∃ o,h.get? a=BD o/\o.cls=.ref C/\∀ b,c=BD b->o.dict=BD b/\∃ d,o.data=.fields d
def SG(b:Addr)(n:Nat):Heap->Prop:=λh=>∃ o,h.get? b=BD o/\∃ a c t,o.data=.dict a c/\StrKeys a/\nsFind a "pot" = BD (.int n t)
def NH(K:W.Frag)(H:Hp)(a:Addr)(c:gV):Prop:=
 (∃ o,H a=BD (.Uc o$ .qa$ c.map V.int))\/
  ∃ (o:Obj) (b:Array Value) (n:Nat),K.lookup a=BD o/\o.cls=.type "list"/\o.dict=A5/\o.data=.seq b n/\b.size<=sizeLine/\ce (c.map V.int) b.toList
def NH.seq{K}(h:NH K H a b):Te K H a$ b.map V.int:=by
 rcases h with⟨o,h⟩|h
 ·exact .inl$ .inr ⟨o,h⟩
 ·exact .inr h
def hD(K:W.Frag)(a:Addr)(c:ab):Prop:=∃ (o:Obj) (b:Array Value) (n:Nat),K.lookup a=BD o/\o.cls=.type "tuple"/\o.data=.seq b n/\b.size<=sizeLine/\ce (c.map V.str) b.toList
mutual
def Na(T:Tb)(d:b')(H:Hp):D->V->Prop
 | .ec,v=>v=.ec
 | .bl b,v=>v=.bl b
 | .int i,v=>v=.int i
 | .str x,v=>v=.str x
 | .db ds,v=>∃ p f,v=.ref p/\H p=BD (.db f)/\pb T d H ds f
 | .Ug ns,v=>∃ a,v=.ref a/\NH T.K H a ns
 | .ref n,v=>∃ a,v=.ref a/\d[n]?=BD a
 | .qa ds,v=>∃ a f,v=.ref a/\a ∉ d/\H a=BD (.qa f)/\pb T d H ds f
 | .Ga ks ds,v=>∃ a e,v=.ref a/\a ∉ d/\Rd H a (.dK e)/\e.map (·.1)=ks/\pb T d H ds (e.map (·.2))
 | .obj c ns ds,v=>∃ a k h,v=.ref a/\a ∉ d/\H a=BD (.yb (T.ca c) k h)/\h.map (·.1)=ns/\pb T d H ds (h.map (·.2))
 | .Ys c,v=>∃ a j,v=.ref a/\a ∉ d/\H a=BD (.ext$ VH (T.ca c) j a)/\∀ n,eJ c=BD n->∃ g,j=BD g/\g ∉ d/\H g=BD (.ext$ SG g n)
 | .gt ss,v=>∃ a,v=.ref a/\hD T.K a ss
def pb(T:Tb)(b:b')(H:Hp):lv->kv->Prop
 |[],a=>a=[]
 |d::ds,a=>∃ v r,a=v::r/\Na T b H d v/\pb T b H ds r
end
def Kp(o b:HO):Prop:=b=o\/(∃ d a,o=.dK a/\b=.Uc d (.dK a))\/∃ e c,o=.vl e/\b=.vl c
def Kp.trans(x:Kp a b)(y:Kp b c):Kp a c:=by
 rcases x with rfl|⟨g,d,rfl,rfl⟩|⟨ps,e,rfl,rfl⟩
 ·exact y
 ·rcases y with rfl|⟨_,_,z,_⟩|⟨_,_,z,_⟩
  ·exact .inr$ .inl ⟨g,d,rfl,rfl⟩
  all_goals simp_all
 ·rcases y with rfl|⟨_,_,z,_⟩|⟨_,f,_,rfl⟩
  ·exact .inr$ .inr ⟨ps,e,rfl,rfl⟩
  ·cases z
  ·exact .inr$ .inr ⟨ps,f,rfl,rfl⟩
structure qd(μ:b')(H:Hp)(μ':b')(H':Hp):Prop where
 pre:∃ r,μ'=μ++r
 db:∀ p xs,H p=BD (.db xs)->H' p=BD (.db xs)
 Uc:∀ p o u,H p=BD (.Uc o u)->H' p=BD (.Uc o u)
 keep:∀ p o,H p=BD o->p ∉ μ->(∃ o',H' p=BD o'/\Kp o o')/\p ∉ μ'
def qd.refl a H:qd a H a H:=⟨⟨[],by simp⟩,λb b h=>h,λb b b h=>h,λb b h n=>⟨⟨_,h,.inl rfl⟩,n⟩⟩
def qd.trans(a:qd g H c e)(b:qd c e d f):qd g H d f:=by
 obtain⟨⟨r,rfl⟩,A,k,s⟩:=a;obtain⟨⟨z,rfl⟩,B,l,t⟩:=b;exact⟨⟨r++z,by simp⟩,λp xs h=>B p xs$ A p xs h,λp o u h=>l p o u$ k p o u h,λp o h n=>let ⟨⟨x,m,i⟩,v⟩:=s p o h n;let ⟨⟨y,q,j⟩,w⟩:=t p x m v;⟨⟨y,q,i.trans j⟩,w⟩⟩
def qd.Oh(e:qd f H b d) p o(h:H p=BD o)(n:p ∉ f)(i:(∀ a,o≠.dK a)/\∀ ps,o≠.vl ps:=by exact⟨(λl z=>by cases z),(λl z=>by cases z)⟩):d p=BD o/\p ∉ b:=by
 obtain⟨⟨k,g,c⟩,j⟩:=e.keep p o h n;rcases c with rfl|⟨_,a,z,_⟩|⟨ps,_,z,_⟩;all_goals simp_all
def qd.rd(e:qd k H b f) p a(h:Rd H p$ .dK a)(n:p ∉ k):Rd f p (.dK a)/\p ∉ b:=by
 rcases h with h|⟨d,h⟩
 ·obtain⟨⟨l,g,c⟩,j⟩:=e.keep p _ h n;rcases c with rfl|⟨d,i,z,rfl⟩|⟨_,_,z,_⟩
  ·exact⟨.inl g,j⟩
  ·cases z;exact⟨.inr ⟨d,g⟩,j⟩
  ·cases z
 ·exact⟨.inr ⟨d,e.Uc _ _ _ h⟩,(e.keep p _ h n).2⟩
def qd.get(e:qd c H b d){n:Nat}(h:c[n]?=BD a):b[n]?=BD a:=by
 obtain⟨⟨r,rfl⟩,_,_⟩:=e;rw[ib (ba.mp h).1];exact h
mutual
theorem Na.mono{T:Tb}{u l:b'}{H r:Hp}(e:qd u H l r):∀ (d:D) (v:V),Na T u H d v->Na T l r d v
 | .ec,v,h=>by simpa [Na]using h
 | .bl b,v,h=>by simpa [Na]using h
 | .int i,v,h=>by simpa [Na]using h
 | .str x,v,h=>by simpa [Na]using h
 | .db ds,v,h=>by
  rw[Na]at h ⊢;obtain⟨p,vs,g,f,j⟩:=h;exact⟨p,vs,g,e.db _ _ f,pb.mono e ds vs j⟩
 | .Ug ns,v,h=>by
  rw[Na]at h ⊢;obtain⟨a,g,f⟩:=h;refine⟨a,g,?_⟩;rcases f with⟨o,f⟩|f
  ·exact .inl ⟨o,e.Uc _ _ _ f⟩
  ·exact .inr f
 | .ref n,v,h=>by
  rw[Na]at h ⊢;obtain⟨a,g,f⟩:=h;exact⟨a,g,e.get f⟩
 | .qa ds,v,h=>by
  rw[Na]at h ⊢;obtain⟨a,vs,g,f,j,k⟩:=h;exact⟨a,vs,g,(e.Oh _ _ j f).2,(e.Oh _ _ j f).1,pb.mono e ds vs k⟩
 | .Ga ks ds,v,h=>by
  rw[Na]at h ⊢;obtain⟨a,vs,g,f,j,m,k⟩:=h;exact⟨a,vs,g,(e.rd _ _ j f).2,(e.rd _ _ j f).1,m,pb.mono e ds _ k⟩
 | .obj c ns ds,v,h=>by
  rw[Na]at h ⊢;obtain⟨a,z,vs,g,f,j,m,k⟩:=h;exact⟨a,z,vs,g,(e.Oh _ _ j f).2,(e.Oh _ _ j f).1,m,pb.mono e ds _ k⟩
 | .Ys c,v,h=>by
  rw[Na]at h ⊢;obtain⟨a,y,g,f,j,k⟩:=h;exact⟨a,y,g,(e.Oh _ _ j f).2,(e.Oh _ _ j f).1,λn q=>let ⟨w,A,s,t⟩:=k n q;⟨w,A,(e.Oh _ _ t s).2,(e.Oh _ _ t s).1⟩⟩
 | .gt ss,v,h=>by rw[Na]at h ⊢;exact h
theorem pb.mono{T:Tb}{f a:b'}{H c:Hp}(e:qd f H a c):∀ (b:lv) (vs:kv),pb T f H b vs->pb T a c b vs
 |[],vs,h=>by simpa [pb]using h
 |d::b,vs,h=>by
  rw[pb]at h ⊢;obtain⟨v,r,g,i,j⟩:=h;exact⟨v,r,g,Na.mono e d v i,pb.mono e b r j⟩
end
def pb.nil:pb T a H [] []:=by rw[pb]
def pb.cons{T}{a}{H}{d}{v}{b}{vs}(c:Na T a H d v)(e:pb T a H b vs):pb T a H (d::b)$ v::vs:=by
 rw[pb];exact⟨v,vs,rfl,c,e⟩
theorem pb.length:∀ {a:lv} {vs:kv},pb T c H a vs->a.length=vs.length
 |[],vs,h=>by rw[pb]at h;subst h;rfl
 |d::a,vs,h=>by
  obtain⟨v,r,rfl,_,b⟩:=h;simp[pb.length b]
theorem pb.get:∀ {a:lv} {vs:kv} {i:Nat} {d:D},pb T c H a vs->a[i]?=BD d->∃ v,vs[i]?=BD v/\Na T c H d v
 |[],vs,i,d,h,e=>by simp at e
 |d::a,vs,0,x,h,e=>by
  obtain⟨v,r,rfl,f,b⟩:=h
  simp_all
 |d::a,vs,i+1,x,h,e=>by
  obtain⟨v,r,rfl,f,b⟩:=h;simpa using pb.get b ⋯
theorem pb.append:∀ {c a:lv} {vs b:kv},pb T f H c vs->pb T f H a b->pb T f H (c++a) (vs++b)
 |[],a,vs,b,h,e=>by rw[pb]at h;subst h;simpa using e
 |d::c,a,vs,b,h,e=>by
  obtain⟨v,r,rfl,g,i⟩:=h;exact pb.cons g$ pb.append i e
theorem pb.set(f:Na T c H d v):∀ {a:lv} {vs:kv} (i:Nat),pb T c H a vs->pb T c H (a.set i d) (vs.set i v)
 |[],vs,i,h=>by rw[pb]at h;subst h;simpa using pb.nil
 |x::a,vs,0,h=>by
  obtain⟨w,r,rfl,e,b⟩:=h;exact pb.cons f b
 |x::a,vs,i+1,h=>by
  obtain⟨w,r,rfl,e,b⟩:=h;exact pb.cons e$ pb.set f i b
theorem pb.drop:∀ {a:lv} {vs:kv} (n:Nat),pb T b H a vs->pb T b H (a.drop n) (vs.drop n)
 |a,vs,0,h=>by simpa using h
 |[],vs,n+1,h=>by rw[pb]at h;subst h;simpa using pb.nil
 |x::a,vs,n+1,h=>by
  obtain⟨w,r,rfl,d,c⟩:=h;simpa using pb.drop n c
theorem pb.take:∀ {a:lv} {vs:kv} (n:Nat),pb T b H a vs->pb T b H (a.take n) (vs.take n)
 |a,vs,0,h=>by simpa using pb.nil
 |[],vs,n+1,h=>by rw[pb]at h;subst h;simpa using pb.nil
 |x::a,vs,n+1,h=>by
  obtain⟨w,r,rfl,c,d⟩:=h;exact pb.cons c$ pb.take n d
def Ms(T:Tb)(a:b')(H:Hp):List (Str × D)->List (Str × V)->Prop:=Paired λp q=>p.1=q.1/\Na T a H p.2 q.2
def jg(T:Tb)(a:b')(H:Hp):List (wc × D)->List (wc × V)->Prop:=Paired λp q=>p.1=q.1/\Na T a H p.2 q.2
def yo(T:Tb)(e:b')(H:Hp)(a:Addr):Ob->Prop
 | .qa ds=>∃ b,H a=BD (.qa b)/\pb T e H ds b
 | .Ga d=>∃ b,H a=BD (.dK b)/\jg T e H d b
 | .yb c g=>∃ f b,H a=BD (.yb (T.ca c) f b)/\Ms T e H g b
 | .Yb d=>∃ h b,H a=BD (.Uc h$ .dK b)/\jg T e H d b
 | .ue ks=>∃ b,H a=BD (.dT b)/\b.map (·.1)=ks
structure Yc(T:Tb)(μ:b')(H:Hp)(σ:Ea):Prop where
 len:μ.length=σ.length
 nd:μ.Nodup
 obs:∀ (n:Nat) (o:Ob),σ[n]?=BD o->∃ a,μ[n]?=BD a/\yo T μ H a o
 tb:Ir T μ H
def eh(T:Tb)(b:b')(H:Hp)(a:Ev)(st:St):Prop:=a.length=st.length/\∀ (i:Nat) (d:D),a[i]?=BD (BD d)->∃ v,st[i]?=BD (BD v)/\Na T b H d v
def eh.mono{st}(e:qd c H a b)(h:eh T c H f st):eh T a b f st:=
 ⟨h.1,λi d q=>let ⟨v,g,j⟩:=h.2 i d q;⟨v,g,Na.mono e d v j⟩⟩
set_option tactic.hygienic true in
def eh.set{st}(h:eh T a H c st) i(r:Na T a H d v):eh T a H (c.set i$ BD d)$ st.set i$ BD v:=by
 refine⟨by simpa using h.1,λj x q=>?_⟩;rw[ie]at q;by_cases b:i=j
 ·subst b;rw[ja rfl]at q;split at q
  ·rename_i e
   cases q;exact⟨v,by rw[ie,ja rfl,ja (by rw[<-h.1];exact e)],r⟩
  ·cases q
 ·rw[pa b]at q;obtain⟨w,f,g⟩:=h.2 j x q
  simp_all
def J7(e:Addr)(b d:Value)(h:Heap):Prop:=∃ c a,h.get? e=BD c/\c.cls=b/\c.data=.fields a/\1<a.size/\a[0]?=BD d/\a[1]?=BD .none
def xn(B:Heap)(l:List wg)(e:Addr)(a b:Value)(h:Heap):Prop:=B.StaysIn h/\B.get? e=A5/\h.FunFrames B l/\((∃ c,h.TracedAtW B e a b c)\/J7 e a b h)
def Ò(o:Obj)(n:Nat):Prop:=∃ a b t,o.data=.dict a b/\StrKeys a/\nsFind a "pot" = BD (.int n t)
def EF(d:Option Nat)(e:Addr)(B h f:Heap)(c:Hp):Prop:=∀ n,d=BD n->∃ a oD b,h.get? e=BD b/\b.dict=BD a/\B.get? a=BD oD/\Ò oD n/\c a=A5/\f.get? a=A5
inductive kE(outer:List wg)(H:Hp)(s:Shared)(cls:Value)(fd:Option Nat)(H':Hp)(e:Value)(s':Shared):Prop
 |mk (ea:Addr) (a0:Value) (B:Heap) (f1:e=.ref ea) (f2:xn B outer ea cls a0 s'.heap) (f3:H' ea=A5) (f4:s.heap.get? ea=A5) (f5:(∀ b o,H' b=BD o->∃ ob,B.get? b=BD ob)) (f6:(∀ b o,s.heap.get? b=BD o->H b=A5->b ∉ yk outer->B.get? b=BD o)) (f7:(∀ b o,s.heap.get? b=BD o->b ∉ yk outer->∃ o',B.get? b=BD o')) (f8:EF fd ea B s'.heap s.heap H'):kE outer H s cls fd H' e s'
structure WA(P:Ba)(w:Ra)(outer:List wg)(H:Hp)(s:Shared)(cls:Value)(fd:Option Nat)(H':Hp)(e:Value)(s':Shared):Prop where
 ex:kE outer H s cls fd H' e s'
 os:s'.os=s.os
 bare:qh s'.gens
 un:Un (yk outer) [] H H' s.heap s'.heap
 Cc:Ph P w H' s'.heap
noncomputable def Kk(P:Ba)(w:Ra):dw:=λa H s E e f=>∃ b d c,WA P w a H s b d c e f/\E b d c
structure fK(X:Cx)(st:St)(cls:Value)(fd:Option Nat)(H':Hp):Prop where
 oN:∀ (pins:i') (H:Hp) (s:Shared) (e:Value) (s':Shared),Xa X pins st H s->WA X.prog X.w X.stack H s cls fd H' e s'->X.xe e s'
noncomputable abbrev XE(X:Cx)(d:St):XK:=λa c b=>fK X d a c b
def Pb{d e:Type}(T:Tb)(E:XK)(R:b'->Hp->d->e->Prop)(f:b')(H:Hp)(o:ii d)(Q:e->Hp->Prop):Prop:=match o with
 | .ok a σ=>∀ b g c,qd f H b c->Yc T b c σ->R b c a g->Q g c
 | .ex x σ=>∀ b c,qd f H b c->Yc T b c σ->E (T.cv x) (eJ x.cls) c
 | .Ab=>False
def Pb.mono{R}{o:ii j}{Q:k->Hp->Prop}(e:qd l H c i)(h:Pb T E R l H o Q):Pb T E R c i o Q:=by
 cases o with
 |ok a σ=>exact λb g d f r q=>h b g d (e.trans f) r q
 |ex x σ=>exact λb d f r=>h b d (e.trans f) r
 |Ab=>exact h
def Pb.imp{R}{o:ii e}{Q d:f->Hp->Prop}(h:Pb T E R i H o Q)(k:∀ g b,Q g b->d g b):Pb T E R i H o d:=by
 cases o with
 |ok a σ=>exact λc g b j r q=>k _ _$ h c g b j r q
 |ex x σ=>exact h
 |Ab=>exact h
def Pb.bind{R:b'->Hp->j->u->Prop}{p}{m}{k:j->M t}{Q:v->Hp->Prop}{o}
  (h:Pb T E p l H (Kc m k i) Q) (f:∀ a b c g d,m i=.ok a b->qd l H c d->Yc T c d b->R c d a g->Pb T E p c d (k a b) Q->o g d):Pb T E R l H (m i) o:=by
 unfold Kc at h;cases e:m i with
 |ok a b=>
  rw[e]at h;exact λn g w s r q=>f a b n g w e s r q$ h.mono s
 |ex x b=>rw[e]at h;exact h
 |Ab=>rw[e]at h;exact h
def Pb.here{R}{d:c}{g:b}{Q}(h:Pb T E R a H (.ok d e) Q)(r:Yc T a H e)(p:R a H d g):Q g H:=h a g H (qd.refl _ _) r p
inductive XC(T:Tb)(st:St)(H:Hp)(P:b'->Ev->Ea->Prop):Prop
 |mk (μ:b') (ρ:Ev) (σ:Ea) (e:eh T μ H ρ st) (r:Yc T μ H σ) (p:P μ ρ σ):XC T st H P
section
variable(T:Tb)(X:Cx)
def tF(f:Ev->M D):TE:=λa H Q=>XC T a H λb c d=>Pb T (XE X a) (Na T) b H (f c d) Q
def QK:b'->Hp->Bool->Bool->Prop:=λc c a b=>b=a
def tT(f:Ev->M Bool):TT:=λa H Q=>XC T a H λb c d=>Pb T (XE X a) QK b H (f c d) Q
def tL(f:Ev->M (lv)):TA:=λa H Q=>XC T a H λb c d=>Pb T (XE X a) (pb T) b H (f c d) Q
inductive Tr where
 |nx (st:St)|rt (v:V)|bk (st:St)|ct (st:St)|xc (st:St) (cls:Value) (fd:Option Nat)
def No(T:Tb)(b:b')(H:Hp):Fl->Tr->Prop
 | .nx a,.nx st=>eh T b H a st
 | .rt d,.rt v=>Na T b H d v
 | .bk a,.bk st=>eh T b H a st
 | .ct a,.ct st=>eh T b H a st
 | .xc a x,.xc st cls fd=>eh T b H a st/\cls=T.cv x/\fd=eJ x.cls
 |_,_=>False
def Rp(X:Cx)(D:ck):Tr->Hp->Prop
 | .nx st,H=>D.nx st H
 | .rt v,H=>D.rt v H
 | .bk st,H=>D.bk st H
 | .ct st,H=>D.ct st H
 | .xc st cls fd,H=>fK X st cls fd H
noncomputable abbrev EN:XK:=λa a a=>False
def tS(g:Ev->M Fl):TS:=λD a H=>XC T a H λb c d=>Pb T EN (No T) b H (g c d)$ Rp X D
end
noncomputable def xs{c:Type}(d:Ev)(m:M c)(k:c->M Fl):M Fl:=λe=>match m e with
 | .ok a b=>k a b
 | .ex x b=>.ok (.xc d x) b
 | .Ab=>.Ab
def Pb.xs{D}{R}{st}{m:M p}{k}{s:t->Hp->Prop}(v:eh T l H u st)
  (h:Pb T EN (No T) l H (L4.xs u m k n)$ Rp X D) (f:∀ a b c g i,m n=.ok a b->qd l H c i->Yc T c i b->R c i a g->Pb T EN (No T) c i (k a b) (Rp X D)->s g i):Pb T (XE X st) R l H (m n) s:=by
 unfold L4.xs at h;cases e:m n with
 |ok a b=>
  rw[e]at h;exact λd g o j r q=>f a b d g o e j r q$ h.mono j
 |ex x b=>
  rw[e]at h;intro d o j r;exact h d (.xc st _ _) o j r ⟨v.mono j,rfl,rfl⟩
 |Ab=>rw[e]at h;exact h
abbrev FE(T:Tb)(X:Cx)(e:Ia)(f:Ev->M D):Prop:=PE X e$ tF T X f
abbrev FT(T:Tb)(X:Cx)(e:Ia)(f:Ev->M Bool):Prop:=PT X e$ tT T X f
abbrev FW(T:Tb)(X:Cx)(e:Ia)(f:Ev->M Bool):Prop:=PW X e$ tT T X f
abbrev FA(T:Tb)(X:Cx)(a:List Ia)(f:Ev->M (lv)):Prop:=PA X a$ tL T X f
abbrev FS(T:Tb)(X:Cx)(a:Stmt)(g:Ev->M Fl):Prop:=PS X a$ tS T X g
abbrev Ek(T:Tb)(X:Cx)(a:List Stmt)(g:Ev->M Fl):Prop:=xw X a$ tS T X g
noncomputable def Og:Nat:=1000
def eB(h:n<=Og):n<=sizeLine:=Od$ NU h
def yT(h:n<Og):n<sizeLine:=NU$ Od h
def IG{l:List g}(h:l.Nodup){i j:Nat}{a:g}(k:l[i]?=BD a)(m:l[j]?=BD a):i=j:=by
 obtain⟨c,d⟩:=ba.mp k;obtain⟨e,f⟩:=ba.mp m;have b:=Bo.mp h;rcases Mw i j with z|z|z
 ·exact absurd (d.trans f.symm)$ b i j c e z
 ·exact z
 ·exact absurd (f.trans d.symm)$ b j i e c z
section
variable{T:Tb}{μ μ':b'}{H H':Hp}{σ:Ea}
def TN(e:qd μ H μ' H'){xs}{b}(h:Paired (λ p q =>p.1=q.1/\Na T μ H p.2 q.2) xs b) :
  Paired (λ(p:a × D) (q:a × V)=>p.1=q.1/\Na T μ' H' p.2 q.2) xs b:=L2.Paired.Dp h λp q z=>⟨z.1,Na.mono e _ _ z.2⟩
theorem yo.mono(e:qd μ H μ' H')(d:H' a=H a):∀ {o:Ob},yo T μ H a o->yo T μ' H' a o
 | .qa ds,⟨b,h,r⟩=>⟨b,d.trans h,pb.mono e _ _ r⟩
 | .Ga f,⟨b,h,r⟩=>⟨b,d.trans h,TN e r⟩
 | .yb c j,⟨g,b,h,r⟩=>⟨g,b,d.trans h,TN e r⟩
 | .Yb f,⟨i,b,h,r⟩=>⟨i,b,d.trans h,TN e r⟩
 | .ue ks,⟨b,h,r⟩=>⟨b,d.trans h,r⟩
theorem yo.some:∀ {o:Ob},yo T μ H a o->∃ u,H a=Option.some u/\(∀ xs,u≠.db xs)
 | .qa ds,⟨b,h,r⟩=>⟨_,h,(λi z=>by cases z)⟩
 | .Ga d,⟨b,h,r⟩=>⟨_,h,(λi z=>by cases z)⟩
 | .yb c f,⟨e,b,h,r⟩=>⟨_,h,(λi z=>by cases z)⟩
 | .Yb d,⟨g,b,h,r⟩=>⟨_,h,(λi z=>by cases z)⟩
 | .ue ks,⟨b,h,r⟩=>⟨_,h,(λi z=>by cases z)⟩
theorem yo.BF:∀ {o:Ob},(∀ b,o≠.Yb b)->yo T μ H a o->∃ u,H a=Option.some u/\(∀ xs,u≠.db xs)/\(∀ e w,u≠.Uc e w)
 | .qa ds,_,⟨d,h,r⟩=>⟨_,h,(λi z=>by cases z),(λi i z=>by cases z)⟩
 | .Ga b,_,⟨d,h,r⟩=>⟨_,h,(λi z=>by cases z),(λi i z=>by cases z)⟩
 | .yb c g,_,⟨f,d,h,r⟩=>⟨_,h,(λi z=>by cases z),(λi i z=>by cases z)⟩
 | .Yb b,n,_=>absurd rfl (n b)
 | .ue ks,_,⟨d,h,r⟩=>⟨_,h,(λi z=>by cases z),(λi i z=>by cases z)⟩
def Yc.keep(r:Yc T μ H σ)(e:qd μ H μ H')(k:∀ a∈μ,H' a=H a)(t:Ir T μ H'):Yc T μ H' σ:=
 ⟨r.len,r.nd,λn o h=>let ⟨a,b,c⟩:=r.obs n o h;⟨a,b,c.mono e$ k a$ za b⟩,t⟩
def Yc.mem(r:Yc T μ H σ)(h:a∈μ):∃ u,H a=BD u/\(∀ xs,u≠.db xs):=by
 obtain⟨n,c⟩:=Xr h;have f:n<σ.length:=by rw[<-r.len];exact(ba.mp c).1
 obtain⟨e,b,d⟩:=r.obs n σ[n] ⋯;rw[c]at b;cases b;exact d.some
def mj(a:H p=A5):qd μ H μ$ Sb H p o:=
 ⟨⟨[],by simp⟩,λq xs h=>by rw[ud$ zm h a];exact h,λq b u h=>by rw[ud$ zm h a];exact h,λq b h n=>⟨⟨b,by rw[ud$ zm h a];exact h,.inl rfl⟩,n⟩⟩
def Yc.fresh(r:Yc T μ H σ)(c:H p=A5):Yc T μ (Sb H p o) σ:=
 r.keep (mj c) (λa d=>by obtain⟨u,h,_⟩:=r.mem d;rw[ud$ zm h c]) (r.tb.grow λb u h=>by rw[ud$ zm h c];exact h)
def Vu(a:H p=A5):qd μ H (μ++[p])$ Sb H p o:=
 ⟨⟨[p],rfl⟩,(mj (μ:=μ) a).db,(mj (μ:=μ) a).Uc,λq b h n=>⟨((mj a).keep q b h n).1,λz=>(pi.mp z).elim n λz=>zm h a ⋯⟩⟩
def Yc.push(r:Yc T μ H σ)(c:H p=A5)(s:yo T (μ++[p]) (Sb H p o) p ob):Yc T (μ++[p]) (Sb H p o)$ σ++[ob]:=by
 refine⟨by simp[r.len],?_,λn x h=>?_,(r.tb.more c).grow λb u h=>by rw[ud$ zm h c];exact h⟩
 ·rw[Jv];refine⟨r.nd,by simp,λa l b m e=>?_⟩;have i:b=p:=by simpa using m
  subst i;subst e;obtain⟨u,h,_⟩:=r.mem l
  simp_all
 ·by_cases f:n<σ.length
  ·rw[ib f]at h;obtain⟨a,k,d⟩:=r.obs n x h;obtain⟨u,q,_⟩:=d.some;exact⟨a,by rw[ib (by rw[r.len];exact f)];exact k,d.mono (Vu c)$ ud$ zm q c⟩
  ·rw[Wd ⋯]at h;have g:n - σ.length=0:=by
    have:=(ba.mp h).1;simp at this;lia
   rw[g]at h;simp at h;subst h;have j:n=μ.length:=by rw[r.len];lia
   subst j
   grind
def MD(r:Yc T μ H σ):Na T (μ++[p]) (Sb H p o) (.ref σ.length)$ .ref p:=by
 rw[Na];exact⟨p,rfl,by rw[<-r.len];simp⟩
def Aq(f:a∈μ)(c:H a=BD u)(d:∀ xs,u≠.db xs)(e:∀ b w,u≠.Uc b w):qd μ H μ$ Sb H a o:=
 ⟨⟨[],by simp⟩,λq xs h=>by rw[ud$ xL h c (λz=>d xs z.symm)];exact h,λq b w h=>by rw[ud$ xL h c (λz=>e b w z.symm)];exact h,λq b h n=>⟨⟨b,by rw[ud (λz=>n ⋯)];exact h,.inl rfl⟩,n⟩⟩
def Yc.write(r:Yc T μ H σ)(d:μ[n]?=BD a)(v:yo T μ (Sb H a o) a ob)(q:∀ c,σ[n]?≠BD (.Yb c):=by intro c z;simp_all [We]):qd μ H μ (Sb H a o)/\Yc T μ (Sb H a o) (σ.set n ob):=by
 obtain⟨u,p,f,g⟩:∃ u,H a=BD u/\(∀ xs,u≠.db xs)/\(∀ ob w,u≠.Uc ob w):=by
  have t:n<σ.length:=by rw[<-r.len];exact(ba.mp d).1
  obtain⟨s,f,g⟩:=r.obs n σ[n] ⋯;rw[d]at f;cases f;exact g.BF λc z=>q c ⋯
 have e:qd μ H μ$ Sb H a o:=Aq (za d) p f g;refine⟨e,by simp[r.len],r.nd,λm x h=>?_,r.tb.out (λb l=>ud l)$ .inl$ za d⟩;rw[ie]at h;by_cases i:n=m
 ·subst i
  simp_all
 ·rw[pa i]at h;obtain⟨b,j,k⟩:=r.obs m x h;refine⟨b,j,k.mono e (ud λz=>i ?_)⟩;subst z;exact IG r.nd d j
def Yc.at(r:Yc T μ H σ)(h:Na T μ H (.ref n) v)(e:σ[n]?=BD o):∃ a,v=.ref a/\μ[n]?=BD a/\yo T μ H a o:=by
 obtain⟨a,rfl,f⟩:=h;obtain⟨b,c,d⟩:=r.obs n o e
 simp_all
end
noncomputable def ya(i:Nat):Ev->M D:=λa b=>match a[i]? with
 |some (BD d)=>.ok d b
 |_=>.Ab
noncomputable def eC(d:D):Ev->M D:=λa=>ret d
noncomputable def iN(o:D->D->M D)(m:M D)(x:D):M D:=Kc m$ o x
def Fb(o:D->D->M D)(a b:Ev->M D):Ev->M D:=λc=>Kc (a c)$ iN o$ b c
noncomputable def Vd(o:D->M D)(a:Ev->M D):Ev->M D:=λb=>Kc (a b) o
noncomputable def rC(d:D):M Bool:=match d with
 | .bl b=>ret b
 |_=>Ab
noncomputable def xj{a:Type}(p q:M a)(c:Bool):M a:=if c=E8 then p else q
noncomputable def XO(c:Bool):M Bool:=ret$ !c
def Ly{a:Type}(k:Bool->M a)(d:D):M a:=Kc (rC d) k
def eT(f:Ev->M D):Ev->M Bool:=λa=>Kc (f a) rC
noncomputable def YB(a b:Ev->M Bool):Ev->M Bool:=λc=>Kc (a c)$ xj (b c)$ ret J8
noncomputable def Uw(a b:Ev->M Bool):Ev->M Bool:=λc=>Kc (a c)$ xj (ret E8)$ b c
def Ap(a:Ev->M Bool):Ev->M Bool:=λb=>Kc (a b) XO
noncomputable def QW(a b:Ev->M D):Ev->M D:=λc=>Kc (a c)$ Ly$ xj (b c)$ ret$ .bl J8
noncomputable def dQ(a b:Ev->M D):Ev->M D:=λc=>Kc (a c)$ Ly$ xj (ret$ .bl E8)$ b c
noncomputable def SM(c:Bool):M D:=ret$ .bl$ !c
def nY(a:Ev->M D):Ev->M D:=λb=>Kc (a b)$ Ly SM
noncomputable def iw(t:Ev->M Bool)(a b:Ev->M D):Ev->M D:=λc=>Kc (t c)$ xj (a c)$ b c
noncomputable def zb:Ev->M (lv):=λa=>ret []
noncomputable def gN(x:D)(xs:lv):M$ lv:=ret$ x::xs
def IL(m:M$ lv)(x:D):M$ lv:=Kc m$ gN x
def Qa(e:Ev->M D)(r:Ev->M (lv)):Ev->M (lv):=λa=>Kc (e a)$ IL$ r a
def Ix(a:lv):M D:=if a.length<=Og then ret (.db a)else Ab
def Ri(a:Ev->M (lv)):Ev->M D:=λb=>Kc (a b) Ix
noncomputable def xA(b:lv):M D:=λa=>.ok (.ref a.length)$ a++[.qa b]
def uE(a:lv):M D:=if a.length<=Og then xA a else Ab
def dt(a:Ev->M (lv)):Ev->M D:=λb=>Kc (a b) uE
def Nr(a:lv):M D:=if a.length<=Og then ret (.qa a)else Ab
def Oi(a:Ev->M (lv)):Ev->M D:=λb=>Kc (a b) Nr
def ak(T:Tb)(r:R2)(o:D->D->M D):Prop:=∀ (E:XK) a H b x y v u Q,Yc T a H b->Na T a H x v->Na T a H y u->Pb T E (Na T) a H (o x y b) Q->r v u H Q
def lX(T:Tb)(r:V->Hp->VK->Prop)(o:D->M D):Prop:=∀ (E:XK) a H b x v Q,Yc T a H b->Na T a H x v->Pb T E (Na T) a H (o x b) Q->r v H Q
def Us(T:Tb)(r:kv->Hp->VK->Prop)(o:lv->M D):Prop:=∀ (E:XK) a H c xs b Q,Yc T a H c->pb T a H xs b->Pb T E (Na T) a H (o xs c) Q->r b H Q
end L4
open L4.D renaming int->U,ref->O,qa->ύ,db->ϑ,bl->ϒ,str->ϙ,ec->Ϝ,Ug->ϫ,Ga->Ϭ,obj->Ϸ
open L4.ii renaming ok->J,Ab->ϕ
open L4.Ob renaming Ga->ώ,qa->Ϗ,yb->ϔ,Yb->ϣ
open Or renaming inl->ϐ,inr->ϓ
open L2.V renaming ref->ϖ,int->Ϣ,bl->Ϫ
open PySem.W renaming Frag->ϗ,fnOf->Ϯ,kla_obj->ϳ,callWith_K->Ϲ,keepIn->Ϻ,codeIn->ϻ
open L4.Fl renaming nx->Ϙ
open L2.HO renaming dK->Ϛ,ext->Ϧ,Uc->ϧ,qa->ϰ
open PySem.Paired renaming cons->ϛ,nil->Ϟ
open PySem.Expr renaming Name->ϝ,Attribute->ϟ,Call->Ϡ,Subscript->ϥ,Tuple->ϱ,ListComp->ϴ,BoolOp->ϵ
open PySem.Value renaming builtin->ϡ
open PySem.ScopeKind renaming function->Ϥ
open PySem.Data renaming seq->Ϩ,fields->ϩ
open L4.qd renaming refl->ϭ
open True renaming intro->ϯ
open False renaming elim->ϲ
open L4.Tr renaming nx->ϸ
variable{T:L4.Tb}{X:L2.Cx}
namespace L4
open Spec L2
section
variable{a b c:Ia}{fa fb:Ev->M D}{ta tb:Ev->M Bool}{pos:Td}
def Eh i(h:X.N[i]?=BD x:=by rfl)(m:cG X.env.scope x:=by first|exact Or.inl rfl|exact Or.inr$ Or.inl rfl|exact Or.inr$ Or.inr rfl)(j:(x == ("__debug__" : Str))=J8:=by decide)
  (c:(x == ("__classdict__" : Str))=J8:=by decide):FE T X (ϝ x pos)$ ya i:=by
 rintro b s st H Q I ⟨n,ρ,p,k,l,a⟩;refine rW h m j c b s st H Q I ?_;unfold ya at a;cases e:ρ[i]? with
 |none=>rw[e]at a;exact a.elim
 |some o=>
  cases o with
  |none=>rw[e]at a;exact a.elim
  |some d=>
   rw[e]at a;obtain⟨v,f,g⟩:=k.2 i d e;exact⟨v,f,a.here l g⟩
def FD(h:PE X e$ tC v)(r:∀ b H,Na T b H d v):FE T X e$ eC d:=by
 rintro a s g H Q I ⟨b,j,k,i,f,c⟩;exact h a s g H Q I$ Pb.here c f$ r _ _
def zA{j}:FE T X (.Constant (.int i) j pos)$ eC$ U i:=FD æ λa a=>by rw[Na]
def ý{j}:FE T X (.Constant (.bool i) j pos)$ eC$ ϒ i:=FD yoy λa a=>by rw[Na]
def ycs{j}:FE T X (.Constant .none j pos)$ eC Ϝ:=FD Β λa a=>by rw[Na]
def bZ{j}:FE T X (.Constant (.str i) j pos)$ eC$ ϙ i:=FD G5 λa a=>by rw[Na]
def g9(b:Gl X x)(c:X.mg x=BD u)(r:Zc (Ϣ i) u)(a:(x == ("__debug__" : Str))=J8:=by decide):FE T X (ϝ x pos)$ eC$ U i:=FD (xN b c r a) λd d=>by rw[Na]
def two(n:ak T r o)(h:tF T X (Fb o fa fb) f H Q):HC r (tF T X fa) (tF T X fb) f H Q:=by
 obtain⟨A,g,B,e,m,l⟩:=h;exact⟨A,g,B,e,m,l.bind λx c a v C D j w p s=>⟨a,g,c,e.mono j,w,s.bind λy d b u i D k z q t=>n _ b i d x y v u Q z (Na.mono k _ _ p) q t⟩⟩
def Lx(g:wh X (pe d) r)(i:ak T r o)(e:FE T X a fa)(f:FE T X b fb):FE T X (.BinOp a d b pos)$ Fb o fa fb:=
 λc s j H Q I h=>Ũ g e f c s j H Q I$ two i h
def Zq(i:wh X (Jb d) r)(j:ak T r o)(e:FE T X a fa)(f:FE T X b fb)(g:be d b=J8):FE T X (.Compare a [d] [b] pos)$ Fb o fa fb:=
 λc s k H Q I h=>L9 i e f g c s k H Q I$ two j h
def xK(f:Xx X r)(i:ak T r o)(d:FE T X a fa)(e:FE T X b fb)(g:DV b):FE T X (ϥ a b pos)$ Fb o fa fb:=
 λc s j H Q I h=>Ĕ f d e g c s j H Q I$ two i h
def v7(j:jH X (unaryOp e) r)(m:lX T r o)(g:FE T X a fa):FE T X (.UnaryOp e a pos)$ Vd o fa:=by
 intro b s t H Q I h;refine o0 j g b s t H Q I ?_;obtain⟨u,w,y,i,l,k⟩:=h;exact⟨u,w,y,i,l,k.bind λx d c v f A z q n p=>m _ c f d x v Q q n p⟩
def vI{a}{b}{k:Bool->M e}{Q:f->Hp->Prop}(r:Na T a H d v)(h:Pb T E b a H (Kc (rC d) k g) Q):∃ c,d=ϒ c/\v=Ϫ c/\Pb T E b a H (k c g) Q:=by
 cases d with
 |bl c=>rw[Na]at r;exact⟨c,rfl,r,h⟩
 |_=>exact h.elim
def qM{b}{a}(r:Na T a H d v)(h:Pb T E QK a H (rC d b) Q):∃ c,v=Ϫ c/\Pb T E QK a H (J c b) Q:=by
 cases d with
 |bl c=>rw[Na]at r;exact⟨c,r,h⟩
 |_=>exact h.elim
def Ar(m:wh X (Jb e) r)(t:ak T r o)(g:FE T X a fa)(i:FE T X b fb)(l:be e b=J8):FT T X (.Compare a [e] [b] pos)$ eT$ Fb o fa fb:=by
 intro c s st H Q I h;refine cK m g i l c s st H Q I$ two t ?_;obtain⟨y,A,B,j,p,n⟩:=h;refine⟨y,A,B,j,p,n.bind λd C z v E d F x u w=>?_⟩;obtain⟨k,f,q⟩:=qM u w;exact⟨k,f,q.here x rfl⟩
def gC(h:FE T X e f)(i:∀ a,PB e X.env a=(do let v <-a;ai e.pos;Pe [v] (truthy v)):=by intro _;rfl):FT T X e$ eT f:=by
 intro b s st H Q I m;refine U5 h i b s st H Q I ?_;obtain⟨r,u,w,g,l,j⟩:=m;refine⟨r,u,w,g,l,j.bind λd x t v y d z p n o=>?_⟩;obtain⟨k,c,q⟩:=qM n o;exact⟨k,c,q.here p rfl⟩
def HE(h:FT T X a ta):FT T X (.UnaryOp .Not a pos)$ Ap ta:=by
 intro b s l H Q I g;refine ó h b s l H Q I ?_;obtain⟨m,o,p,d,f,e⟩:=g;exact⟨m,o,p,d,f,e.bind λc q n v r c t k i j=>by cases i;exact j.here k rfl⟩
variable{rest:List Ia}
def PN(h:FT T X a ta):FW T X (ϵ .And [a] pos) ta:=zxm h
def zH(h:FT T X a ta):FW T X (ϵ .Or [a] pos) ta:=yhg h
theorem zP(h:FT T X a ta)(m:FW T X (ϵ .And (b::rest) pos) tb):FW T X (ϵ .And (a::b::rest) pos)$ YB ta tb:=by
 intro t e s r H Q I p;refine Λ h m t e s r H Q I ?_;obtain⟨u,k,w,i,o,n⟩:=p;refine⟨u,k,w,i,o,n.bind λc g f v x y l j q d=>?_⟩;cases q;cases c with
 |true=>unfold xj at d;rw[ja rfl]at d ⊢;exact⟨f,k,g,i.mono l,j,d⟩
 |false=>unfold xj at d;rw[pa qb]at d ⊢;exact d.here j rfl
def GJ(h:FT T X a ta)(m:FW T X (ϵ .Or (b::rest) pos) tb):FW T X (ϵ .Or (a::b::rest) pos)$ Uw ta tb:=by
 intro t e s r H Q I p;refine j6 h m t e s r H Q I ?_;obtain⟨u,k,w,i,o,n⟩:=p;refine⟨u,k,w,i,o,n.bind λc g f v x y l j q d=>?_⟩;cases q;cases c with
 |true=>unfold xj at d;rw[ja rfl]at d ⊢;exact d.here j rfl
 |false=>unfold xj at d;rw[pa qb]at d ⊢;exact⟨f,k,g,i.mono l,j,d⟩
def XI{op}(h:FE T X a fa):FE T X (ϵ op [a] pos) fa:=WZ h
def RF(h:FE T X a fa)(n:FE T X (ϵ .And (b::rest) pos) fb):FE T X (ϵ .And (a::b::rest) pos)$ QW fa fb:=by
 intro e s w H Q I r;refine w5 h n e s w H Q I ?_;obtain⟨x,k,y,i,p,o⟩:=r;refine⟨x,k,y,i,p,o.bind λd g f v z d l j t u=>?_⟩;obtain⟨c,rfl,m,q⟩:=vI t u;refine⟨c,m,?_⟩;cases c with
 |true=>unfold xj at q;rw[ja rfl]at q ⊢;exact⟨f,k,g,i.mono l,j,q⟩
 |false=>unfold xj at q;rw[pa qb]at q ⊢;exact Pb.here q j (by rw[Na])
def n4(h:FE T X a fa)(n:FE T X (ϵ .Or (b::rest) pos) fb):FE T X (ϵ .Or (a::b::rest) pos)$ dQ fa fb:=by
 intro e s w H Q I r;refine F9 h n e s w H Q I ?_;obtain⟨x,k,y,i,p,o⟩:=r;refine⟨x,k,y,i,p,o.bind λd g f v z d l j t u=>?_⟩;obtain⟨c,rfl,m,q⟩:=vI t u;refine⟨c,m,?_⟩;cases c with
 |true=>unfold xj at q;rw[ja rfl]at q ⊢;exact Pb.here q j (by rw[Na])
 |false=>unfold xj at q;rw[pa qb]at q ⊢;exact⟨f,k,g,i.mono l,j,q⟩
def O1(h:FE T X a fa):FE T X (.UnaryOp .Not a pos)$ nY fa:=by
 intro b s n H Q I j;refine ygn h b s n H Q I ?_;obtain⟨o,r,t,f,i,g⟩:=j;refine⟨o,r,t,f,i,g.bind λd u p v w d x m k l=>?_⟩;obtain⟨c,rfl,e,q⟩:=vI k l;exact⟨c,e,Pb.here q m (by rw[Na])⟩
def zlk(o:FT T X c ta)(m:FE T X a fa)(n:FE T X b fb):FE T X (.IfExp c a b pos)$ iw ta fa fb:=by
 intro f s u H Q I r;refine zoe o m n f s u H Q I ?_;obtain⟨w,j,x,i,q,p⟩:=r;refine⟨w,j,x,i,q,p.bind λd h g v y z k l t e=>?_⟩;cases t;cases d with
 |true=>unfold xj at e;rw[ja rfl]at e ⊢;exact⟨g,j,h,i.mono k,l,e⟩
 |false=>unfold xj at e;rw[pa qb]at e ⊢;exact⟨g,j,h,i.mono k,l,e⟩
variable{e:Ia}{es:List Ia}{fe:Ev->M D}{fs:Ev->M (lv)}
def wr:FA T X [] zb:=by
 intro pos a s e H Q I d;refine Nx pos a s e H Q I ?_;obtain⟨g,h,i,f,c,b⟩:=d;exact Pb.here b c pb.nil
def fm(k:FE T X e fe)(b:FA T X es fs)(m:wa (e::es) X.env=(J8,Qb e X.env)::wa es X.env:=by rfl):FA T X (e::es)$ Qa fe fs:=by
 intro pos a s w H Q I n;refine vu k b m pos a s w H Q I ?_;obtain⟨x,h,z,g,b,l⟩:=n;exact⟨x,h,z,g,b,l.bind λd f c v B d i t o q=>⟨c,h,f,g.mono i,t,q.bind λD A y E C d j u p r=>Pb.here r u$ pb.cons (Na.mono j _ _ o) p⟩⟩
def zN{a}{e}{c}(h:Pb T E (Na T) a H (J (ϑ d) e) Q)(r:Yc T a H e)(q:pb T a H d c)(b:H p=A5):Q (ϖ p)$ Sb H p$ .db c:=
 h a _ _ (mj b) (r.fresh b) (by rw[Na];exact⟨p,c,rfl,bf,pb.mono (mj b) _ _ q⟩)
def AC{c}{e}{b}(h:Pb T E (Na T) c H (xA d e) Q)(r:Yc T c H e)(q:pb T c H d b)(a:H p=A5):Q (ϖ p)$ Sb H p$ ϰ b:=
 h _ _ _ (Vu a) (r.push a ⟨b,bf,pb.mono (Vu a) _ _ q⟩)$ MD r
def lT{x1}(h:FA T X es fs):FE T X (ϱ es x1 pos)$ Ri fs:=by
 intro a s l H Q I j;refine Y3 h a s l H Q I ?_;obtain⟨m,o,q,g,i,d⟩:=j;refine⟨m,o,q,g,i,d.bind λf r n v t p u k e b=>?_⟩;unfold Ix at b;by_cases c:f.length<=Og
 ·rw[ja c]at b;exact⟨by rw[<-e.length];exact eB c,λp d=>zN b k e d⟩
 ·rw[pa c]at b;exact b.elim
def ycq(h:FA T X es fs):FE T X (.List es pos)$ dt fs:=by
 intro a s l H Q I j;refine jX h a s l H Q I ?_;obtain⟨m,o,q,g,i,d⟩:=j;refine⟨m,o,q,g,i,d.bind λf r n v t p u k e b=>?_⟩;unfold uE at b;by_cases c:f.length<=Og
 ·rw[ja c]at b;exact⟨by rw[<-e.length];exact eB c,λp d=>AC b k e d⟩
 ·rw[pa c]at b;exact b.elim
def II{b}{e}{c}(h:Pb T E (Na T) b H (J (ύ c) e) Q)(r:Yc T b H e)(q:pb T b H c vs)(a:H p=A5):Q (ϖ p)$ Sb H p$ ϰ vs:=
 h b _ _ (mj a) (r.fresh a) (by rw[Na];exact⟨p,vs,rfl,λf=>(by obtain⟨u,d,_⟩:=r.mem f;rw[a]at d;cases d),bf,pb.mono (mj a) _ _ q⟩)
def n8(h:FA T X es fs):FE T X (.List es pos)$ Oi fs:=by
 intro a s l H Q I j;refine jX h a s l H Q I ?_;obtain⟨m,o,q,g,i,d⟩:=j;refine⟨m,o,q,g,i,d.bind λf r n v t p u k e b=>?_⟩;unfold Nr at b;by_cases c:f.length<=Og
 ·rw[ja c]at b;exact⟨by rw[<-e.length];exact eB c,λp d=>II b k e d⟩
 ·rw[pa c]at b;exact b.elim
end
noncomputable def oI(g:Int->Int->Int):D->D->M D
 | U i,U j=>ret (U$ g i j)
 |_,_=>Ab
noncomputable def oB(g:Int->Int->Bool):D->D->M D
 | U i,U j=>ret (ϒ$ g i j)
 |_,_=>Ab
noncomputable def zz(C:Int->Int->Bool)(g:Int->Int->Int):D->D->M D
 | U i,U j=>if C i j=E8 then ret (U$ g i j)else Ab
 |_,_=>Ab
def VG(i j:Int):Bool:=Yd$ (decide (-(2 ^ 64)<i) && decide (i<2 ^ 64)) || (decide (-(2 ^ 64)<j) && decide (j<2 ^ 64))
def rL(_ j:Int):Bool:=Yd$ decide (0<j) && decide (j<1073741824)
def dM(_ j:Int):Bool:=Yd$ decide$ 0<j
def xE(i j:Int):Bool:=Yd$ decide (0<=j) && decide (j<=1000000) && decide (i.natAbs<2 ^ 64)
abbrev bx:=oI (λi j=>i - j)
abbrev Tw:=zz VG (λi j=>i * j)
abbrev xz:=zz rL (λi j=>i / j)
abbrev pq:=zz dM (λi j=>i % j)
abbrev sC:=zz xE (λi j=>i ^ j.toNat)
abbrev oLt:=oB (λi j=>decide$ i<j)
abbrev oLe:=oB (λi j=>decide$ i<=j)
abbrev uI:=oB (λi j=>decide$ j<i)
abbrev bR:=oB (λi j=>decide$ j<=i)
noncomputable def XR:D->M D
 | U i=>ret (U$ -i)
 |_=>Ab
noncomputable def rD(T:Tb)(o:D->D->M D):R2:=λv u H Q=>∃ (E:XK) (a:b') (σ:Ea) (x y:D),Yc T a H σ/\Na T a H x v/\Na T a H y u/\Pb T E (Na T) a H (o x y σ) Q
def bw:ak T (rD T o) o:=λE a H b x y v u Q r p q h=>⟨E,a,b,x,y,r,p,q,h⟩
def Wq(h:Na T a H (U i) v):v=Ϣ i:=by simpa [Na]using h
def h9:ak T (Vq λi j=>Ϣ$ g i j)$ oI g:=by
 intro E a H b x y v u Q r p q h;cases x with
 |int i=>
  cases y with
  |int j=>exact⟨i,j,Wq p,Wq q,Pb.here h r (by rw[Na])⟩
  |_=>exact h.elim
 |_=>exact h.elim
def NG:ak T (Vq λi j=>Ϫ$ g i j)$ oB g:=by
 intro E a H b x y v u Q r p q h;cases x with
 |int i=>
  cases y with
  |int j=>exact⟨i,j,Wq p,Wq q,Pb.here h r (by rw[Na])⟩
  |_=>exact h.elim
 |_=>exact h.elim
def aH(d:∀ i j,C i j=E8->b i j):ak T (rI b λi j=>Ϣ$ g i j)$ zz C g:=by
 intro E f H k x y v u Q r p q h;cases x with
 |int i=>
  cases y with
  |int j=>
   by_cases a:C i j=E8
   ·have c:Pb T E (Na T) f H (ret (U$ g i j) k) Q:=by
     have e:zz C g (U i) (U j)=ret (U$ g i j):=by show (if C i j=E8 then _ else _)=_;rw[ja a]
     simp_all
    exact⟨i,j,Wq p,Wq q,d i j a,Pb.here c r (by rw[Na])⟩
   ·have e:zz C g (U i) (U j)=Ab:=by show (if C i j=E8 then _ else _)=_;rw[pa a]
    rw[e]at h;exact h.elim
  |_=>exact h.elim
 |_=>exact h.elim
def t3:ak T (Vq λi j=>Ϣ$ i - j) bx:=h9
def Ġ:ak T (rI kI λi j=>Ϣ$ i * j) Tw:=aH λi j h=>by
 simp[VG]at h;exact h
def n7:ak T (rI zR λi j=>Ϣ$ i / j) xz:=aH λi j h=>by
 simp[rL]at h;exact h
def oX:ak T (rI (λa j=>0<j) λi j=>Ϣ$ i % j) pq:=aH λi j h=>by
 simp[dM]at h;exact h
def ű:ak T (rI wU λi j=>Ϣ$ i ^ j.toNat) sC:=aH λi j h=>by
 simp[xE]at h;exact⟨h.1.1,h.1.2,h.2⟩
def DE:ak T (Vq λi j=>Ϫ$ decide$ i<j) oLt:=NG
def SF:ak T (Vq λi j=>Ϫ$ decide$ i<=j) oLe:=NG
def MR:ak T (Vq λi j=>Ϫ$ decide$ j<i) uI:=NG
def ON:ak T (Vq λi j=>Ϫ$ decide$ j<=i) bR:=NG
def K6:lX T (rU λi=>Ϣ$ -i) XR:=by
 intro E a H b x v Q r p h;cases x with
 |int i=>exact⟨i,Wq p,Pb.here h r (by rw[Na])⟩
 |_=>exact h.elim
noncomputable def sc:D->Option V
 | Ϝ=>BD .ec
 | ϒ b=>BD (Ϫ b)
 | U i=>BD (Ϣ i)
 | ϙ x=>BD (.str x)
 |_=>A5
noncomputable def We(a:Ea)(n:Nat):Option$ lv:=match a[n]? with
 |some (Ϗ xs)=>BD xs
 |_=>A5
theorem xI{xs}(h:We a n=BD xs):a[n]?=BD (Ϗ xs):=by
 unfold We at h;cases e:a[n]? with
 |none=>simp_all
 |some o=>rw[e]at h;cases o<;>simp at h;subst h;rfl
inductive Kd where
 |s (v:V)|t (xs:lv)|l (xs:lv)|o
def kd(a:Ea):D->Kd
 | Ϝ=>.s .ec
 | ϒ b=>.s (Ϫ b)
 | U i=>.s (Ϣ i)
 | ϙ x=>.s (.str x)
 | ϑ xs=>.t xs
 | ύ xs=>.l xs
 | O n=>match We a n with
  |some xs=>.l xs
  |none=>.o
 |_=>.o
noncomputable def Ko(f:D->D->Option Bool):lv->lv->Option Bool
 |[],[]=>BD E8
 |[],_::_=>BD J8
 |_::_,[]=>BD J8
 |x::xs,y::a=>match f x y,Ko f xs a with
  |some b,BD c=>BD (b && c)
  |_,_=>A5
def xr(f:D->D->Option Bool):Kd->Kd->Option Bool
 | .s a,.s b=>BD (Kl a b)
 | .t xs,.t c=>Ko f xs c
 | .l xs,.l c=>Ko f xs c
 | .s _,.t _=>BD J8
 | .t _,.s _=>BD J8
 | .s _,.l _=>BD J8
 | .l _,.s _=>BD J8
 | .t _,.l _=>BD J8
 | .l _,.t _=>BD J8
 |_,_=>A5
def il(a:Ea):Nat->D->D->Option Bool
 |0,x,y=>xr (λb b=>A5) (kd a x) (kd a y)
 |n+1,x,y=>xr (il a n) (kd a x) (kd a y)
noncomputable def Xs(f:D->D->Option Bool)(xs c:lv)(j:Nat):Bool:=match xs[j]?,c[j]? with
 |some a,BD b=>(f a b).getD J8
 |_,_=>J8
theorem xS(f:D->D->Option Bool):∀ (xs d:lv) (b:Bool),Ko f xs d=BD b->
  (∀ (j:Nat) (a c:D),xs[j]?=BD a->d[j]?=BD c->∃ k,f a c=BD k)/\b=((List.range$ min xs.length d.length).all (Xs f xs d) && xs.length == d.length)
 |[],[],b,h=>by simp[Ko]at h;subst h;simp
 |[],y::d,b,h=>by simp[Ko]at h;subst h;simp
 |x::xs,[],b,h=>by simp[Ko]at h;subst h;simp
 |x::xs,y::d,b,h=>by
  unfold Ko at h;cases e:f x y with
  |none=>simp_all
  |some i=>
   cases g:Ko f xs d with
   |none=>rw[e,g]at h;cases h
   |some l=>
    rw[e,g]at h;cases h;obtain⟨r,s⟩:=xS f xs d l g;refine⟨λj a c t u=>?_,?_⟩
    ·cases j with
     |zero=>simp_all
     |succ j=>exact r j a c (by simpa using t) (by assumption)
    ·have m:min (x::xs).length (y::d).length=min xs.length d.length+1:=by simp
     have n:∀ j,Xs f (x::xs) (y::d) (j+1)=Xs f xs d j:=λj=>by simp[Xs]
     have o:Xs f (x::xs) (y::d) 0=i:=by simp[Xs,e]
     rw[m,vq,rf,SD,o,s];have p:(Xs f _ _ ∘ Nat.succ)=Xs f xs d:=funext λj=>n j;have q:((x::xs).length == (y::d).length)=(xs.length == d.length):=by simp
     rw[p,q,Lz]
section
variable{T:Tb}{μ:b'}{H:Hp}{σ:Ea}
def Yc.qa(r:Yc T μ H σ){n}{v}{xs}(h:Na T μ H (O n) v)(e:We σ n=BD xs):∃ a vs,v=ϖ a/\μ[n]?=BD a/\H a=BD (ϰ vs)/\pb T μ H xs vs:=by
 obtain⟨a,rfl,b,vs,c,d⟩:=r.at h (xI e);exact⟨a,vs,rfl,b,c,d⟩
def dI(h:Na T μ H d v)(e:sc d=BD a):v=a:=by
 cases d<;>simp[sc]at e<;>subst e<;>simpa [Na]using h
theorem XY(e:sc d=BD a):xi a=E8:=by
 cases d<;>simp[sc]at e<;>subst e<;>rfl
def í(h:xi a=E8):Kl a a=E8:=by cases a<;>simp[xi,Kl]at h ⊢
def gz(r:Yc T μ H σ){d:D}{v:V}(h:Na T μ H d v):match kd σ d with
  | .s a=>v=a/\xi a=E8
  | .t xs=>∃ p vs,v=ϖ p/\H p=BD (.db vs)/\pb T μ H xs vs
  | .l xs=>∃ p vs,v=ϖ p/\H p=BD (ϰ vs)/\pb T μ H xs vs
  | .o=>True:=by
 cases d with
 |ec=>exact⟨by simpa [Na]using h,rfl⟩
 |bl b=>exact⟨by simpa [Na]using h,rfl⟩
 |int b=>exact⟨by simpa [Na]using h,rfl⟩
 |str b=>exact⟨by simpa [Na]using h,rfl⟩
 |db xs=>rw[Na]at h;exact h
 |qa xs=>rw[Na]at h;obtain⟨a,vs,c,_,f,g⟩:=h;exact⟨a,vs,c,f,g⟩
 |ref n=>
  unfold kd;dsimp only;cases e:We σ n with
  |none=>trivial
  |some xs=>obtain⟨a,vs,c,_,f,g⟩:=r.qa h e;exact⟨a,vs,c,f,g⟩
 |_=>trivial
theorem zO{f:D->D->Option Bool}(j:∀ (x y:D) (v:V) (b:Bool),Na T μ H x v->Na T μ H y v->f x y=BD b->b=E8):∀ (xs a:lv) (e:kv) (b:Bool),pb T μ H xs e->pb T μ H a e->Ko f xs a=BD b->b=E8
 |[],a,e,b,d,c,h=>by
  rw[pb]at d;subst d;cases a with
  |nil=>simp[Ko]at h;exact h
  |cons y a=>rw[pb]at c;obtain⟨_,_,z,_⟩:=c;cases z
 |x::xs,a,e,b,d,c,h=>by
  rw[pb]at d;obtain⟨v,r,rfl,m,o⟩:=d;cases a with
  |nil=>rw[pb]at c;cases c
  |cons y a=>
   rw[pb]at c;obtain⟨s,q,z,n,p⟩:=c;cases z;unfold Ko at h;cases g:f x y with
   |none=>simp_all
   |some k=>
    cases i:Ko f xs a with
    |none=>simp_all
    |some l=>
     rw[g,i]at h;cases h;rw[j x y v k m n g,zO j xs a r l o p i];rfl
def YN(r:Yc T μ H σ)(u:∀ x y v b,Na T μ H x v->Na T μ H y v->f x y=BD b->b=E8)(w:Na T μ H x v)(z:Na T μ H y v)(h:xr f (kd σ x) (kd σ y)=BD b):b=E8:=by
 have kx:=gz r w;have d:=gz r z;generalize kd σ x=A at h kx;generalize kd σ y=k at h d;cases A with
 |s a=>
  obtain⟨rfl,fa⟩:=kx;cases k with
  |s c=>obtain⟨rfl,_⟩:=d;cases h;exact í fa
  |t xs=>obtain⟨p,vs,rfl,_⟩:=d;simp[xi]at fa
  |l xs=>obtain⟨p,vs,rfl,_⟩:=d;simp[xi]at fa
  |o=>cases h
 |t xs=>
  obtain⟨p,vs,rfl,j,m⟩:=kx;cases k with
  |s c=>obtain⟨e,fa⟩:=d;rw[<-e]at fa;simp[xi]at fa
  |t i=>
   obtain⟨q,B,e,g,n⟩:=d;cases e;rw[j]at g;cases g;exact zO u xs i vs b m n h
  |l i=>simp_all
  |o=>cases h
 |l xs=>
  obtain⟨p,vs,rfl,j,m⟩:=kx;cases k with
  |s c=>obtain⟨e,fa⟩:=d;rw[<-e]at fa;simp[xi]at fa
  |t i=>simp_all
  |l i=>
   obtain⟨q,B,e,g,n⟩:=d;cases e;rw[j]at g;cases g;exact zO u xs i vs b m n h
  |o=>cases h
 |o=>cases h
theorem RX(r:Yc T μ H σ):∀ (n:Nat) (x y:D) (v:V) (b:Bool),Na T μ H x v->Na T μ H y v->il σ n x y=BD b->b=E8
 |0,x,y,v,b,a,c,h=>YN r (λg g g g g g z=>by cases z) a c h
 |n+1,x,y,v,b,a,c,h=>YN r (λx y v b d e f=>RX r n x y v b d e f) a c h
end
section
variable{pins:List$ Addr × Obj}{st:St}{μ:b'}{H:Hp}{s:Shared}{σ:Ea}
def fH(fa:xi a=E8)(r:Zc a u)(c:s.heap.IsTuple p e)(d:A.units<cLine):Jc A s u (Db p) J8/\Jc A s (Db p) u J8/\Tg A s u (Db p) J8/\Tg A s (Db p) u J8/\Mg A s u (Db p) E8/\Mg A s (Db p) u E8:=by
 cases a with
 |ec=>cases r;exact⟨.none_tuple c d,.tuple_none c d,.none_tuple c d,.tuple_none c d,.none_tuple c d,.tuple_none c d⟩
 |bl b=>cases r;exact⟨.bool_tuple b c d,.tuple_bool b c d,.bool_tuple b c d,.tuple_bool b c d,.bool_tuple b c d,.tuple_bool b c d⟩
 |int b=>obtain⟨t,rfl⟩:=r;exact⟨.int_tuple b t c d,.tuple_int b t c d,.int_tuple b t c d,.tuple_int b t c d,.int_tuple b t c d,.tuple_int b t c d⟩
 |str b=>obtain⟨t,rfl⟩:=r;exact⟨.str_tuple b t c d,.tuple_str b t c d,.str_tuple b t c d,.tuple_str b t c d,.str_tuple b t c d,.tuple_str b t c d⟩
 |_=>simp[xi]at fa
def MW(fa:xi a=E8)(r:Zc a u)(c:s.heap.IsList p e)(d:A.units<cLine):Tg A s u (Db p) J8/\Tg A s (Db p) u J8/\Mg A s u (Db p) E8/\Mg A s (Db p) u E8:=by
 cases a with
 |ec=>cases r;exact⟨.none_list c d,.list_none c d,.none_list c d,.list_none c d⟩
 |bl b=>cases r;exact⟨.bool_list b c d,.list_bool b c d,.bool_list b c d,.list_bool b c d⟩
 |int b=>obtain⟨t,rfl⟩:=r;exact⟨.int_list b t c d,.list_int b t c d,.int_list b t c d,.list_int b t c d⟩
 |str b=>obtain⟨t,rfl⟩:=r;exact⟨.str_list b t c d,.list_str b t c d,.str_list b t c d,.list_str b t c d⟩
 |_=>simp[xi]at fa
def zc8(fa:xi a=E8)(r:Zc a u)(c:s.heap.IsList p e)(d:A.units<cLine):Jc A s u (Db p) J8:=by
 cases a with
 |ec=>cases r;exact .none_list c d
 |bl b=>cases r;exact .bool_list b c d
 |int b=>obtain⟨t,rfl⟩:=r;exact .int_list b t c d
 |str b=>obtain⟨t,rfl⟩:=r;exact .str_list b t c d
 |_=>trivial
def W9(fa:xi a=E8)(r:Zc a u)(c:s.heap.IsList p e)(d:A.units<cLine):Jc A s (Db p) u J8:=by
 cases a with
 |ec=>cases r;exact .list_none c d
 |bl b=>cases r;exact .list_bool b c d
 |int b=>obtain⟨t,rfl⟩:=r;exact .list_int b t c d
 |str b=>obtain⟨t,rfl⟩:=r;exact .list_str b t c d
 |_=>trivial
def ypx(f:Zc a u)(d:Zc b w)(fa:xi a=E8)(e:xi b=E8):Tg A s u w (Kl a b)/\Mg A s u w (!Kl a b):=by
 cases a with
 |ec=>
  cases f;cases b with
  |ec=>cases d;exact⟨.none_none,.none_none⟩
  |bl y=>cases d;exact⟨.none_bool y,.none_bool y⟩
  |int y=>obtain⟨t,rfl⟩:=d;exact⟨.none_int y t,.none_int y t⟩
  |str y=>obtain⟨t,rfl⟩:=d;exact⟨.none_str y t,.none_str y t⟩
  |_=>simp[xi]at e
 |bl x=>
  cases f;cases b with
  |ec=>cases d;exact⟨.bool_none x,.bool_none x⟩
  |bl y=>cases d;exact⟨.bool_bool x y,.bool_bool x y⟩
  |int y=>obtain⟨t,rfl⟩:=d;exact⟨.bool_int x y t,.bool_int x y t⟩
  |str y=>obtain⟨t,rfl⟩:=d;exact⟨.bool_str x y t,.bool_str x y t⟩
  |_=>simp[xi]at e
 |int x=>
  obtain⟨c,rfl⟩:=f;cases b with
  |ec=>cases d;exact⟨.int_none x c,.int_none x c⟩
  |bl y=>cases d;exact⟨.int_bool x c y,.int_bool x c y⟩
  |int y=>obtain⟨t,rfl⟩:=d;exact⟨.int_int x c y t,.int_int x c y t⟩
  |str y=>obtain⟨t,rfl⟩:=d;exact⟨.int_str x c y t,.int_str x c y t⟩
  |_=>simp[xi]at e
 |str x=>
  obtain⟨c,rfl⟩:=f;cases b with
  |ec=>cases d;exact⟨.str_none x c,.str_none x c⟩
  |bl y=>cases d;exact⟨.str_bool x c y,.str_bool x c y⟩
  |int y=>obtain⟨t,rfl⟩:=d;exact⟨.str_int x c y t,.str_int x c y t⟩
  |str y=>obtain⟨t,rfl⟩:=d;exact⟨.str_str x c y t,.str_str x c y t⟩
  |_=>simp[xi]at e
 |_=>simp[xi]at fa
def fG{xs}{i:Nat}(r:ce xs a)(h:a[i]?=BD u):∃ x,xs[i]?=BD x/\Zc x u:=by
 have e:=r.length;have d:=(ba.mp h).1;obtain⟨f,b,c⟩:=r.get (i:=i) (x:=xs[i]'⋯) ⋯
 simp_all
def kO{i:Nat}(r:pb T μ H a vs)(h:vs[i]?=BD v):∃ d,a[i]?=BD d/\Na T μ H d v:=by
 have f:=r.length;have e:=(ba.mp h).1;obtain⟨g,b,c⟩:=r.get (i:=i) (d:=a[i]'⋯) ⋯
 simp_all
def xM(I:∀ x y v w z B b,Na T μ H x v->Na T μ H y w->Zc v z->Zc w B->f x y=BD b->Jc A s z B b)
  {xs c} (r:pb T μ H xs vs) (t:pb T μ H c C) (p:ce vs a) (q:ce C d) (h:Ko f xs c=BD b) :
  (∀ j (n:j<a.toArray.size) (o:j<d.toArray.size),Jc A s a.toArray[j] d.toArray[j] (Xs f xs c j))/\b=((List.range$ min a.toArray.size d.toArray.size).all (Xs f xs c) && a.toArray.size == d.toArray.size):=by
 obtain⟨n,o⟩:=xS f xs c b h;refine⟨λj L M=>?_,?_⟩
 ·obtain⟨v,E,K⟩:=fG (i:=j) (u:=a.toArray[j]) p ⋯;obtain⟨w,F,e⟩:=fG (i:=j) (u:=d.toArray[j]) q ⋯;obtain⟨x,g,ό⟩:=kO r E;obtain⟨y,l,p4⟩:=kO t F;obtain⟨k,m⟩:=n j x y g l;have G:Xs f xs c j=k:=by simp[Xs,g,l,m]
  rw[G];exact I x y v w _ _ k ό p4 K e m
 ·simp;rw[o,r.length,t.length,p.length,q.length]
abbrev IV(A:Ma)(s:Shared)(v w:Value)(b:Bool):Prop:=Tg A s v w b/\Mg A s v w (!b)
def iO(I:Xa X pins st H s)(r:Yc T μ H σ)(hu:A.units+1<cLine)
  (hf:∀ x y v w ϋ P b,Na T μ H x v->Na T μ H y w->Zc v ϋ->Zc w P->f x y=BD b->Jc A.in1 s ϋ P b) (hx:Na T μ H x v) (hy:Na T μ H y w) (N:Zc v ϋ) (d:Zc w P) (h:xr f (kd σ x) (kd σ y)=BD b):IV A s ϋ P b:=by
 have g:A.units<cLine:=by lia
 have kx:=gz r hx;have m:=gz r hy;generalize kd σ x=k1 at h kx;generalize kd σ y=ϊ at h m;cases k1 with
 |o=>cases h
 |s a=>
  obtain⟨rfl,fa⟩:=kx;cases ϊ with
  |o=>cases h
  |s c=>obtain⟨rfl,K⟩:=m;cases h;exact ypx N d fa K
  |t C=>
   obtain⟨q,Q,rfl,j,z⟩:=m;cases h;cases d;obtain⟨k,_,u,_⟩:=L2.Xa.tuple I (dh.of j);obtain⟨_,_,E,F,G,ό⟩:=fH fa N u g;exact⟨E,G⟩
  |l C=>
   obtain⟨q,Q,rfl,j,z⟩:=m;cases h;cases d;obtain⟨k,_,pl,_⟩:=L2.Xa.list I (Te.of j);obtain⟨E,F,G,ό⟩:=MW fa N pl.isList g;exact⟨E,G⟩
 |t xs=>
  obtain⟨p,vs,rfl,S,Z⟩:=kx;cases N;obtain⟨k,W,M,_⟩:=L2.Xa.tuple I (dh.of S);cases ϊ with
  |o=>cases h
  |s c=>
   obtain⟨rfl,K⟩:=m;cases h;obtain⟨_,_,E,F,G,ό⟩:=fH K d M g;exact⟨F,ό⟩
  |t C=>
   obtain⟨q,Q,rfl,j,z⟩:=m;cases d;obtain⟨i,Y,u,_⟩:=L2.Xa.tuple I (dh.of j);obtain⟨L,R⟩:=xM hf Z z W Y h;rw[R];exact⟨.tuples M u ⋯ L,.tuples M u ⋯ L⟩
  |l C=>
   obtain⟨q,Q,rfl,j,z⟩:=m;cases h;cases d;obtain⟨i,_,pl,_⟩:=L2.Xa.list I (Te.of j);exact⟨.tuple_list M pl.isList g,.tuple_list M pl.isList g⟩
 |l xs=>
  obtain⟨p,vs,rfl,S,Z⟩:=kx;cases N;obtain⟨k,W,pl,_⟩:=L2.Xa.list I (Te.of S);cases ϊ with
  |o=>cases h
  |s c=>
   obtain⟨rfl,K⟩:=m;cases h;obtain⟨E,F,G,ό⟩:=MW K d pl.isList g;exact⟨F,ό⟩
  |t C=>
   obtain⟨q,Q,rfl,j,z⟩:=m;cases h;cases d;obtain⟨i,_,u,_⟩:=L2.Xa.tuple I (dh.of j);exact⟨.list_tuple pl.isList u g,.list_tuple pl.isList u g⟩
  |l C=>
   obtain⟨q,Q,rfl,j,z⟩:=m;cases d;obtain⟨i,Y,n,_⟩:=L2.Xa.list I (Te.of j);obtain⟨L,R⟩:=xM hf Z z W Y h;by_cases B:k.toArray.size=i.toArray.size
   ·have e:b=(List.range k.toArray.size).all (Xs f xs C):=by rw[R,<-B];simp
    rw[e];exact⟨.lists pl.isList n.isList B ⋯ L,.lists pl.isList n.isList B ⋯ L⟩
   ·have e:b=J8:=by rw[R,vd.mpr B,Kz]
    rw[e];exact⟨.lists_lengths pl.isList n.isList (by simpa using B) ⋯,.lists_lengths pl.isList n.isList (by simpa using B) ⋯⟩
def gZ(I:Xa X pins st H s)(r:Yc T μ H σ)(R:A.units+1<cLine)
  (N:∀ x y v w C E b,Na T μ H x v->Na T μ H y w->Zc v C->Zc w E->f x y=BD b->Jc A.in1 s C E b)
  (Q:∀ x y v b,Na T μ H x v->Na T μ H y v->f x y=BD b->b=E8) (F:Na T μ H x v) (G:Na T μ H y w) (k:Zc v C) (d:Zc w E) (h:xr f (kd σ x) (kd σ y)=BD b):Jc A s C E b:=by
 have j:A.units<cLine:=by lia
 have rc:=(iO I r R N F G k d h).1;by_cases i:v=w
 ·subst i;have M:=YN r Q F G h;have kx:=gz r F;have g:=gz r G;generalize kd σ x=L at h kx;generalize kd σ y=B at h g;cases L with
  |o=>cases h
  |s a=>
   obtain⟨rfl,fa⟩:=kx;cases B with
   |o=>cases h
   |s c=>obtain⟨rfl,m⟩:=g;cases h;exact QL k d fa m
   |t z=>obtain⟨q,u,e,_⟩:=g;rw[e]at fa;simp[xi]at fa
   |l z=>obtain⟨q,u,e,_⟩:=g;rw[e]at fa;simp[xi]at fa
  |t xs=>
   obtain⟨p,vs,rfl,_⟩:=kx;cases k;cases d;rw[M];exact Pj _
  |l xs=>
   obtain⟨p,vs,rfl,_⟩:=kx;cases k;cases d;rw[M];exact Pj _
 ·have kx:=gz r F;have g:=gz r G;generalize kd σ x=L at h kx;generalize kd σ y=B at h g;cases L with
  |o=>cases h
  |s a=>
   obtain⟨rfl,fa⟩:=kx;cases B with
   |o=>cases h
   |s c=>obtain⟨rfl,m⟩:=g;cases h;exact QL k d fa m
   |t z=>
    obtain⟨q,u,rfl,K,ϊ⟩:=g;cases h;cases d;obtain⟨n,_,P,_⟩:=L2.Xa.tuple I (dh.of K);exact(fH fa k P j).1
   |l z=>
    obtain⟨q,u,rfl,K,ϊ⟩:=g;cases h;cases d;obtain⟨n,_,pl,_⟩:=L2.Xa.list I (Te.of K);exact zc8 fa k pl.isList j
  |t xs=>
   obtain⟨p,vs,rfl,ό,S⟩:=kx;cases k;cases B with
   |o=>cases h
   |s c=>
    obtain⟨rfl,m⟩:=g;cases h;obtain⟨n,_,ϋ,_⟩:=L2.Xa.tuple I (dh.of ό);exact(fH m d ϋ j).2.1
   |t z=>obtain⟨q,u,rfl,_⟩:=g;cases d;exact .of_refs (λe=>i (by rw[e])) rc
   |l z=>obtain⟨q,u,rfl,_⟩:=g;cases d;exact .of_refs (λe=>i (by rw[e])) rc
  |l xs=>
   obtain⟨p,vs,rfl,ό,S⟩:=kx;cases k;cases B with
   |o=>cases h
   |s c=>
    obtain⟨rfl,m⟩:=g;cases h;obtain⟨n,_,pl,_⟩:=L2.Xa.list I (Te.of ό);exact W9 m d pl.isList j
   |t z=>obtain⟨q,u,rfl,_⟩:=g;cases d;exact .of_refs (λe=>i (by rw[e])) rc
   |l z=>obtain⟨q,u,rfl,_⟩:=g;cases d;exact .of_refs (λe=>i (by rw[e])) rc
theorem IH(I:Xa X pins st H s)(r:Yc T μ H σ):∀ (n:Nat) (A:Ma) (x y:D) (v w:V) (c d:Value) (b:Bool),A.units+n+1<cLine->Na T μ H x v->Na T μ H y w->Zc v c->Zc w d->il σ n x y=BD b->Jc A s c d b
 |0,A,x,y,v,w,c,d,b,o,i,j,k,a,h=>gZ I r ⋯ (λp p p p p p p p p p p z=>by cases z) (λp p p p p p z=>by cases z) i j k a h
 |n+1,A,x,y,v,w,c,d,b,o,i,j,k,a,h=>gZ I r ⋯ (λx y v w c d b e f g l m=>IH I r n A.in1 x y v w c d b (by show A.units+1+n+1<cLine;lia) e f g l m) (λx y v b e f g=>RX r n x y v b e f g) i j k a h
def JX(I:Xa X pins st H s)(r:Yc T μ H σ) n(o:A.units+n+1<cLine)(e:Na T μ H x v)(f:Na T μ H y w)(g:Zc v c)(a:Zc w d)(h:il σ n x y=BD b):IV A s c d b:=by
 cases n with
 |zero=>exact iO I r ⋯ (λp p p p p p p p p p p z=>by cases z) e f g a h
 |succ n=>exact iO I r ⋯ (λx y v w c d b i j k l m=>IH I r n A.in1 x y v w c d b (by show A.units+1+n+1<cLine;lia) i j k l m) e f g a h
end
section
variable{pins:List$ Addr × Obj}{st:St}{μ:b'}{H:Hp}{s:Shared}{σ:Ea}
def wl(x y:D):M D:=λσ=>match il σ 8 x y with
 |some b=>J (ϒ b) σ
 |none=>ϕ
def sj(x y:D):M D:=λσ=>match il σ 8 x y with
 |some b=>J (ϒ$ !b) σ
 |none=>ϕ
def eW(h:X.A.units+9<cLine):wh X (Jb .Eq)$ rD T wl:=by
 rintro pins s st H v u j i Q I g f ⟨E,μ,σ,x,y,r,c,d,a⟩;unfold wl at a;cases e:il σ 8 x y with
 |none=>rw[e]at a;exact a.elim
 |some b=>
  rw[e]at a;have:=(JX I r 8 ⋯ c d g f e).1 X.prog X.w X.xe (EP X pins st Q) ⟨Ϫ b,H,I,rfl,Pb.here a r (by rw[Na])⟩;exact this
def fW(h:X.A.units+9<cLine):wh X (Jb .NotEq)$ rD T sj:=by
 rintro pins s st H v u j i Q I g f ⟨E,μ,σ,x,y,r,c,d,a⟩;unfold sj at a;cases e:il σ 8 x y with
 |none=>rw[e]at a;exact a.elim
 |some b=>
  rw[e]at a;have:=(JX I r 8 ⋯ c d g f e).2 X.prog X.w X.xe (EP X pins st Q) ⟨Ϫ _,H,I,rfl,Pb.here a r (by rw[Na])⟩;exact this
noncomputable def Br(x y:D):M D:=λσ=>match y with
 | Ϝ=>(match x with
  | Ϝ=>J (ϒ E8) σ
  |_=>J (ϒ J8) σ)
 |_=>ϕ
noncomputable def GL(x y:D):M D:=λσ=>match y with
 | Ϝ=>(match x with
  | Ϝ=>J (ϒ J8) σ
  |_=>J (ϒ E8) σ)
 |_=>ϕ
def TV(h:Na T μ H x v):decide (v=.ec)=(match x with | Ϝ=>E8|_=>J8):=by
 cases x with
 |ec=>rw[Na]at h;subst h;rfl
 |db ds=>rw[Na]at h;obtain⟨p,_,rfl,_⟩:=h;simp
 |Ug ds=>rw[Na]at h;obtain⟨p,rfl,_⟩:=h;simp
 |ref ds=>rw[Na]at h;obtain⟨p,rfl,_⟩:=h;simp
 |qa ds=>rw[Na]at h;obtain⟨p,_,rfl,_⟩:=h;simp
 |Ga ks ds=>rw[Na]at h;obtain⟨p,_,rfl,_⟩:=h;simp
 |obj c ks ds=>rw[Na]at h;obtain⟨p,_,_,rfl,_⟩:=h;simp
 |Ys c=>rw[Na]at h;obtain⟨p,_,rfl,_⟩:=h;simp
 |gt ds=>rw[Na]at h;obtain⟨p,rfl,_⟩:=h;simp
 |_=>rw[Na]at h;subst h;simp
def lY:ak T (λx y H Q=>y=.ec/\Q (Ϫ$ decide$ x=.ec) H) Br:=by
 intro E μ H σ x y v u Q r p q h;cases y with
 |ec=>
  refine⟨by rw[Na]at q;exact q,?_⟩;rw[TV p];cases x<;>exact Pb.here h r (by rw[Na])
 |_=>exact h.elim
def pX:ak T (λx y H Q=>y=.ec/\Q (Ϫ$ !decide (x=.ec)) H) GL:=by
 intro E μ H σ x y v u Q r p q h;cases y with
 |ec=>
  refine⟨by rw[Na]at q;exact q,?_⟩;rw[TV p];cases x<;>exact Pb.here h r (by rw[Na]<;>rfl)
 |_=>exact h.elim
def N8(r:pb T μ H a b)(h:Ep a k=BD d):∃ v,Ep b k=BD v/\Na T μ H d v:=by
 unfold Ep at h ⊢;rw[<-r.length];cases e:Hr a.length k with
 |none=>simp_all
 |some j=>rw[e]at h;exact r.get h
theorem nI:∀ (a:gV),pb T μ H (a.map U) (a.map Ϣ)
 |[]=>pb.nil
 |n::a=>pb.cons (by rw[Na]) (nI a)
def Ui(σ:Ea):D->Option (lv)
 | ϑ xs=>BD xs
 | ϫ ns=>BD (ns.map U)
 | O n=>We σ n
 | ύ xs=>BD xs
 | .gt ss=>BD (ss.map ϙ)
 |_=>A5
def Kb(x i:D):M D:=λσ=>match i with
 | U k=>(match Ui σ x with
  |some xs=>(match Ep xs k with
   |some d=>J d σ
   |none=>ϕ)
  |none=>ϕ)
 |_=>ϕ
theorem XH:∀ (a:ab),pb T μ H (a.map ϙ) (a.map V.str)
 |[]=>pb.nil
 |n::ns=>pb.cons (by rw[Na]) (XH ns)
def mz(r:Yc T μ H σ){xs}(h:Na T μ H x v)(e:Ui σ x=BD xs):∃ p vs,v=ϖ p/\pb T μ H xs vs/\(Te T.K H p vs\/dh T.K H p vs):=by
 cases x with
 |db ds=>cases e;rw[Na]at h;obtain⟨p,vs,rfl,b,c⟩:=h;exact⟨p,vs,rfl,c,ϓ$ dh.of b⟩
 |Ug ns=>cases e;rw[Na]at h;obtain⟨p,rfl,b⟩:=h;exact⟨p,_,rfl,nI ns,ϐ b.seq⟩
 |ref n=>obtain⟨a,vs,rfl,_,b,c⟩:=r.qa h e;exact⟨a,vs,rfl,c,ϐ$ Te.of b⟩
 |qa ds=>cases e;rw[Na]at h;obtain⟨p,vs,rfl,_,b,c⟩:=h;exact⟨p,vs,rfl,c,ϐ$ Te.of b⟩
 |gt ss=>cases e;rw[Na]at h;obtain⟨p,rfl,b⟩:=h;exact⟨p,_,rfl,XH ss,ϓ$ ϓ b⟩
 |_=>cases e
def AO(j:T.K=X.K):ak T (λx y H Q=>IM X.K x y H Q\/aP X.K x y H Q) Kb:=by
 intro E μ H σ x y v u Q r p q h;cases y with
 |int k=>
  unfold Kb at h;cases e:Ui σ x with
  |none=>simp[e]at h;exact h.elim
  |some xs=>
   simp[e]at h;cases c:Ep xs k with
   |none=>rw[c]at h;exact h.elim
   |some d=>
    rw[c]at h;obtain⟨a,vs,rfl,i,b⟩:=mz r p e;obtain⟨w,f,g⟩:=N8 i c;rw[j]at b;rcases b with b|b
    ·exact ϐ ⟨a,vs,k,w,rfl,Wq q,b,f,Pb.here h r g⟩
    ·exact ϓ ⟨a,vs,k,w,rfl,Wq q,b,f,Pb.here h r g⟩
 |_=>trivial
def sM:Xx X (λx y H Q=>IM X.K x y H Q\/aP X.K x y H Q):=ğ.or M7
def ev(d:D):Bool:=(sc d).isSome
def gw(x y:D):Bool:=match sc x,sc y with
 |some a,BD b=>Kl a b
 |_,_=>J8
def Uy(a:Bool)(x y:D):M D:=λσ=>match Ui σ y with
 |some xs=>if (ev x && xs.all ev)=E8 then J (ϒ$ if a then !(xs.any λz=>gw z x)else xs.any λz=>gw z x) σ else ϕ
 |none=>ϕ
theorem QT:∀ {b:lv} {vs:kv},pb T μ H b vs->b.all ev=E8->vs.all xi=E8
 |[],vs,h,_=>by rw[pb]at h;subst h;rfl
 |d::b,vs,h,e=>by
  obtain⟨v,r,rfl,f,g⟩:=h;rw[rf,Fa]at e ⊢;obtain⟨a,c⟩:=ge.mp e.1;exact⟨by rw[dI f c];exact XY c,QT g e.2⟩
theorem mU{x:D}{a:V}(ex:sc x=BD a):∀ {b:lv} {vs:kv},pb T μ H b vs->b.all ev=E8->(b.any λz=>gw z x)=vs.any λy=>Kl y a
 |[],vs,h,_=>by rw[pb]at h;subst h;rfl
 |d::b,vs,h,e=>by
  obtain⟨v,r,rfl,g,i⟩:=h;rw[rf,Fa]at e;obtain⟨c,f⟩:=ge.mp e.1;rw[sf,sf,mU ex i e.2];have:gw d x=Kl v a:=by unfold gw;rw[f,ex,dI g f]
  grind
def OT(k:T.K=X.K) d:ak T (UO X.K d)$ Uy d:=by
 intro E μ H σ x y v u Q r p q h;unfold Uy at h;cases e:Ui σ y with
 |none=>rw[e]at h;exact h.elim
 |some xs=>
  rw[e]at h;by_cases c:(ev x && xs.all ev)=E8
  ·simp[c]at h;rw[Fa]at c;obtain⟨a,f⟩:=ge.mp c.1;obtain⟨b,vs,rfl,g,i⟩:=mz r q e;rw[k]at i;refine⟨b,vs,rfl,i,by rw[dI p f];exact XY f,QT g c.2,?_⟩;have j:TB v vs=xs.any λz=>gw z x:=by unfold TB;rw[mU f g c.2,dI p f]
   rw[j];exact Pb.here h r (by rw[Na])
  ·simp[c]at h;exact h.elim
def Gq(xs:lv):M D:=λσ=>match xs with
 |[x]=>(match Ui σ x with
  |some a=>J (U a.length) σ
  |none=>ϕ)
 |_=>ϕ
def K0(g:T.K=X.K):Us T (λxs H Q=>∃ p a,xs=[ϖ p]/\(Te X.K H p a\/dh X.K H p a)/\Q (Ϣ a.length) H) Gq:=by
 intro E μ H σ xs vs Q r p h
 match xs with
 |[]=>exact h.elim
 |[x]=>
  obtain⟨v,w,rfl,i,d⟩:=p;rw[pb]at d;subst d;unfold Gq at h;cases e:Ui σ x with
  |none=>simp[e]at h;exact h.elim
  |some a=>
   simp[e]at h;obtain⟨b,vs,rfl,f,c⟩:=mz r i e;rw[g]at c;exact⟨b,vs,rfl,c,by rw[<-f.length];exact Pb.here h r (by rw[Na])⟩
 |_::_::_=>exact h.elim
def yq(xs:lv):M D:=λσ=>match xs with
 |[x]=>(match Ui σ x with
  |some a=>xA a σ
  |none=>ϕ)
 |_=>ϕ
def Ė(g:T.K=X.K):Us T (λxs H Q=>∃ p a,xs=[ϖ p]/\(Te X.K H p a\/dh X.K H p a)/\∀ l,H l=A5->Q (ϖ l) (Sb H l$ ϰ a)) yq:=by
 intro E μ H σ xs vs Q r p h
 match xs with
 |[]=>exact h.elim
 |[x]=>
  obtain⟨v,w,rfl,j,d⟩:=p;rw[pb]at d;subst d;unfold yq at h;cases e:Ui σ x with
  |none=>simp[e]at h;exact h.elim
  |some a=>
   simp only[e]at h;obtain⟨b,vs,rfl,f,c⟩:=mz r j e;rw[g]at c;exact⟨b,vs,rfl,c,λl i=>AC h r f i⟩
 |_::_::_=>exact h.elim
end
noncomputable def So(o:lv->M D)(a:Ev->M (lv)):Ev->M D:=λb=>Kc (a b) o
section
variable{x:Str}{p pos:Td}{e:Ia}{es:List Ia}{fs:Ev->M (lv)}{id ty:String}{r:kv->Hp->VK->Prop}{o:lv->M D}
def ZW(j:Us T r o)(h:tF T X (So o fs) c H Q):AK r (tL T X fs) c H Q:=by
 obtain⟨n,p,q,f,i,g⟩:=h;exact⟨n,p,q,f,i,g.bind λe b a vs d t s m k l=>j _ a d b e vs Q m k l⟩
def aC(f:To X (ϡ id) r)(l:Us T r o)(i:Gl X x)(j:X.mg x=A5)(m:bootBuiltins x=BD (ϡ id))(d:FA T X (e::es) fs)(k:x ≠ "__name__":=by decide)(b:(x == ("__debug__" : Str))=J8:=by decide)
  (g:wa (e::es) X.env=(J8,Qb e X.env)::wa es X.env:=by rfl) (c:(Dc pos$ wa es X.env).any (·.1)=J8:=by rfl):FE T X (Ϡ (ϝ x p) (e::es) [] pos)$ So o fs:=
 λa s n H Q I h=>GH f i j m d k b g c a s n H Q I$ ZW l h
def LL(f:To X (Vh ty) r)(l:Us T r o)(i:Gl X x)(j:X.mg x=A5)(m:bootBuiltins x=BD (Vh ty))(d:FA T X (e::es) fs)(k:x ≠ "__name__":=by decide)(b:(x == ("__debug__" : Str))=J8:=by decide)
  (g:wa (e::es) X.env=(J8,Qb e X.env)::wa es X.env:=by rfl) (c:(Dc pos$ wa es X.env).any (·.1)=J8:=by rfl):FE T X (Ϡ (ϝ x p) (e::es) [] pos)$ So o fs:=
 λa s n H Q I h=>bK f i j m d k b g c a s n H Q I$ ZW l h
end
def jf(a:Ea):D->Option (lv)
 | O n=>We a n
 | ύ xs=>BD xs
 |_=>A5
def Yc.ls(r:Yc T f H g){xs}(h:Na T f H x v)(e:jf g x=BD xs):∃ a vs,v=ϖ a/\H a=BD (ϰ vs)/\pb T f H xs vs:=by
 cases x with
 |ref n=>obtain⟨a,vs,b,_,c,d⟩:=r.qa h e;exact⟨a,vs,b,c,d⟩
 |qa i=>cases e;rw[Na]at h;obtain⟨a,vs,b,_,c,d⟩:=h;exact⟨a,vs,b,c,d⟩
 |_=>cases e
def yu(o:D->lv->M D)(m:M$ lv)(x:D):M D:=λa=>match jf a x with
 |some _=>Kc m (o x) a
 |none=>ϕ
def Dw(o:D->lv->M D)(f:Ev->M D)(b:Ev->M (lv)):Ev->M D:=λa=>Kc (f a)$ yu o$ b a
def My(T:Tb)(r:V->kv->Hp->VK->Prop)(o:D->lv->M D):Prop:=∀ (E:XK) a H c x xs v b Q,Yc T a H c->Na T a H x v->pb T a H xs b->Pb T E (Na T) a H (o x xs c) Q->r v b H Q
def Xj(x:D)(xs:lv):M D:=λb=>match x,xs with
 | O n,[y]=>(match We b n with
  |some a=>if a.length<Og then J Ϝ (b.set n$ Ϗ$ a++[y])else ϕ
  |none=>ϕ)
 |_,_=>ϕ
section
variable{o e:Ia}{es:List Ia}{f:Ev->M D}{fs:Ev->M (lv)}{name:Str}{apos cpos:Td}{id:String}{r:V->kv->Hp->VK->Prop}{g:D->lv->M D}
def YI(R:qm "list")(l:VP "list" name id)(q:Eo (ϡ id)=pure (Vh "method_descriptor"))(K:qw X id r)(ϋ:My T r g)(L:FE T X o f)(ό:FA T X (e::es) fs)
  (c:Xc o name X.env (Qb o X.env)=Qb o X.env:=by rfl)
  (i:((Dc cpos$ wa (e::es) X.env).all (λx=>!x.1) && (Lh cpos$ pf [] X.env).all (λx=>x.1.isSome)
   && decide ((e::es).length+([]:List ij).length+(if ([]:List ij).isEmpty then 0 else 1)<30))=E8:=by rfl)
  (d:(apos.endLine == cpos.line)=E8:=by rfl) (p:wa (e::es) X.env=(J8,Qb e X.env)::wa es X.env:=by rfl) (b:(Dc cpos$ wa es X.env).any (·.1)=J8:=by rfl) :
  FE T X (Ϡ (ϟ o name apos) (e::es) [] cpos)$ Dw g f fs:=by
 intro j s V H Q I h;refine M1 R l q K L ό c i d p b j s V H Q I ?_;obtain⟨Y,B,Z,y,N,M⟩:=h;refine⟨Y,B,Z,y,N,M.bind λx m t v H1 J E A z k=>?_⟩;unfold yu at k;cases n:jf m x with
 |none=>rw[n]at k;exact k.elim
 |some xs=>
  rw[n]at k;obtain⟨a,vs,rfl,G,h2⟩:=A.ls z n;exact⟨ϐ ⟨rfl,vs,Te.of G⟩,t,B,m,y.mono E,A,k.bind λD w u W C J F ϊ P S=>(ϋ _ u C w x D _ W Q ϊ (Na.mono F _ _ z) P S)⟩
def NM:My T vK Xj:=by
 intro E j H m x xs v vs Q r p q h;cases x with
 |ref n=>
  match xs with
  |[]=>exact h.elim
  |[y]=>
   obtain⟨w,z,rfl,k,g⟩:=q;rw[pb]at g;subst g;unfold Xj at h;cases b:We m n with
   |none=>simp[b]at h;exact h.elim
   |some l=>
    simp only[b]at h;by_cases c:l.length<Og
    ·rw[ja c]at h;obtain⟨a,vs,rfl,f,d,e⟩:=r.qa p b;have i:=r.write (ob:=Ϗ _) f ⟨_,bf,by
      have ex:qd j H j$ Sb H a$ ϰ$ vs++[w]:=Aq (za f) d (λo z=>by cases z) (λo o z=>by cases z);exact pb.append (pb.mono ex _ _ e)$ pb.cons (Na.mono ex _ _ k) pb.nil⟩
     exact⟨a,vs,w,rfl,rfl,d,by rw[<-e.length];exact yT c,h _ _ _ i.1 i.2 (by rw[Na])⟩
    ·rw[pa c]at h;exact h.elim
  |_::_::_=>exact h.elim
 |_=>exact h.elim
end
inductive BT where
 |int|bool|str|tuple|list|dict
noncomputable def BT.nm:BT->String
 | .int=>"int" | .bool=>"bool" | .str=>"str" | .tuple=>"tuple" | .list=>"list" | .dict=>"dict"
noncomputable def iI(a:Ea)(c:BT):D->Option Bool
 | Ϝ=>BD J8
 | ϒ _=>BD (match c with | .int=>E8 | .bool=>E8|_=>J8)
 | U _=>BD (match c with | .int=>E8|_=>J8)
 | ϙ _=>BD (match c with | .str=>E8|_=>J8)
 | ϑ _=>BD (match c with | .tuple=>E8|_=>J8)
 | ϫ _=>A5
 | ύ _=>BD (match c with | .list=>E8|_=>J8)
 | Ϭ _ _=>BD (match c with | .dict=>E8|_=>J8)
 | Ϸ _ _ _=>A5
 | .Ys _=>A5
 | .gt _=>A5
 | O n=>match a[n]? with
  |some (Ϗ _)=>BD (match c with | .list=>E8|_=>J8)
  |some (ώ _)=>BD (match c with | .dict=>E8|_=>J8)
  |_=>A5
def jz(c:BT)(x:D):M D:=λa=>match iI a c x with
 |some b=>J (ϒ b) a
 |none=>ϕ
def OR(K:ϗ)(H:Hp)(x:V)(t:Value):Prop:=Vj K H x t\/∃ a b,x=ϖ a/\Rd H a (Ϛ b)/\t=Vh "dict"
def Ĥ(K:ϗ)(c:String):kv->Hp->VK->Prop:=λxs H Q=>∃ x t b,xs=[x,.ty c]/\OR K H x t/\W.kitOne K t (Vh c)=BD b/\Q (Ϫ b) H
def ļ c:To X (ϡ "isinstance")$ Ĥ X.K c:=by
 rintro d s st H xs m Q I r ⟨x,t,b,rfl,ty,e,q⟩;obtain⟨u,u2,rfl,f,rfl⟩:=D7 r;rcases ty with ty|⟨a,i,rfl,rd,rfl⟩
 ·exact N3 I f ty e λj=>⟨Ϫ b,H,I.tok _,rfl,q⟩
 ·cases (f);obtain⟨_,_,vs,_,p⟩:=(rd.ok I.Cc)
  obtain⟨o,l,k,g,h,_⟩:=p;exact W.kia_one W.kitx_dict I.Ki ⟨o,g,h.1⟩ e (λz=>nomatch z) λj=>⟨Ϫ b,H,I.tok _,rfl,q⟩
def i7(r:Yc T l H g)(p:Na T l H x v)(h:iI g c x=BD b):∃ t,OR X.K H v t/\W.kitOne X.K t (Vh c.nm)=BD b:=by
 cases x with
 |ec=>rw[Na]at p;subst p;refine⟨_,ϐ$ .ec,?_⟩;cases c<;>cases h<;>rfl
 |bl i=>rw[Na]at p;subst p;refine⟨_,ϐ$ .bl i,?_⟩;cases c<;>cases h<;>rfl
 |int i=>rw[Na]at p;subst p;refine⟨_,ϐ$ .int i,?_⟩;cases c<;>cases h<;>rfl
 |str i=>rw[Na]at p;subst p;refine⟨_,ϐ$ .str i,?_⟩;cases c<;>cases h<;>rfl
 |db ds=>rw[Na]at p;obtain⟨q,vs,rfl,d,_⟩:=p;refine⟨_,ϐ$ .db d,?_⟩;cases c<;>cases h<;>rfl
 |Ug ns=>cases h
 |qa ds=>rw[Na]at p;obtain⟨q,vs,rfl,_,d,_⟩:=p;refine⟨_,ϐ$ .qa d,?_⟩;cases c<;>cases h<;>rfl
 |Ga ks ds=>rw[Na]at p;obtain⟨q,vs,rfl,_,d,_⟩:=p;refine⟨_,ϓ ⟨q,_,rfl,d,rfl⟩,?_⟩;cases c<;>cases h<;>rfl
 |obj j ks ds=>cases h
 |Ys j=>cases h
 |gt ss=>cases h
 |ref n=>
  unfold iI at h;dsimp only at h;cases e:g[n]? with
  |none=>rw[e]at h;cases h
  |some o=>
   rw[e]at h;obtain⟨a,rfl,_,k⟩:=r.at p e;cases o with
   |qa xs=>obtain⟨vs,f,_⟩:=k;refine⟨_,ϐ$ .qa f,?_⟩;cases c<;>cases h<;>rfl
   |Ga xs=>obtain⟨vs,f,_⟩:=k;refine⟨_,ϐ$ .dK f,?_⟩;cases c<;>cases h<;>rfl
   |yb j m=>cases h
   |Yb xs=>cases h
   |ue _=>cases h
def sH c(C:FE T X e f)(E:Gl X "isinstance")(F:X.mg "isinstance" = A5)(m:Gl X a)(n:X.mg a=A5)(r:bootBuiltins a=BD (Vh c.nm))(o:a ≠ "__name__":=by decide)(l:(a == ("__debug__" : Str))=J8:=by decide)
  (w:wa [e,ϝ a j] X.env=(J8,Qb e X.env)::wa [ϝ a j] X.env:=by rfl) (q:(Dc g$ wa [ϝ a j] X.env).any (·.1)=J8:=by rfl) :
  FE T X (Ϡ (ϝ "isinstance" p) [e,ϝ a j] [] g)$ Vd (jz c) f:=by
 intro d s st H Q I h;refine GH (ļ c.nm) E F boot_isinstance (vu C (vu (zwz m n r (v:=.ty c.nm) rfl o l) Nx) w) ⋯ ⋯ w q d s st H Q I ?_;obtain⟨L,ϋ,P,B,ό,G⟩:=h;refine⟨L,ϋ,P,B,ό,G.bind λx u N v R D S y K i=>?_⟩;unfold jz at i;cases k:iI u c x with
 |none=>rw[k]at i;exact i.elim
 |some b=>
  rw[k]at i;obtain⟨t,z,A⟩:=i7 y K k;exact⟨v,t,b,rfl,z,A,Pb.here i y (by rw[Na])⟩
noncomputable def Wh:Ev->M Fl:=λa=>ret$ Ϙ a
noncomputable def UG(h:Ev->M Fl):Fl->M Fl
 | Ϙ a=>h a
 | .rt d=>ret (.rt d)
 | .bk a=>ret (.bk a)
 | .ct a=>ret (.ct a)
 | .xc a x=>ret (.xc a x)
def lc(g h:Ev->M Fl):Ev->M Fl:=λa=>Kc (g a)$ UG h
noncomputable def mM:D->M Fl:=λd=>ret$ .rt d
def vh(f:Ev->M D):Ev->M Fl:=λa=>xs a (f a) mM
noncomputable def CL(a:Ev):D->M Fl:=λb=>ret$ Ϙ a
def Wl(f:Ev->M D):Ev->M Fl:=λa=>xs a (f a)$ CL a
noncomputable def NN(i:Nat)(a:Ev):D->M Fl:=λd=>ret$ Ϙ$ a.set i$ BD d
def Xe(i:Nat)(f:Ev->M D):Ev->M Fl:=λa=>xs a (f a)$ NN i a
noncomputable def Mh(t:Ev->M Bool)(a b:Ev->M Fl):Ev->M Fl:=λc=>xs c (t c)$ xj (a c)$ b c
section
variable{st':Stmt}{rest:List Stmt}{g h:Ev->M Fl}{e:Ia}{f:Ev->M D}{pos:Td}
def xq:Ek T X [] Wh:=by
 rintro a s b H D I ⟨f,h,i,c,e,d⟩;exact xQ a s b H D I$ Pb.here (g:=ϸ b) d e c
def zyi{g}{h}{e}{D}(r:Yc T g H h)(q:No T g H e b)(k:Fl->M Fl)
  (i:∀ a,e=Ϙ a->∀ st,b=ϸ st->eh T g H a st->N st H) (f:(∀ a,e≠ Ϙ a)->Pb T EN (No T) g H (J e h) (Rp X D)):Rp X { D with nx:=N } b H:=by
 cases e with
 |nx a=>cases b with
  |nx st=>exact i a rfl st rfl q
  |_=>exact q.elim
 |rt d=>cases b with
  |rt v=>have z:=Pb.here (f λj z=>by cases z) r q;exact z
  |_=>exact q.elim
 |bk a=>cases b with
  |bk v=>have z:=Pb.here (f λj z=>by cases z) r q;exact z
  |_=>exact q.elim
 |ct a=>cases b with
  |ct v=>have z:=Pb.here (f λj z=>by cases z) r q;exact z
  |_=>exact q.elim
 |xc a x=>cases b with
  |xc v c fd=>have z:=Pb.here (f λj z=>by cases z) r q;exact z
  |_=>exact q.elim
def Vc(k:FS T X st' g)(l:Ek T X rest h):Ek T X (st'::rest)$ lc g h:=by
 intro a s t H D I q;refine sT k l a s t H D I ?_;obtain⟨v,w,x,m,p,o⟩:=q;refine⟨v,w,x,m,p,o.bind λj d c B y C z f r e=>(zyi f r (λC=>Ab) (λb i u A n=>?_)$ λC=>?_)⟩
 ·subst i;exact⟨c,b,d,n,f,e⟩
 ·cases j with
  |nx b=>simp_all
  |_=>exact e
def Qh(a:FS T X st' g):Ek T X [st'] g:=P2 a
def Ss(c:FE T X e f):FS T X (.Return (BD e) pos)$ vh f:=by
 intro a s n H D I j;refine L3 c a s n H D I ?_;obtain⟨o,q,r,b,i,h⟩:=j;exact⟨o,q,r,b,i,h.xs b λd t p v u d w m l k=>Pb.here (g:=Tr.rt v) k m l⟩
def iz(i:FE T X e f)(l:Lg e A5 pos.line X.env=pure J8:=by rfl):FS T X (.Expr e pos)$ Wl f:=by
 intro a s c H D I m;refine B3 i l a s c H D I ?_;obtain⟨p,r,t,b,k,j⟩:=m;exact⟨p,r,t,b,k,j.xs b λd u q v w d h o x n=>Pb.here (g:=ϸ c) n o$ b.mono h⟩
def UC(j:X.N.Nodup)(m:X.N[i]?=BD x)(r:Loc X.env.scope x)(k:FE T X e f)(p:Lg e (BD$ ϝ x a) pos.line X.env=pure J8:=by rfl)(l:X.fn x=E8\/X.env.scope.names.lookup x=BD .local:=by first|exact .inl rfl|exact .inr rfl|assumption) :
  FS T X (.Assign [ϝ x a] e pos)$ Xe i f:=by
 intro b s st H D I q;refine T5 j m r k p l b s st H D I ?_;obtain⟨y,A,B,c,o,n⟩:=q;exact⟨y,A,B,c,o,n.xs c λd C z v E d h w u t=>Pb.here (g:=ϸ _) t w$ (c.mono h).set i u⟩
def Oo(q:FT T X c n)(o:Ek T X a k)(p:Ek T X b l):FS T X (.If c a b pos)$ Mh n k l:=by
 intro e s x H D I u;refine pQ q o p e s x H D I ?_;obtain⟨y,i,z,h,t,r⟩:=u;refine⟨y,i,z,h,t,r.xs h λc g f v A B j m w d=>?_⟩;cases w;cases c with
 |true=>unfold xj at d;rw[ja rfl]at d ⊢;exact⟨f,i,g,h.mono j,m,d⟩
 |false=>unfold xj at d;rw[pa qb]at d ⊢;exact⟨f,i,g,h.mono j,m,d⟩
noncomputable def gD(T:Tb)(f:D->Ev->Option Ev):TG:=λv e H Q=>∃ b g c d a,eh T b H c e/\Yc T b H g/\Na T b H d v/\f d c=BD a/\∀ st',eh T b H a st'->Q st' H
noncomputable def C8(T:Tb)(f:lv->Ev->Option Ev):Hy:=λg e H Q=>∃ b h d c a,eh T b H d e/\Yc T b H h/\pb T b H c g/\f c d=BD a/\∀ st',eh T b H a st'->Q st' H
abbrev FG(T:Tb)(X:Cx)(t:Ia)(a:D->Ev->Option Ev):Prop:=PG X t$ gD T a
abbrev iC(T:Tb)(X:Cx)(b:List Ia)(a:lv->Ev->Option Ev):Prop:=OF X b$ C8 T a
noncomputable def pd(i:Nat):D->Ev->Option Ev:=λd a=>BD$ a.set i$ BD d
noncomputable def Vl:lv->Ev->Option Ev
 |[],a=>BD a
 |_::_,_=>A5
noncomputable def Qg(t:D->Ev->Option Ev)(u:lv->Ev->Option Ev):lv->Ev->Option Ev
 |[],_=>A5
 |d::ds,b=>(t d b).bind λa=>u ds a
noncomputable def Il(n:Nat)(t:lv->Ev->Option Ev):D->Ev->Option Ev
 | ϑ ds,a=>if ds.length=n then t ds a else A5
 |_,_=>A5
def P5(c:X.N.Nodup)(g:X.N[i]?=BD x)(k:Loc X.env.scope x)(f:X.fn x=E8\/X.env.scope.names.lookup x=BD .local:=by first|exact .inl rfl|exact .inr rfl|assumption):FG T X (ϝ x pos)$ pd i:=by
 rintro a s st H v u Q I r ⟨n,o,ρ,d,l,b,m,e,j,h⟩;cases j;exact zw6 c g k f a s st H v u Q I r$ h _$ b.set i e
def zst:iC T X [] Vl:=by
 rintro a s h H vs i Q I r ⟨l,m,ρ,b,j,f,k,c,e,g⟩;cases b with
 |nil=>cases e;rw[pb]at c;subst c;exact l5 a s h H [] i Q I r ⟨rfl,g _ f⟩
 |cons d b=>cases e
def V6(q:FG T X e t)(x:iC T X c u)
  (B:(ze (e::c) X.env).map (·.2)=om e X.env::(ze c X.env).map (·.2):=by rfl):iC T X (e::c)$ Qg t u:=by
 rintro a s st H vs E Q I r ⟨m,n,ρ,f,j,y,k,z,l,A⟩;cases f with
 |nil=>cases l
 |cons d f=>
  obtain⟨v,w,rfl,h,i⟩:=z;obtain⟨b,o,p⟩:=yf.mp l;exact Š q x B a s st H _ E Q I r ⟨v,w,rfl,m,n,ρ,d,b,y,k,h,o,λC g=>⟨m,n,b,f,j,g,k,i,p,A⟩⟩
def PM(m:X.de=E8)(h:iC T X c t)
  (q:(ze c X.env).length=n:=by rfl) (e:(ze c X.env).findIdx? (·.1)=A5:=by rfl):FG T X (ϱ c k pos)$ Il n t:=by
 rintro b s st H v u Q I r ⟨y,z,ρ,d,f,l,x,o,a,w⟩;cases d with
 |db ds=>
  obtain⟨p,vs,rfl,j,g⟩:=o;unfold Il at a;dsimp only at a;by_cases i:ds.length=n
  ·rw[ja i]at a;exact i5 m h q e b s st H _ u Q I r ⟨p,vs,rfl,dh.of j,by rw[<-g.length];exact i,y,z,ρ,ds,f,l,x,g,a,w⟩
  simp_all
 |_=>cases a
def jD(x i d:D):M Unit:=λa=>match x,i with
 | O n,U k=>(match We a n with
  |some xs=>(match Hr xs.length k with
   |some j=>J () (a.set n$ Ϗ$ xs.set j d)
   |none=>ϕ)
  |none=>ϕ)
 |_,_=>ϕ
def Zx(b:Ev)(d x i:D):M Fl:=λc=>match jD x i d c with
 | J _ a=>J (Ϙ b) a
 |_=>ϕ
def NL(a:Ev)(b:Ev->M D)(d x:D):M Fl:=xs a (b a)$ Zx a d x
def CK(a:Ev)(c b:Ev->M D)(d:D):M Fl:=xs a (c a)$ NL a b d
def tM(f c b:Ev->M D):Ev->M Fl:=λa=>xs a (f a)$ CK a c b
def ž(R:FE T X e f)(ϊ:FE T X o L)(S:FE T X i fi)
  (Q:∀ v,om (ϥ o i b) X.env v=(do
   let r <-Pe [v] (Qb o X.env);let y <-Pe [v,r] (Qb i X.env)
   ai b
   Pe [v,r,y] (Rv r y v)
   release [v,r,y] []):=by intro _;rfl)
  (Z:Nt [ϥ o i b] e pos.line X.env=pure J8:=by rfl) (hw:Ot [ϥ o i b] e X.env=pure A5:=by rfl)
  (q:(ze [ϥ o i b] X.env).map (·.2)=[om (ϥ o i b) X.env]:=by rfl):FS T X (.Assign [ϥ o i b] e pos)$ tM f L fi:=by
 intro l s st H D I W;refine cT R (yV ϊ S A1 Q) Z hw q l s st H D I ?_;obtain⟨μ,E,σ,g,Y,V⟩:=W;refine⟨μ,E,σ,g,Y,V.xs g λd F B v H1 d h r1 q1 p1=>⟨B,E,F,g.mono h,r1,p1.xs (g.mono h) λx G C vo H2 d p r2 q2 p2=>⟨C,E,G,(g.mono h).mono p,r2,p2.xs ((g.mono h).mono p) λk ό m vi K d t P q3 c=>?_⟩⟩⟩;have hx:=Na.mono t _ _ q2;unfold Zx jD at c;cases x with
 |ref n=>
  cases k with
  |int k=>
   dsimp only at c;cases w:We ό n with
   |none=>rw[w]at c;exact c.elim
   |some xs=>
    rw[w]at c;dsimp only at c;cases u:Hr xs.length k with
    |none=>rw[u]at c;exact c.elim
    |some j=>
     rw[u]at c;obtain⟨a,vs,rfl,ϋ,q,N⟩:=P.qa hx w;have A:=P.write (ob:=Ϗ _) ϋ ⟨_,bf,by
      have ex:qd m K m$ Sb K a$ ϰ$ vs.set j v:=Aq (za ϋ) q (λd z=>by cases z) (λd d z=>by cases z);exact pb.set (Na.mono ex _ _$ Na.mono t _ _$ Na.mono p _ _ q1) j$ pb.mono ex _ _ N⟩
     exact⟨a,vs,k,j,rfl,Wq q3,q,by rw[<-N.length];exact u,c _ (ϸ st) _ A.1 A.2$ ((g.mono h).mono p).mono t |>.mono A.1⟩
  |_=>exact c.elim
 |_=>exact c.elim
end
inductive Gj where
 |seq (ds:lv)
 |Ul (n:Nat)
def Gj.nx:Gj->Nat->Ea->Option (Option D)
 | .seq ds,i,_=>BD ds[i]?
 | .Ul n,i,σ=>(We σ n).map λxs=>xs[i]?
def lI(T:Tb)(c:b')(g:Hp)(a:Gj)(ό:It):Prop:=∀ b H f i,qd c g b H->Yc T b H f->match a.nx i f with
 |none=>True
 |some A5=>ό.stop i H
 |some (BD d)=>ό.go i H/\∀ x e,ό.eD i H x e->e=H/\Na T b H d x
def tI(T:Tb)(X:Cx)(f:Ev->M Gj):TI:=λa H R=>XC T a H λb c d=>Pb T (XE X a) (lI T) b H (f c d) R
abbrev FI(T:Tb)(X:Cx)(b a:Ia)(f:Ev->M Gj):Prop:=PI X b a$ tI T X f
noncomputable def mv(n:Nat):lv:=(List.range n).map λ(i:Nat)=>U (i:Int)
def Wv(d:D):M Gj:=λa=>match d with
 | ϑ ds=>J (.seq ds) a
 | ύ ds=>J (.seq ds) a
 | ϫ ns=>J (.seq$ ns.map U) a
 | O n=>(match We a n with
  |some _=>J (.Ul n) a
  |none=>ϕ)
 |_=>ϕ
def Gi(f:Ev->M D):Ev->M Gj:=λa=>Kc (f a) Wv
def WH(j:Int):Bool:=Yd$ decide (-(2 ^ 62)<=j) && decide (j<2 ^ 62)
def zt(d:D):M Gj:=λa=>match d with
 | U j=>if WH j=E8 then J (.seq$ mv j.toNat) a else ϕ
 |_=>ϕ
def Jo(f:Ev->M D):Ev->M Gj:=λa=>Kc (f a) zt
section
variable{tg iter:Ia}{f:Ev->M D}
def S9(K:ϗ)(c:TE):TI:=λd H R=>c d H λx b=>∃ a,x=ϖ a/\(((∃ xs,Te K b a xs)/\R (JK K a) b)\/((∃ xs,dh K b a xs)/\R (SO K a) b))
def Q0(m:PE X l k):PI X tg l$ S9 X.K k:=by
 intro d s u H R I h;refine Bd (m d s u H _ I h) λv s1 ſ=>?_;obtain⟨x,H1,c,r,j⟩:=ſ;obtain⟨a,rfl,j⟩:=j;cases r;rcases j with⟨⟨xs,g⟩,q⟩|⟨⟨xs,g⟩,q⟩
 ·obtain⟨i,t,p,n⟩:=c.list g;refine Zh p.isList ⟨s1.heap.objs.size,[s1.heap.objs.size],_,_,H1,rfl,c.kept λb o e=>da _ e,X8 a _,⟨_,Ca _ rfl,rfl,rfl⟩,λb f=>?_,q⟩;have e:b=s1.heap.objs.size:=by simpa using f
  subst e;exact c.Jm (va _)$ c.Cc.fresh$ va _
 ·obtain⟨i,t,p,n⟩:=c.tuple g;refine GB (p) ⟨s1.heap.objs.size,[s1.heap.objs.size],_,_,H1,rfl,c.kept λb o e=>da _ e,œ a _,⟨_,Ca _ rfl,rfl,rfl⟩,λb f=>?_,q⟩;have e:b=s1.heap.objs.size:=by simpa using f
  subst e;exact c.Jm (va _)$ c.Cc.fresh$ va _
def NW{f}{K}(h:∀ b c,qd f k b c->∃ vs,Te K c a vs/\pb T b c g vs):lI T f k (.seq g)$ JK K a:=by
 intro b c o i ex q;obtain⟨vs,l,m⟩:=h b c ex;show match BD g[i]? with|none=>True|some A5=>_|some (BD d)=>_
 cases e:g[i]? with
 |none=>exact⟨vs,l,by rw[<-m.length];exact Ub.mp e⟩
 |some d=>
  obtain⟨v,j,n⟩:=m.get e;refine⟨⟨vs,v,l,j⟩,λx p y=>?_⟩;obtain⟨rfl,y⟩:=y
  simp_all
def ċ{f}{K}(h:∀ b c,qd f k b c->∃ vs,dh K c a vs/\pb T b c g vs):lI T f k (.seq g)$ SO K a:=by
 intro b c o i ex q;obtain⟨vs,l,m⟩:=h b c ex;show match BD g[i]? with|none=>True|some A5=>_|some (BD d)=>_
 cases e:g[i]? with
 |none=>exact⟨vs,l,by rw[<-m.length];exact Ub.mp e⟩
 |some d=>
  obtain⟨v,j,n⟩:=m.get e;refine⟨⟨vs,v,l,j⟩,λx p y=>?_⟩;obtain⟨rfl,y⟩:=y
  simp_all
def sO(L:T.K=X.K)(h:FE T X iter f):FI T X tg iter$ Gi f:=by
 intro q s st H R I Q;refine Q0 h q s st H R I ?_;obtain⟨ϊ,V,W,ό,ϋ,N⟩:=Q;refine⟨ϊ,V,W,ό,ϋ,N.bind λd B A v D x e1 t r j=>?_⟩;cases d with
 |db ds=>
  obtain⟨p,vs,rfl,g,l⟩:=r;exact⟨p,rfl,ϓ ⟨⟨vs,dh.of g⟩,Pb.here j t (ċ λb c ex=>⟨vs,dh.of$ ex.db _ _ g,pb.mono ex _ _ l⟩)⟩⟩
 |qa ds=>
  obtain⟨p,vs,rfl,M,g,l⟩:=r;exact⟨p,rfl,ϐ ⟨⟨vs,Te.of g⟩,Pb.here j t (NW λb c ex=>⟨vs,Te.of (ex.Oh _ _ g M).1,pb.mono ex _ _ l⟩)⟩⟩
 |Ug ns=>
  obtain⟨p,rfl,g⟩:=r;have o:∀ b c,qd A D b c->Te X.K c p _:=λb c ex=>by
   have l:Na T b c (ϫ ns) _:=Na.mono ex _ _ (by rw[Na];exact⟨p,rfl,g⟩);obtain⟨p',E,m⟩:=l;cases E;rw[<-L];exact m.seq
  exact⟨p,rfl,ϐ ⟨⟨_,o _ _$ ϭ _ _⟩,Pb.here j t (NW λb c ex=>⟨_,o b c ex,nI ns⟩)⟩⟩
 |ref n=>
  unfold Wv at j;dsimp only at j;cases k:We B n with
  |none=>rw[k]at j;exact j.elim
  |some xs=>
   rw[k]at j;obtain⟨a,vs,rfl,_,g,l⟩:=t.qa r k;refine⟨a,rfl,ϐ ⟨⟨vs,Te.of g⟩,Pb.here j t λb c u i ex S=>?_⟩⟩;show match (We u n).map (λxs=>xs[i]?)with|none=>True|some A5=>_|some (BD d)=>_
   cases G:We u n with
   |none=>trivial
   |some ys=>
    obtain⟨Z,z,F,_,m,C⟩:=S.qa (Na.mono ex _ _ r) G;cases F;show match BD (ys[i]?)with|none=>True|some A5=>_|some (BD d)=>_
    cases e:ys[i]? with
    |none=>exact⟨z,Te.of m,by rw[<-C.length];exact Ub.mp e⟩
    |some d=>
     obtain⟨v,w,P⟩:=C.get e;refine⟨⟨z,v,Te.of m,w⟩,λx Y y=>?_⟩;obtain⟨rfl,y⟩:=y;have:=y z$ Te.of m
     simp_all
 |_=>trivial
def ĸ(h:i<n):(mv n)[i]?=BD (U i):=by simp[mv,h]
def T2 n:(mv n).length=n:=by simp[mv]
def ā(h:Gl X "range")(o:X.mg "range" = A5)(n:FE T X a f)(e:wa [a] X.env=[(J8,Qb a X.env)]:=by rfl):FI T X tg (Ϡ (ϝ "range" p) [a] [] l)$ Jo f:=by
 intro g s st H R I t;refine zis h o (vu n Nx e) e g s st H R I ?_;obtain⟨z,C,D,m,r,q⟩:=t;refine⟨z,C,D,m,r,q.bind λd E A v ό x L w u b=>?_⟩;cases d with
 |int j=>
  subst u;unfold zt at b;dsimp only at b;by_cases c:WH j=E8
  ·rw[ja c]at b;simp[WH]at c;refine⟨j,rfl,c.1,c.2,Pb.here b w λB K F i ex M=>?_⟩;show match BD (mv j.toNat)[i]? with|none=>True|some A5=>_|some (BD d)=>_
   by_cases k:i<j.toNat
   ·rw[ĸ k];refine⟨k,λx G y=>?_⟩;obtain⟨rfl,rfl⟩:=y;exact⟨rfl,by rw[Na,br]⟩
   ·rw[Ub.mpr (by rw[T2];lia)];exact FP.mp k
  ·rw[pa c]at b;exact b.elim
 |_=>exact b.elim
end
noncomputable def fw(k:Ev->M Fl):Fl->M Fl
 | Ϙ a=>k a
 | .ct a=>k a
 | .bk a=>ret (Ϙ a)
 | .rt d=>ret (.rt d)
 | .xc b x=>ret (.xc b x)
def vm(e:D->Ev->Option Ev)(a:Ev->M Fl):lv->Ev->M Fl
 |[],b=>ret (Ϙ b)
 |d::ds,b=>match e d b with
  |none=>Ab
  |some c=>Kc (a c) (fw$ vm e a ds)
def Yq(e:D->Ev->Option Ev)(a:Ev->M Fl)(n:Nat):Nat->Nat->Ev->M Fl
 |0,_,_=>Ab
 |k+1,i,f=>λc=>match We c n with
  |none=>ϕ
  |some xs=>match xs[i]? with
   |none=>J (Ϙ f) c
   |some d=>match e d f with
    |none=>ϕ
    |some b=>Kc (a b) (fw$ Yq e a n k$ i+1) c
def eG(b:D->Ev->Option Ev)(a:Ev->M Fl)(c:Ev):Gj->M Fl
 | .seq ds=>vm b a ds c
 | .Ul n=>Yq b a n 1001 0 c
def Qk(b:Ev->M Gj)(d:D->Ev->Option Ev)(a:Ev->M Fl):Ev->M Fl:=λc=>xs c (b c)$ eG d a c
section
def BP{D}(l:Yc T d e g)(h:No T d e j f)(i:Pb T EN (No T) d e (fw k j g)$ Rp X D)
  (m:∀ b a,eh T d e b a->Pb T EN (No T) d e (k b g) (Rp X D)->N a e):Rp X { D with nx:=N,ct:=N,bk:=D.nx } f e:=by
 cases j with
 |nx b=>cases f with
  |nx a=>exact m b a h i
  |_=>trivial
 |ct b=>cases f with
  |ct a=>exact m b a h i
  |_=>trivial
 |bk b=>cases f with
  |bk a=>have z:Rp X D (ϸ a) e:=Pb.here i l h;exact z
  |_=>exact h.elim
 |rt o=>cases f with
  |rt v2=>have z:=Pb.here i l h;exact z
  |_=>trivial
 |xc b x=>cases f with
  |xc a c n=>have z:=Pb.here i l h;exact z
  |_=>trivial
variable{tgt iter:Ia}{body:List Stmt}{src:Ev->M Gj}{t:D->Ev->Option Ev}{g:Ev->M Fl}{pos:Td}
def vw(V:Co (model X.prog X.w) X.A X.env X.xe)(hc:X.de=E8)(hi:FI T X tgt iter src)(hg:FG T X tgt t)(hb:Ek T X body g)
  (hs:∀ x,oe iter X.env x=pure x:=by intro _;rfl):FS T X (.For tgt iter body [] pos)$ Qk src t g:=by
 intro Q s st H D I hq;refine xZ V hc hi hg hb hs Q s st H D I ?_;obtain⟨e,ρ,q,S,hr,V⟩:=hq;refine⟨e,ρ,q,S,hr,V.xs S λsrc B k ό ϋ J e1 r1 q1 p1=>?_⟩;cases src with
 |seq ds=>
  have K:Pb T EN (No T) k ϋ (vm t g ds ρ B) _:=p1;refine⟨λi m o b=>m=ds.length - i/\∃ e ρ q,qd k ϋ e b/\eh T e b ρ o/\Yc T e b q/\Pb T EN _ e b (vm t g (ds.drop i) ρ q) _,⟨ds.length,by simp,k,ρ,B,ϭ _ _,S.mono e1,r1,by simpa using K⟩,?_⟩;rintro i m o b ⟨rfl,f,u,j,ex,r,z,c⟩;have a:match (BD ds[i]?)with|none=>True|some A5=>ό.stop i b|some (BD d)=>ό.go i b/\∀ x P,ό.eD i b x P->P=b/\Na T f b d x:=(q1 f b j i ex z)
  cases C:ds[i]? with
  |none=>
   rw[C]at a;rw[wq$ Ub.mp C]at c;exact ϐ ⟨a,Pb.here (g:=ϸ o) c z r⟩
  |some d=>
   rw[C]at a;obtain⟨hl,ed⟩:=ba.mp C;have hd:ds.drop i=d::ds.drop (i+1):=by rw[<-ed];exact(fh hl)
   rw[hd]at c;unfold vm at c;refine ϓ ⟨a.1,λp l=>∃ e ρ q,qd k ϋ e l/\eh T e l ρ p/\Yc T e l q/\Pb T EN (No T) e l _ _,λp l h=>⟨ds.length - (i+1),by omega,rfl,h⟩,λx l y=>?_⟩;obtain⟨rfl,W⟩:=a.2 x l y;cases G:t d u with
   |none=>rw[G]at c;exact c.elim
   |some v=>
    rw[G]at c;exact⟨f,j,u,d,v,r,z,W,G,λp E=>⟨f,v,j,E,z,c.bind λfl N L gl H4 J ϊ R Z p4=>BP R Z p4 λM a0 F Y=>⟨L,M,N,ex.trans ϊ,F,R,Y⟩⟩⟩
 |Ul n=>
  have K:Pb T EN (No T) k ϋ (Yq t g n 1001 0 ρ B)$ Rp X D:=p1;refine⟨λi m o b=>∃ e ρ q,qd k ϋ e b/\eh T e b ρ o/\Yc T e b q/\Pb T EN (No T) e b (Yq t g n m i ρ q) (Rp X D),⟨1001,k,ρ,B,ϭ _ _,S.mono e1,r1,K⟩,?_⟩;rintro i m o b ⟨f,u,j,ex,r,z,c⟩;cases m with
  |zero=>exact c.elim
  |succ m=>
   unfold Yq at c;have a:match ((We j n).map λxs=>xs[i]?)with|none=>True|some A5=>ό.stop i b|some (BD d)=>ό.go i b/\∀ x P,ό.eD i b x P->P=b/\Na T f b d x:=(q1 f b j i ex z)
   cases el:We j n with
   |none=>simp only[el]at c;exact c.elim
   |some xs=>
    simp only[el]at c a;cases C:xs[i]? with
    |none=>
     simp only[C,Option.map_some]at c a;exact ϐ ⟨a,Pb.here (g:=ϸ o) c z r⟩
    |some d=>
     simp only[C,Option.map_some]at c a;refine ϓ ⟨a.1,λp l=>∃ e ρ q,qd k ϋ e l/\eh T e l ρ p/\Yc T e l q/\Pb T EN (No T) e l (Yq t g n m (i+1) ρ q) _,λp l h=>⟨m,Lb _,h⟩,λx l y=>?_⟩;obtain⟨rfl,W⟩:=a.2 x l y;cases G:t d u with
     |none=>simp only[G]at c;exact c.elim
     |some v=>
      simp only[G]at c;exact⟨f,j,u,d,v,r,z,W,G,λp E=>⟨f,v,j,E,z,c.bind λfl N L gl H4 J ϊ R Z p4=>BP R Z p4 λM a0 F Y=>⟨L,M,N,ex.trans ϊ,F,R,Y⟩⟩⟩
end
mutual
noncomputable def cl:D->Bool
 | ϑ xs=>Af xs
 | ύ xs=>Af xs
 | Ϭ _ xs=>Af xs
 | Ϸ _ _ xs=>Af xs
 | O _=>J8
 | Ϝ=>E8
 | ϒ _=>E8
 | U _=>E8
 | ϙ _=>E8
 | ϫ _=>E8
 | .Ys _=>E8
 | .gt _=>E8
noncomputable def Af:lv->Bool
 |[]=>E8
 |d::ds=>cl d && Af ds
end
noncomputable def Xl(f:D->Option D):lv->Option (lv)
 |[]=>BD []
 |d::ds=>match f d,Xl f ds with
  |some x,BD xs=>BD (x::xs)
  |_,_=>A5
def fz(k:Nat)(a:Ea):Nat->D->Option D
 |0,d=>if cl d=E8 then BD d else match d with
  | O n=>if n<k then BD (O n)else A5
  |_=>A5
 |m+1,d=>if cl d=E8 then BD d else match d with
  | O n=>if n<k then BD (O n)else match a[n]? with
   |some (Ϗ xs)=>(Xl (fz k a m) xs).map ύ
   |some (ώ b)=>(Xl (fz k a m) (b.map (·.2))).map (Ϭ (b.map (·.1)))
   |some (ϔ c e)=>(Xl (fz k a m) (e.map (·.2))).map (Ϸ c (e.map (·.1)))
   |some (ϣ _)=>A5
   |some (.ue _)=>A5
   |none=>A5
  | ϑ xs=>(Xl (fz k a m) xs).map ϑ
  | ύ xs=>(Xl (fz k a m) xs).map ύ
  | Ϭ ks xs=>(Xl (fz k a m) xs).map (Ϭ ks)
  | Ϸ c ns xs=>(Xl (fz k a m) xs).map (Ϸ c ns)
  |_=>A5
open Classical in
def Yf(b:Ea):ii D->ii D
 | J d a=>if a.take b.length=b then (match fz b.length a 6 d with
  |some c=>J c b
  |none=>ϕ)else ϕ
 | .ex x a=>if a.take b.length=b then .ex x b else ϕ
 | ϕ=>ϕ
def Uc(f:M D):M D:=λa=>Yf a$ f a
section
variable{T:Tb}{μ μ':b'}{H H':Hp}{σ σ':Ea}
mutual
theorem vM(e:∃ r,μ'=μ++r):∀ (d:D) (v:V),cl d=E8->Na T μ' H d v->Na T μ H d v
 | Ϝ,v,_,h=>by simpa [Na]using h
 | ϒ b,v,_,h=>by simpa [Na]using h
 | U i,v,_,h=>by simpa [Na]using h
 | ϙ x,v,_,h=>by simpa [Na]using h
 | ϑ ds,v,c,h=>by
  rw[Na]at h ⊢;obtain⟨p,vs,f,g,j⟩:=h;exact⟨p,vs,f,g,QE e ds vs (by simpa [cl]using c) j⟩
 | ϫ ns,v,_,h=>by rw[Na]at h ⊢;exact h
 | O n,v,c,h=>by simp[cl]at c
 | ύ ds,v,c,h=>by
  rw[Na]at h ⊢;obtain⟨a,vs,f,g,j,l⟩:=h;exact⟨a,vs,f,λz=>g (by obtain⟨r,rfl⟩:=e;exact Ya _ z),j,QE e ds vs (by simpa [cl]using c) l⟩
 | Ϭ ks ds,v,c,h=>by
  rw[Na]at h ⊢;obtain⟨a,vs,f,g,j,m,l⟩:=h;exact⟨a,vs,f,λz=>g (by obtain⟨r,rfl⟩:=e;exact Ya _ z),j,m,QE e ds _ (by simpa [cl]using c) l⟩
 | Ϸ k ns ds,v,c,h=>by
  rw[Na]at h ⊢;obtain⟨a,t,vs,f,g,j,m,l⟩:=h;exact⟨a,t,vs,f,λz=>g (by obtain⟨r,rfl⟩:=e;exact Ya _ z),j,m,QE e ds _ (by simpa [cl]using c) l⟩
 | .Ys k,v,_,h=>by
  rw[Na]at h ⊢;obtain⟨a,s,f,g,j,l⟩:=h;exact⟨a,s,f,λz=>g (by obtain⟨r,rfl⟩:=e;exact Ya _ z),j,λn q=>let ⟨o,u,w,y⟩:=l n q;⟨o,u,λz=>w (by obtain⟨r,rfl⟩:=e;exact Ya _ z),y⟩⟩
 | .gt ss,v,_,h=>by rw[Na]at h ⊢;exact h
theorem QE(e:∃ r,μ'=μ++r):∀ (a:lv) (vs:kv),Af a=E8->pb T μ' H a vs->pb T μ H a vs
 |[],vs,_,h=>by simpa [pb]using h
 |d::a,vs,c,h=>by
  rw[pb]at h ⊢;obtain⟨v,r,f,g,i⟩:=h;have b:cl d=E8/\Af a=E8:=by simpa [Af,Fa]using c
  exact⟨v,r,f,vM e d v b.1 g,QE e a r b.2 i⟩
end
mutual
theorem Na.down(e:∃ r,μ'=μ++r):∀ (d:D) (v0 v:V),Na T μ H d v0->Na T μ' H' d v->Na T μ H' d v
 | Ϝ,v0,v,_,h=>by simpa [Na]using h
 | ϒ b,v0,v,_,h=>by simpa [Na]using h
 | U i,v0,v,_,h=>by simpa [Na]using h
 | ϙ x,v0,v,_,h=>by simpa [Na]using h
 | ϑ ds,v0,v,c,h=>by
  rw[Na]at h c ⊢;obtain⟨p,vs,g,f,l⟩:=h;obtain⟨F,j,_,_,u⟩:=c;exact⟨p,vs,g,f,pb.down e ds j vs u l⟩
 | ϫ ns,v0,v,_,h=>by rw[Na]at h ⊢;exact h
 | O n,v0,v,c,h=>by
  rw[Na]at h c ⊢;obtain⟨a,g,f⟩:=h;obtain⟨b,_,t⟩:=c;refine⟨a,g,?_⟩;obtain⟨r,rfl⟩:=e;rw[ib (ba.mp t).1]at f;exact f
 | ύ ds,v0,v,c,h=>by
  rw[Na]at h c ⊢;obtain⟨a,vs,g,f,l,m⟩:=h;obtain⟨_,j,_,_,_,o⟩:=c;exact⟨a,vs,g,λz=>f (by obtain⟨r,rfl⟩:=e;exact Ya _ z),l,pb.down e ds j vs o m⟩
 | Ϭ ks ds,v0,v,c,h=>by
  rw[Na]at h c ⊢;obtain⟨a,vs,g,f,l,s,m⟩:=h;obtain⟨_,j,_,_,_,_,o⟩:=c;exact⟨a,vs,g,λz=>f (by obtain⟨r,rfl⟩:=e;exact Ya _ z),l,s,pb.down e ds _ _ o m⟩
 | Ϸ k ns ds,v0,v,c,h=>by
  rw[Na]at h c ⊢;obtain⟨a,A,vs,g,f,l,s,m⟩:=h;obtain⟨_,_,j,_,_,_,_,o⟩:=c;exact⟨a,A,vs,g,λz=>f (by obtain⟨r,rfl⟩:=e;exact Ya _ z),l,s,pb.down e ds _ _ o m⟩
 | .Ys k,v0,v,_,h=>by
  rw[Na]at h ⊢;obtain⟨a,y,g,f,l,m⟩:=h;exact⟨a,y,g,λz=>f (by obtain⟨r,rfl⟩:=e;exact Ya _ z),l,λn q=>let ⟨w,B,C,E⟩:=m n q;⟨w,B,λz=>C (by obtain⟨r,rfl⟩:=e;exact Ya _ z),E⟩⟩
 | .gt ss,v0,v,_,h=>by rw[Na]at h ⊢;exact h
theorem pb.down(e:∃ r,μ'=μ++r):∀ (b:lv) (a vs:kv),pb T μ H b a->pb T μ' H' b vs->pb T μ H' b vs
 |[],a,vs,_,h=>by simpa [pb]using h
 |d::b,a,vs,c,h=>by
  rw[pb]at h c ⊢;obtain⟨v,r,i,j,k⟩:=h;obtain⟨l,r0,_,f,g⟩:=c;exact⟨v,r,i,Na.down e d l v f j,pb.down e b r0 r g k⟩
end
theorem iH{f:Type}(e:∃ r,μ'=μ++r):∀ {xs:List$ f × D} {g h:List$ f × V},Paired (λ(p:f × D) (q:f × V)=>p.1=q.1/\Na T μ H p.2 q.2) xs h->Paired (λ(p:f × D) (q:f × V)=>p.1=q.1/\Na T μ' H' p.2 q.2) xs g->Paired (λ(p:f × D) (q:f × V)=>p.1=q.1/\Na T μ H' p.2 q.2) xs g:=by
 intro _ _ x a b;induction b generalizing x with
 |nil=>exact .nil
 |cons c _ i=>cases a with|cons a b=>exact .cons ⟨c.1,Na.down e _ _ _ a.2 c.2⟩ (i b)
theorem yo.down(e:∃ r,μ'=μ++r):∀ {o:Ob},yo T μ H a o->yo T μ' H' a o->yo T μ H' a o
 | Ϗ ds,⟨_,_,c⟩,⟨b,h,r⟩=>⟨b,h,pb.down e _ _ _ c r⟩
 | ώ f,⟨_,_,c⟩,⟨b,h,r⟩=>⟨b,h,iH e c r⟩
 | ϔ c i,⟨_,_,_,d⟩,⟨g,b,h,r⟩=>⟨g,b,h,iH e d r⟩
 | ϣ f,⟨_,_,_,d⟩,⟨ob,b,h,r⟩=>⟨ob,b,h,iH e d r⟩
 | .ue ks,_,⟨b,h,r⟩=>⟨b,h,r⟩
def Yc.down(r0:Yc T μ H σ)(r:Yc T μ' H' σ')(e:qd μ H μ' H')(m:σ'.take σ.length=σ):Yc T μ H' σ/\qd μ H μ H':=by
 refine⟨⟨r0.len,r0.nd,λn o h=>?_,r.tb.sub λb k=>by obtain⟨z,rfl⟩:=e.pre;exact Ya _ k⟩,⟨⟨[],by simp⟩,e.db,e.Uc,λp o h n=>⟨(e.keep p o h n).1,n⟩⟩⟩;obtain⟨a,d,g⟩:=r0.obs n o h;have f:σ'[n]?=BD o:=by
  have l:=(ba.mp h).1
  rwa [<-m,Xo l]at h
 obtain⟨b,i,j⟩:=r.obs n o f;have c:=e.get d;rw[i]at c;cases c;exact⟨a,d,g.down e.pre j⟩
theorem CN{c:Type}:∀ {xs:List$ c × D} {d:List$ c × V},Paired (λ(p:c × D) (q:c × V)=>p.1=q.1/\Na T μ H p.2 q.2) xs d->d.map (·.1)=xs.map (·.1)/\pb T μ H (xs.map (·.2)) (d.map (·.2)):=by
 intro _ _ h;induction h with
 |nil=>exact⟨rfl,pb.nil⟩
 |cons a _ i=>exact⟨by simp[i.1,a.1],pb.cons a.2 i.2⟩
theorem uU{f:D->Option D}(i:∀ d c v,f d=BD c->Na T μ' H d v->Na T μ H c v):∀ (b a:lv) (vs:kv),Xl f b=BD a->pb T μ' H b vs->pb T μ H a vs
 |[],a,vs,h,r=>by cases h;simpa [pb]using r
 |d::b,a,vs,h,r=>by
  unfold Xl at h;cases e:f d with
  |none=>simp_all
  |some x=>
   cases g:Xl f b with
   |none=>simp_all
   |some xs=>
    rw[e,g]at h;cases h;obtain⟨v,w,rfl,j,k⟩:=r;exact pb.cons (i d x v e j)$ uU i b xs w g k
def UY(e:∃ r,μ'=μ++r)(r:Yc T μ' H σ'):∀ m d y v,fz μ.length σ' m d=BD y->Na T μ' H d v->Na T μ H y v:=by
 have F:∀ n v,n<μ.length->Na T μ' H (O n) v->Na T μ H (O n) v:=λn v j h=>by
  obtain⟨a,f,A⟩:=h;obtain⟨q,rfl⟩:=e;rw[ib j]at A;exact⟨a,f,A⟩
 intro m;induction m with
 |zero=>
  intro d y v h g;unfold fz at h;by_cases u:cl d=E8
  ·rw[ja u]at h;cases h;exact vM e _ _ u g
  ·rw[pa u]at h;cases d with
   |ref n=>
    dsimp only at h;by_cases j:n<μ.length
    ·rw[ja j]at h;cases h;exact F n v j g
    ·rw[pa j]at h;cases h
   |_=>cases h
 |succ m Q=>
  intro d y v h g;unfold fz at h;by_cases u:cl d=E8
  ·rw[ja u]at h;cases h;exact vM e _ _ u g
  ·rw[pa u]at h;have t:=uU (λd y v a b=>Q d y v a b);cases d with
   |ref n=>
    dsimp only at h;by_cases j:n<μ.length
    ·rw[ja j]at h;cases h;exact F n v j g
    ·rw[pa j]at h;cases ό:σ'[n]? with
     |none=>rw[ό]at h;cases h
     |some o=>
      rw[ό]at h;obtain⟨a,rfl,ϋ,w⟩:=r.at g ό;have x:a ∉ μ:=λz=>by
       obtain⟨i,N⟩:=Xr z;obtain⟨q,rfl⟩:=e;have P:=(ba.mp N).1;have:=IG r.nd (by rw[ib P];exact N) ϋ;omega
      cases o with
      |qa xs=>
       obtain⟨ys,f,rfl⟩:=nb.mp h;obtain⟨vs,C,E⟩:=w;exact⟨a,vs,rfl,x,C,t xs ys vs f E⟩
      |Ga M=>
       obtain⟨ys,f,rfl⟩:=nb.mp h;obtain⟨vs,C,E⟩:=w;obtain⟨K,L⟩:=CN E;exact⟨a,vs,rfl,x,(ϐ C),K,t _ ys _ f L⟩
      |yb c R=>
       obtain⟨ys,f,A⟩:=nb.mp h;subst A;obtain⟨G,vs,C,E⟩:=w;obtain⟨K,L⟩:=CN E;exact⟨a,G,vs,rfl,x,C,K,t _ ys _ f L⟩
      |Yb M=>cases h
      |ue _=>cases h
   |db xs=>
    obtain⟨ys,f,rfl⟩:=nb.mp h;obtain⟨p,vs,k,l,s⟩:=g;exact⟨p,vs,k,l,t xs ys vs f s⟩
   |qa xs=>
    obtain⟨ys,f,rfl⟩:=nb.mp h;obtain⟨p,vs,k,B,l,s⟩:=g;exact⟨p,vs,k,λz=>B (by obtain⟨r,rfl⟩:=e;exact Ya _ z),l,t xs ys vs f s⟩
   |Ga ks xs=>
    obtain⟨ys,f,rfl⟩:=nb.mp h;obtain⟨p,vs,k,B,l,I,s⟩:=g;exact⟨p,vs,k,λz=>B (by obtain⟨r,rfl⟩:=e;exact Ya _ z),l,I,t xs ys _ f s⟩
   |obj c ks xs=>
    obtain⟨ys,f,A⟩:=nb.mp h;subst A;obtain⟨p,G,vs,k,B,l,I,s⟩:=g;exact⟨p,G,vs,k,λz=>B (by obtain⟨r,rfl⟩:=e;exact Ya _ z),l,I,t xs ys _ f s⟩
   |_=>cases h
def Pb.Uc{E}{f}{Q}(r:Yc T μ H σ)(h:Pb T E (Na T) μ H (Uc f σ) Q):Pb T E (Na T) μ H (f σ) Q:=by
 unfold L4.Uc at h;cases e:f σ with
 |Ab=>rw[e]at h;exact h
 |ex x a=>
  rw[e]at h;unfold Yf at h;dsimp only at h;by_cases b:a.take σ.length=σ
  ·rw[ja b]at h;intro m i c g;obtain⟨l,j⟩:=Yc.down r g c b;exact h μ i j l
  ·rw[pa b]at h;exact h.elim
 |ok d a=>
  rw[e]at h;unfold Yf at h;dsimp only at h;by_cases b:a.take σ.length=σ
  ·rw[ja b]at h;cases k:fz σ.length a 6 d with
   |none=>rw[k]at h;exact h.elim
   |some n=>
    rw[k]at h;intro m v i c g o;obtain⟨l,j⟩:=Yc.down r g c b;exact h μ v i j l$ UY c.pre g 6 d n v (by rw[r.len];exact k) o
  ·rw[pa b]at h;exact h.elim
end
def Di(f:Ev->M D):Ev->M D:=λa=>Uc$ f a
def qS(h:FE T X e f):FE T X e$ Di f:=by
 rintro a s g H Q I ⟨i,j,k,c,b,d⟩;exact h a s g H Q I ⟨i,j,k,c,b,Pb.Uc b d⟩
def DK(h c:Heap):Prop:=∀ (a:Nat) o,h.objs[a]?=BD o->∃ b:Obj,c.objs[a]?=BD b/\b.dict=o.dict
def DK.refl h:DK h h:=λa o e=>⟨o,e,rfl⟩
def DK.trans(x:DK b c)(y:DK c d):DK b d:=λa o e=>by
 obtain⟨h,f,q⟩:=x a o e;obtain⟨i,g,j⟩:=y a h f
 simp_all
def DK.push h o:DK h$ h.push o:=λa u e=>by
 obtain⟨b,l⟩:=h;have e:=e;have c:=(Oc.mp e).1;refine⟨u,?_,rfl⟩;show (b.push o)[a]?=BD u;rw[Array.getElem?_push_lt c];exact(Gb c).symm.trans e
def DK.update h b(i:∀ o,(f o).dict=o.dict):DK h$ h.update b f:=λa u e=>by
 obtain⟨c,l⟩:=h;show ∃ d:Obj,(c.modify b f)[a]?=BD d/\_;rw[Array.getElem?_modify];by_cases g:b=a;all_goals simp_all
def DK.get(x:DK h b)(e:h.get? a=BD o)(d:b.get? a=BD c):c.dict=o.dict:=by
 obtain⟨u,f,g⟩:=x a o ((Lv _ _ _).1 e).1;have:=((Lv _ _ _).1 d).1
 simp_all
structure KD{α:Type}(t:cn α):Prop where
 out:∀ (M:Mi) (Γ:PySem.Ctx) (Q:α->Td->Shared->Prop) (E:Value->Td->Shared->Prop) (p:Td) (s:Shared),Sem.wp M Γ t Q E p s->Sem.wp M Γ t (λa p' s'=>Q a p' s'/\DK s.heap s'.heap) (λe p' s'=>E e p' s'/\DK s.heap s'.heap) p s
namespace KD
variable{α β:Type}
def ft a:KD (Pure.pure a:cn α):=⟨λb b b b b s h=>⟨h,.refl _⟩⟩
def Xu w:KD (PySem.unsupported w:cn α):=⟨λa a a a a a h=>h⟩
def Kc(g:KD m)(e:∀ a,KD (f a)):KD$ m >>= f:=⟨λM b Q E p s h=>by
 rw[ll]at h ⊢;refine Et M b m (λa c d z=>?_) (λi i i z=>z) p s$ g.out M b _ _ p s h;exact Et M b _ (λi i i q=>⟨q.1,z.2.trans q.2⟩) (λi i i q=>⟨q.1,z.2.trans q.2⟩) c d$ (e a).out M b _ _ c d z.1⟩
def Ql{c}[Decidable c]{t u:cn α}(a:KD t)(b:KD u):KD$ if c then t else u:=by split<;>assumption
def ld a:KD$ PySem.load a:=⟨λc c c c c c h=>by obtain⟨o,b,h⟩:=h;exact⟨o,b,h,.refl _⟩⟩
def Sb a(b:∀ o,(f o).dict=o.dict):KD$ PySem.update a f:=⟨λc c c c c c h=>⟨h.1,h.2,.update _ _ b⟩⟩
def Np:KD PySem.stack:=⟨λM a Q E p s h=>by
 exact⟨h,.refl _⟩⟩
def jv o:KD$ PySem.alloc o:=⟨λa a a a a a h=>⟨h,.push _ _⟩⟩
def fld v i:KD$ PySem.field v i:=⟨λj g Q E p s h=>by
 rw[Mv]at h ⊢;obtain⟨a,o,f,x,b,c,d,e,h⟩:=h;exact⟨a,o,f,x,b,c,d,e,h,.refl _⟩⟩
def set v i x:KD$ PySem.setField v i x:=⟨λn m Q E p s h=>by
 rw[LJ]at h ⊢;obtain⟨a,o,k,e,f,g,j,h⟩:=h;exact⟨a,o,k,e,f,g,j,h,.update _ _ λo=>by obtain⟨c,d,b,l⟩:=o;cases b<;>rfl⟩⟩
end KD
def ą a l:KD$ WP a l:=by unfold WP;(repeat' with_reducible first|assumption|exact KD.ft _|exact KD.Xu _|exact KD.fld _ _|exact KD.set _ _ _|exact KD.ld _|exact KD.Sb _ _|exact KD.Np|exact KD.jv _|apply KD.Ql|apply KD.Kc|intro _|split)
def Ş:KD underTheClaimsCaller:=by unfold underTheClaimsCaller;(repeat' with_reducible first|assumption|exact KD.ft _|exact KD.Xu _|exact KD.fld _ _|exact KD.set _ _ _|exact KD.ld _|exact KD.Sb _ _|exact KD.Np|exact KD.jv _|apply KD.Ql|apply KD.Kc|intro _|split)
def Ď a i l:KD$ keptBack a i l:=by
 have:=Ş;cases l<;>unfold keptBack<;>(repeat' with_reducible first|assumption|exact KD.ft _|exact KD.Xu _|exact KD.fld _ _|exact KD.set _ _ _|exact KD.ld _|exact KD.Sb _ _|exact KD.Np|exact KD.jv _|apply KD.Ql|apply KD.Kc|intro _|split)
theorem QX:∀ l:List wg,KD (readyFrames l)
 |[]=>KD.ft _
 |env::l=>by
  have b:=QX l;have a:=ą env l;unfold readyFrames
  (repeat' with_reducible first|assumption|exact KD.ft _|exact KD.Xu _|exact KD.fld _ _|exact KD.set _ _ _|exact KD.ld _|exact KD.Sb _ (λc=>rfl)|exact KD.Np|exact KD.jv _|apply KD.Ql|apply KD.Kc|intro _|split)
  all_goals first|exact(λi=>Ď env i l) _|skip
def Ĵ l:KD$ frameObject l:=by
 cases l with
 |nil=>exact KD.ft _
 |cons env l=>
  have:=QX$ env::l;unfold frameObject
  (repeat' with_reducible first|assumption|exact KD.ft _|exact KD.Xu _|exact KD.fld _ _|exact KD.set _ _ _|exact KD.ld _|exact KD.Sb _ _|exact KD.Np|exact KD.jv _|apply KD.Ql|apply KD.Kc|intro _|split)
def ç:KD frameEnvs:=by unfold frameEnvs;(repeat' with_reducible first|assumption|exact KD.ft _|exact KD.Xu _|exact KD.fld _ _|exact KD.set _ _ _|exact KD.ld _|exact KD.Sb _ _|exact KD.Np|exact KD.jv _|apply KD.Ql|apply KD.Kc|intro _|split)
def Η a:KD$ PySem.frameOf a:=by
 have b:=ç;unfold PySem.frameOf
 (repeat' with_reducible first|assumption|exact KD.ft _|exact KD.Xu _|exact KD.fld _ _|exact KD.set _ _ _|exact KD.ld _|exact KD.Sb _ _|exact KD.Np|exact KD.jv _|apply KD.Ql|apply KD.Kc|intro _|split)
 all_goals first|exact Ĵ _|skip
def zmp f b:KD$ entryPlaceOf f b:=by unfold entryPlaceOf;(repeat' with_reducible first|assumption|exact KD.ft _|exact KD.Xu _|exact KD.fld _ _|exact KD.set _ _ _|exact KD.ld _|exact KD.Sb _ _|exact KD.Np|exact KD.jv _|apply KD.Ql|apply KD.Kc|intro _|split)
def zmn a b c d e l:KD$ Fo a b c d e l:=by
 unfold Fo newFields newObj newObjAsIs
 (repeat' with_reducible first|assumption|exact KD.ft _|exact KD.Xu _|exact KD.fld _ _|exact KD.set _ _ _|exact KD.ld _|exact KD.Sb _ _|exact KD.Np|exact KD.jv _|apply KD.Ql|apply KD.Kc|intro _|split)
def Ð e a:KD$ yh e a:=by
 have b:=Η a;unfold yh
 (repeat' with_reducible first|assumption|exact KD.ft _|exact KD.Xu _|exact KD.fld _ _|exact KD.set _ _ _|exact KD.ld _|exact KD.Sb _ (λc=>rfl)|exact KD.Np|exact KD.jv _|apply KD.Ql|apply KD.Kc|intro _|split)
 all_goals first|exact zmp _ _|exact zmn _ _ _ _ _ _|skip
def Z1 e f:KD$ Go e f:=by unfold Go;(repeat' with_reducible first|assumption|exact KD.ft _|exact KD.Xu _|exact KD.fld _ _|exact KD.set _ _ _|exact KD.ld _|exact KD.Sb _ _|exact KD.Np|exact KD.jv _|apply KD.Ql|apply KD.Kc|intro _|split)
def wY{M}{t:cn e}{Q}(k:KD t)(h:wpAny M A t Q E s):wpAny M A t (λa d=>Q a d/\DK s.heap d.heap) E s:=
 λc p b=>Et M c t (λf f f z=>z) (λf f f z=>z.1) p s$ k.out M c _ _ p s$ h c p b
section
variable{P:Ba}{w:Ra}{H H':Hp}{h h':Heap}{a:Addr}{o:HO}
def nW(x:Ph P w H h)(k:∀ b o u,H b=BD o->h.get? b=BD u->h'.get? b=BD u):Ph P w H h':=λb o e=>
 (x b o e).Aj (λc v a q=>by
  rcases a with rfl|a
  ·exact k _ _ _ e q
  ·exact k _ _ _ a q) (λc q=>q) λc c q=>q
end
section
variable{pins:List$ Addr × Obj}{st:St}{H H':Hp}{s s':Shared}{cls:Value}{h':Heap}{ea:Addr}{args:em}{M:Mi}{E:Value->Shared->Prop}{Q:Unit->Shared->Prop}
def W0(x:bE B l ea cls a h):xn B l ea cls a h:=⟨x.1,x.2.1,x.2.2.1,ϐ ⟨Fc,x.2.2.2.at⟩⟩
def xn.there(x:xn B l ea cls b h):∃ a,h.get? ea=BD a/\a.cls=cls:=by
 obtain⟨_,_,_,⟨f,q⟩|⟨c,g,d,e,_⟩⟩:=x
 ·exact q.there
 ·exact⟨c,d,e⟩
def xn.rM(x:xn B l ea cls b h)(g:h.get? ea=BD o):∃ vs,o.data=ϩ vs:=by
 obtain⟨_,_,_,⟨d,c,vs,T,i,n,f,a,e,_⟩|⟨c,vs,j,k,m,_⟩⟩:=x;all_goals simp_all
def EF.next(x:EF a ea B h b H')(k:DK h h')(e:∃ o,h'.get? ea=BD o):EF a ea B h' b H':=λn q=>by
 obtain⟨c,oD,i,d,f,g⟩:=x n q;obtain⟨o,e⟩:=e;exact⟨c,oD,o,e,(k.get d e).trans f,g⟩
def jP(x:xn B l ea cls d s.heap)(i:∀ a,xn B l ea cls d a->s.heap.UpToSlots a->DK s.heap a->Q () { s with heap:=a }):wpAny M A (Go (Db ea) A5) Q E s:=by
 obtain⟨f,g,h,⟨w,c⟩|c⟩:=x
 ·have k:wpAny M A _ (λG s'=>∃ a,s'={ s with heap:=a }/\xn B l ea cls d a/\s.heap.UpToSlots a) E s:=
   wpAny_setFlight_noneW f h c λa p q k3 r=>⟨a,rfl,W0 ⟨p,g,q,k3⟩,λb o e n=>⟨o.slots,r b o e n⟩⟩
  exact gc (wY (Z1 _ _) k) (λ_ _ ⟨⟨a,e,t,u⟩,v⟩=>by subst e;exact i a t u v) λG G z=>z
 ·obtain⟨F,vs,m,C,j,D,y,a⟩:=id c;exact aa$ dk m j a$ ga$ i s.heap ⟨f,g,h,ϓ c⟩ (.refl _)$ .refl _
def X0(w:A.frames=BD (d::a))(u:d.frame=BD L)(x:xn B (d::a) ea cls m s.heap)
  (N:∀ h,Wn B (d::a) ea cls m L h->s.heap.UpToSlots h->Q () { s with heap:=h }):wpAny M A (yh (Db ea) d) Q E s:=by
 obtain⟨I,C,ό,⟨D,r⟩|r⟩:=x
 ·by_cases Z:D=Bc L
  ·subst Z;exact wpAny_noteFrame_againW u r$ N s.heap ⟨I,C,ό,r⟩$ .refl _
  ·obtain⟨ϊ,vs,T,oT,z,l,ϋ,j,h,y,i,F,c,Y⟩:=r;have V:3<z.size:=(Oc.mp Y).1;have f:∀ b,b≠T->(s.heap.update T (bq (·.setIfInBounds 3 Fc))).get? b=s.heap.get? b:=λb G=>De _ _$ Gd G;have nr:∀ b o,s.heap.get? b=BD o->(∀ v,o.data≠ ϩ v)->b≠T:=λb o G hn q=>by
    rw[q,F]at G;cases G;exact hn z c
   have g:=Ic (bq (·.setIfInBounds 3 Fc)) F$ Me$ kc c _;have up:s.heap.UpToSlots _:=λb o e n=>⟨o.slots,(f b$ nr b o e n).trans e⟩
   have F0:bE B _ ea cls m _:=
    ⟨λb o e=>(f b λq=>by rw[q,y]at e;cases e).trans$ I b o e,C,ό.of_keeps λb o e n=>⟨o,(f b$ nr b o e n).trans e,rfl⟩,
     ϊ,vs,T,_,_,(f ea$ Gd i).trans l,ϋ,j,h,y,i,g,kc c _,by simp[V]⟩
   intro Γ p P;have k:=(wpAny_looks_onW (M:=M) (E:=E) (s:={ s with heap:=s.heap.update T _ }) w u F0 λh2 q1 q2=>N h2 q1$ up.trans q2) Γ p P;unfold yh at k ⊢;simp only[u]at k ⊢;rw[ll,Mv]at k ⊢;obtain⟨a1,R,v1,x1,e1,g1,X,i1,k⟩:=k;cases e1;have t:s.heap.get? ea=BD R:=(f ea$ Gd i).symm.trans g1;have S:R=ϊ:=by rw[l]at t;cases t;rfl
   subst S;rw[j]at X;cases X;rw[h]at i1;cases i1;refine⟨ea,R,vs,Db T,rfl,l,j,h,?_⟩;have nn:(Db T != Fc)=E8:=by simp
   simp only[nn,Dg]at k ⊢;rw[ll,Mv]at k ⊢;obtain⟨a2,o2,v2,x2,e2,g2,d2,i2,k⟩:=k;cases e2;have K:=g.symm.trans g2;cases K;have H:=(kc c (·.setIfInBounds 3 Fc)).symm.trans d2;cases H;have W:x2=Fc:=by
    have:(z.setIfInBounds 3 Fc)[3]?=BD Fc:=by simp[V]
    rw[this]at i2;cases i2;rfl
   subst W;refine⟨T,oT,z,D,rfl,F,c,Y,?_⟩;have n1:(Fc == Bc L)=J8:=by simp[Bc]
   have n2:(D == Bc L)=J8:=by
    cases q:D == Bc L with
    |false=>rfl
    |true=>exact absurd (Bf.mp q) Z
   simp only[n1,n2,Cf,Ml]at k ⊢;rw[ll,LJ]at k ⊢;obtain⟨a3,o3,v3,e3,g3,d3,i3,k⟩:=k;cases e3;refine⟨T,oT,z,rfl,F,c,V,?_⟩;simpa only[Heap.update_setField_twice]using k
 ·obtain⟨ϊ,vs,l,ϋ,j,hz,h0,h⟩:=r;unfold yh;simp[u];refine aa$ dk l j h (wpAny_entryW (base:=B) (outer:=a) (a0:=m) w ό u l I C j hz h0 λh4 hN=>?_);obtain⟨k1,k2,k3,k4⟩:=hN;rw[ϋ]at k3;exact N h4 ⟨k1,C,k2,k3⟩ k4
def KY(f:A.frames=BD (c::a))(j:c.frame=BD L)(x:xn B (c::a) ea cls d s.heap)
  (i:∀ b,Wn B (c::a) ea cls d L b->s.heap.UpToSlots b->DK s.heap b->Q () { s with heap:=b }):wpAny M A (yh (Db ea) c) Q E s:=by
 have k:wpAny M A _ (λm s'=>∃ b,s'={ s with heap:=b }/\Wn B _ ea cls d L b/\s.heap.UpToSlots b) E s:=X0 f j x λb g h=>⟨b,rfl,g,h⟩
 exact gc (wY (Ð _ _) k) (λ_ _ ⟨⟨b,e,g,h⟩,l⟩=>by subst e;exact i b g h l) λm m z=>z
def VR(x:Wn B l ea cls a L h):xn B l ea cls a h:=⟨x.1,x.2.1,x.2.2.1,ϐ ⟨_,x.2.2.2⟩⟩
def D8(d:A.frames=BD (b::a))(h:b.frame=BD L)(x:xn B (b::a) ea cls e s.heap)
  (g:∀ c,xn B a ea cls e c->s.heap.UpToSlots c->DK s.heap c->Q () { s with heap:=c }):wpAny M A (leaving b$ Db ea) Q E s:=by
 refine aa (KY d h x λc l m n=>(jP (VR l) λf o p q=>?_));obtain⟨i,j,⟨_,_,k3⟩,k⟩:=o;exact g f ⟨i,j,k3,k⟩ (m.trans p)$ n.trans q
def zJ(c:X.stack=X.env::X.outer)(a:X.env.frame=BD X.env.locals):b∈yk X.stack ↔ b=X.env.locals\/b∈yk X.outer:=by
 rw[c];unfold yk;rw[ff,a];exact Da
def ĺ(I:Xa X pins st H s)(m:X.stack=X.env::X.outer)(l:X.env.frame=BD X.env.locals)(p:X.ex=[])(d:Un (yk X.stack) [] H H' s.heap f):Un (yk X.outer) [] X.H₀ H' X.s₀.heap f:=by
 have a:∀ b,b ∉ X.ex:=λb z=>by rw[p]at z;cases z
 have i:∀ b o,X.s₀.heap.get? b=BD o->b≠X.env.locals:=λb o e=>Aa$ La (xa e) I.ok.above;refine⟨λb o e n g t=>?_,λb o e n g t=>?_,λb o e n t=>?_,λb o e t=>?_,λb xs e=>d.Uj b xs$ I.base.Uj b xs e,λb o u e=>d.Ji b o u$ I.base.Ji b o u e,λb ps e=>?_⟩
 ·exact d.keep b o (I.base.keep b o e n g$ a b) (I.base.free b o e n$ a b) (λz=>((zJ m l).mp z).elim (i b o e) g) ⋯
 ·obtain⟨r,c⟩:=I.base.slot b o e n g (a b);obtain⟨k,h⟩:=d.slot b _ c (I.base.free b o e n$ a b) ((zJ m l).mpr$ ϓ g) ⋯;exact⟨k,h⟩
 ·obtain⟨j,c⟩:=I.base.there b o e (a b);exact d.free b j c (I.base.free b o e n$ a b) ⋯
 ·obtain⟨j,c⟩:=I.base.there b o e (a b);exact d.there b j c ⋯
 ·obtain⟨m1,c⟩:=I.base.wj b ps e;obtain⟨q,h⟩:=d.wj b _ c;exact⟨m1++q,by rw[h,Bt]⟩
def fJ(F:WA P w a H s cls v H' e s'){B:Heap}(y:∀ b o,s.heap.get? b=BD o->H b=A5->b ∉ yk a->B.get? b=BD o)(z:∀ b o,H' b=BD o->∃ t,B.get? b=BD t)
  (x:∀ b o,s.heap.get? b=BD o->b ∉ yk a->∃ k,B.get? b=BD k) (A:∀ b o,B.get? b=BD o->s'.heap.get? b=BD o) (l:∀ b o,B.get? b=BD o->j.get? b=BD o) (h:s'.heap.UpToSlots j) (g:∀ b∈yk a,∃ o,s.heap.get? b=BD o/\(∀ E,o.data≠ ϩ E)/\H b=A5) :
  Un (yk a) [] H H' s.heap j/\Ph P w H' j:=by
 refine⟨⟨λb o e n c G=>l b o$ y b o e n c,λb o e n c p=>?_,F.un.free,λb o e p=>?_,F.un.Uj,F.un.Ji,F.un.wj⟩,nW F.Cc λb o u e q=>?_⟩
 ·obtain⟨D,f⟩:=F.un.slot b o e n c p;obtain⟨k,d,m,_⟩:=g b c;rw[e]at d;cases d;obtain⟨i,r⟩:=h b _ f m;exact⟨i,r⟩
 ·by_cases c:b∈yk a
  ·obtain⟨k,d,m,C⟩:=g b c;rw[e]at d;cases d;obtain⟨D,f⟩:=F.un.slot b o e C c p;obtain⟨i,r⟩:=h b _ f m
   simp_all
  ·obtain⟨k,f⟩:=x b o e c
   simp_all
 ·obtain⟨t,f⟩:=z b o e
  simp_all
def cH(I:Xa X pins st H s):∀ b∈yk X.stack,∃ o,s.heap.get? b=BD o/\(∀ d,o.data≠ ϩ d)/\H b=A5:=λb a=>by
 obtain⟨_,o,e,c⟩:=I.stack.mem a;exact⟨o,e,c,I.Dl b a⟩
set_option tactic.hygienic true in
def ż(I:Xa X pins st H s)(d:X.stack=X.env::X.outer)(i:X.env.frame=BD X.env.locals)(c:X.ex=[])(F:WA X.prog X.w X.stack H s cls j H' e s')
  (N:∀ g,WA X.prog X.w X.outer X.H₀ X.s₀ cls j H' e g->Q () g):wpAny M X.A (leaving X.env e) Q E s':=by
 obtain⟨ea,t,B,rfl,y,ϋ,ό,G,D,C,L⟩:=F.ex;have k:xn B (X.env::X.outer) ea cls t s'.heap:=by rw[<-d];exact y
 refine D8 (by rw[<-d];exact I.ok.frames) i k λl r S T=>N _ ?_;obtain⟨R,p⟩:=fJ F D G C y.1 r.1 S (cH I);have a:∀ b,b ∉ X.ex:=λb z=>by rw[c]at z;cases z
 have f:∀ b o,X.s₀.heap.get? b=BD o->b≠X.env.locals:=λb o e=>Aa$ La (xa e) I.ok.above;have K:∀ b,s.heap.get? b=A5->X.s₀.heap.get? b=A5:=λb e=>by
  cases q:X.s₀.heap.get? b with
  |none=>rfl
  |some u=>obtain⟨v,x⟩:=I.base.there _ _ q (a _);rw[e]at x;cases x
 have m:EF j ea B l X.s₀.heap H':=λn q=>by
  obtain⟨ϊ,oD,V,W,Y,Z,z4,z5,z6⟩:=L.next T (let ⟨o,e,_⟩:=r.there;⟨o,e⟩) n q
  simp_all
 refine⟨⟨ea,t,B,rfl,r,ϋ,?_,G,λb o e n h=>?_,λb o e h=>?_,m⟩,F.os.trans I.os,F.bare,ĺ I d i c R,p⟩
 ·cases q:X.s₀.heap.get? ea with
  |none=>rfl
  |some u=>grind
 ·exact D b o (I.base.keep b o e n h$ a b) (I.base.free b o e n$ a b) λz=>((zJ d i).mp z).elim (f b o e) h
 ·obtain⟨P,q⟩:=I.base.there b o e (a b);exact C b P q λz=>((zJ d i).mp z).elim (f b o e) h
end
def B6{P}{w}{K}{m}{d}{N}{g}{c}{f}{l}{A}{b}{s}{H}{E}{st}{a}{j}{i}
  (h:E a j i):fK (vp (Kk P w) P w K m d N g c f l A b s H E) st a j i where
 oN:=λk o s1 e p I F=>ż I rfl rfl rfl F λn G=>⟨a,j,i,G,h⟩
def Uo{K} :
  Co (model P w) (vp (Kk P w) P w K g c N d b f e A a s H E).A (vp (Kk P w) P w K g c N d b f e A a s H E).env (vp (Kk P w) P w K g c N d b f e A a s H E).xe:=zaC
noncomputable def w9:Fl->M D
 | Ϙ _=>ret Ϝ
 | .rt d=>ret d
 | .xc _ x=>λa=>.ex x a
 |_=>Ab
def oo:ii Fl->ii D
 | J a σ=>w9 a σ
 |_=>ϕ
def Ch(n:Nat)(g:Ev->M Fl)(a:lv):M D:=λb=>oo$ g (a.map BD++List.replicate (n - a.length) A5) b
inductive fU(T:Tb)(n:Nat)(vs:kv)(H:Hp)(P:b'->Ea->lv->Prop):Prop
 |mk (μ:b') (σ:Ea) (ds:lv) (a:pb T μ H ds vs) (l:ds.length=n) (r:Yc T μ H σ) (p:P μ σ ds):fU T n vs H P
noncomputable def Ro(T:Tb)(n:Nat)(f:lv->M D):Sp:=λb H Q E=>fU T n b H λc d a=>Pb T E (Na T) c H (f a d) Q
noncomputable def zq(n:Nat)(f:lv->M D)(a:lv)(b:lv):M D:=if (b++a).length=n then f (b++a)else Ab
def Gf(n:Nat)(f:lv->M D)(a:lv)(b:Ev->M (lv)):Ev->M D:=λc=>Kc (b c)$ zq n f a
section
def I0(h:pb T c H a vs):eh T c H (a.map BD++List.replicate (N.length - a.length) A5)$ L2.start N vs:=by
 have k:=h.length;refine⟨by simp[L2.start,k],λi d e=>?_⟩;by_cases j:i<a.length
 ·rw[ib (by simpa using j),Ta]at e;cases b:a[i]? with
  |none=>simp_all
  |some x=>
   rw[b]at e;cases e;obtain⟨v,f,g⟩:=h.get b;refine⟨v,?_,g⟩;unfold L2.start;rw[ib ⋯,Ta,f];rfl
 ·rw[Wd ⋯,Wp]at e
  simp_all
variable{k:Nat}{f C:Addr}{fd:lf}{ps:ab}{dvs:kv}{dval:em}{dds:lv}{x:Str}{p pos:Td}{e:Ia}{es:List Ia}{fn:lv->M D}{fs:Ev->M (lv)}{sp:Sp}{t:TA}
def nJ(F:gh X.prog X.w X.K X.mg X.base (Kk X.prog X.w) k f fd ps sp)(p:Md k X.A)(m:vr X.K fd ps dval)(n:ce dvs dval)
  (I:Xa X a g H s) (r:ce vs d) (h:sp (vs++dvs) H Q$ XE X g):wpAny (model X.prog X.w) X.A (call (Db f) d) (EP X a g Q) X.xe s:=by
 have i:=r.append n;have o:(d++dval).length=ps.length:=by rw[<-i.length];exact F.len _ _ _ _ h
 refine fj (xf (F.Ch X.A X.stack s H _ _ _ Q _ p I.pF (m s d I.Ki o) i h) λr t c=>?_);cases r with
 |error e=>obtain⟨j,fd,v,b,q⟩:=c;exact q.oN a H s e t I b
 |ok l=>
  cases l with
  |ret u=>exact I.after c
  |next=>exact ϲ c
  |brk=>exact ϲ c
  |cont=>exact ϲ c
def cN(F:gh X.prog X.w X.K X.mg X.base (Kk X.prog X.w) k f fd ps$ Ro T ps.length fn)(M:Md k X.A)(E:Gl X x)(ό:X.mg x=BD (Db f))(G:Ϻ X.K (Db f)=E8)(B:vr X.K fd ps dval)(C:ce dvs dval)(g:∀ m H,pb T m H dds dvs)
  (z:FA T X (e::es) fs) (d:(x == ("__debug__" : Str))=J8:=by decide) (D:wa (e::es) X.env=(J8,Qb e X.env)::wa es X.env:=by rfl) (j:(Dc pos$ wa es X.env).any (·.1)=J8:=by rfl) :
  FE T X (Ϡ (ϝ x p) (e::es) [] pos)$ Gf ps.length fn dds fs:=by
 intro a s v H Q I h;refine Le$ JE I E ό ?_ d;obtain⟨m,ρ,P,y,l,L⟩:=h;refine Ϲ I.ok.mod.dz G (Bd (z pos a s v H (λvs c=>Ro T ps.length fn (vs++dvs) c Q$ XE X v) I ⟨m,ρ,P,y,l,L.bind λu o n vs c J R ϋ N b=>?_⟩) λus s1 ⟨vs,c,t,r,q⟩=>⟨t.Ki,?_⟩) D j
 ·unfold zq at b;by_cases i:(u++dds).length=ps.length
  ·rw[ja i]at b;exact⟨n,o,u++dds,N.append$ g _ _,i,ϋ,b⟩
  ·rw[pa i]at b;exact b.elim
 ·exact nJ F M B C t r q
variable{P:Ba}{w:Ra}{K:ϗ}{mg:Str->Option Value}{base:Heap}
def GC{st}{D kV i G d ct Z}{C od}
  (lk:K.lookup f=BD ⟨Z,od,.func$ Ϯ x a c (Nj st) (Kf st) D kV i G C d ct,q⟩) (p:ϻ K d a=E8) (S:Ec N ps$ Kf st)
  (X:∀ A b s H E,Md k (A.deeper$ rg a (Kf st) s.heap.objs.size f d)->Ek T (vp (Kk P w) P w K mg base N a (Kf st) f d A b s H E) (Nj st) g) :
  gh P w K mg base (Kk P w) (k+1) f (Ϯ x a c (Nj st) (Kf st) D kV i G C d ct) ps$ Ro T ps.length$ Ch N.length g:=by
 refine W3 lk p S (λvs H Q E h=>?_) (λA b s H vs Q E Y h=>?_)
 ·obtain⟨I,y,L,o,F,_⟩:=h;rw[<-o.length];exact F
 ·obtain⟨I,y,L,o,F,V,e⟩:=h;refine⟨_,X A b s H E Y,I,_,y,I0 o,V,?_⟩;unfold Ch at e;cases m:g _ y with
  |Ab=>rw[m]at e;exact e
  |ex x B=>rw[m]at e;exact e.elim
  |ok ϊ B=>
   rw[m]at e;intro u n ό ϋ r j;have l:=e.mono ϋ;cases ϊ with
   |nx v=>cases n with
    |nx t=>have z:=Pb.here l r (by rw[Na]);exact z
    |_=>exact j.elim
   |rt d2=>cases n with
    |rt v2=>have z:=Pb.here l r j;exact z
    |_=>exact j.elim
   |xc v x2=>cases n with
    |xc t c2 R=>
     obtain⟨_,rfl,rfl⟩:=j;exact B6$ l u ό (ϭ _ _) r
    |_=>exact j.elim
   |_=>exact l.elim
def uM(F:gh P w K mg base (Kk P w) k f fd ps$ Ro T ps.length fn):gh P w K mg base (Kk P w) k f fd ps$ Ro T ps.length (λa=>Uc$ fn a):=
 F.imp λvs H Q E h=>by
  obtain⟨g,i,a,c,d,b,e⟩:=h;exact⟨g,i,a,c,d,b,Pb.Uc b e⟩
end
noncomputable def Si(e:wg)(a:List$ Str × Fe)(b:List$ Str × Addr):List$ Str × Addr:=
 a.foldl (λd y=>if (y.2 == xb)=E8 then (match e.cells.lookup y.1 with|some c=>(y.1,c)::d|none=>d)else d) b
theorem rO(b:wg):∀ (d:List$ Str × Fe) (acc:List$ Str × Addr),(∀ y∈d,y.2=xb->∃ c,b.cells.lookup y.1=BD c)->
  (forIn d acc (λx (cs:List (Str × Addr))=>match x with|(name,kind)=>if (kind == xb)=E8 then (do let a <-cellOf b name;pure (ForInStep.yield$ (name,a)::cs))else pure (ForInStep.yield cs)):cn (List$ Str × Addr))=pure (Si b d acc)
 |[],acc,_=>rfl
 |(n,k)::r,acc,h=>by
  rw[List.forIn_cons];by_cases e:(k == xb)=E8
  ·obtain⟨c,i⟩:=h _ ua ⋯;have j:cellOf b n=pure c:=by unfold cellOf;rw[i]
   simp only[e,j];show (forIn r _ _:cn _)=_;rw[rO b r _ λy g=>h y$ ra _ g];have f:Si b ((n,k)::r) acc=Si b r ((n,c)::acc):=by
    unfold Si;rw[qi];simp only[e,Dg,i]
   rw[f]
  ·simp only[e];show (forIn r acc _:cn _)=_;rw[rO b r acc λy g=>h y$ ra _ g];have f:Si b ((n,k)::r) acc=Si b r acc:=by
    unfold Si;rw[qi];simp only[e];rfl
   rw[f]
def nO b a(h:∀ y∈a.names,y.2=xb->∃ c,b.cells.lookup y.1=BD c):closureFor a b=pure (Si b a.names []):=by
 unfold closureFor;simp only[bind_pure];exact(rO b a.names [] h)
theorem rN(a:wg):∀ (b:List$ Str × Fe) (acc:List$ Str × Addr) (n:Str) (c:Addr),(∀ n c,acc.lookup n=BD c->a.cells.lookup n=BD c)->(Si a b acc).lookup n=BD c->a.cells.lookup n=BD c
 |[],acc,n,c,h,e=>h n c e
 |(y,k)::r,acc,n,c,h,e=>by
  refine rN a r _ n c (λn c q=>?_) e;by_cases f:(k == xb)=E8
  ·simp[f,Dg]at q;cases d:a.cells.lookup y with
   |none=>rw[d]at q;exact h n c q
   |some g=>
    rw[d]at q;rw[Wb]at q;cases i:(n == y)with
    |true=>simp_all
    |false=>simp_all
  grind
theorem eY(a:wg):∀ (b:List$ Str × Fe) (acc:List$ Str × Addr) (n:Str),(∃ c,acc.lookup n=BD c)->∃ c,(Si a b acc).lookup n=BD c
 |[],acc,n,h=>h
 |(y,k)::r,acc,n,h=>by
  refine eY a r _ n ?_;by_cases e:(k == xb)=E8
  ·simp[e];cases f:a.cells.lookup y with
   |none=>exact h
   |some d=>
    rw[Wb];cases g:(n == y)with
    |true=>exact⟨d,rfl⟩
    |false=>exact h
  simp_all
theorem gG(b:wg):∀ (a:List$ Str × Fe) (acc:List$ Str × Addr) (n:Str),(n,xb)∈a->(∃ c,b.cells.lookup n=BD c)->∃ c,(Si b a acc).lookup n=BD c
 |[],acc,n,h,_=>nomatch h
 |(y,k)::r,acc,n,h,d=>by
  rcases Da.mp h with e|e
  ·cases e;refine eY b r _ _ ?_;obtain⟨c,d⟩:=d
   simp_all
  ·exact gG b r _ n e d
theorem lN{a:wg}:∀ {b:List$ Str × Fe} {x:Str} {k:Fe},
  (b.map λ(n,k)=>if (k == xb && a.scope.kind == Ϥ && a.kindOf n == BD Gc)then (n,Gc)else (n,k)).lookup x=BD k->∃ k0,b.lookup x=BD k0/\(k=k0\/(k0=xb/\k=Gc))
 |[],_,_,h=>by simp at h
 |(n,k0)::r,x,k,h=>by
  have f:=@lN a r x k;have c:List.lookup x ((if (k0 == xb && a.scope.kind == Ϥ && a.kindOf n == BD Gc)=E8 then (n,Gc)else (n,k0))::(r.map λ(n,k)=>if (k == xb && a.scope.kind == Ϥ && a.kindOf n == BD Gc)then (n,Gc)else (n,k)))=BD k:=h;cases e:x == n with
  |true=>
   by_cases d:(k0 == xb && a.scope.kind == Ϥ && a.kindOf n == BD Gc)=E8;all_goals grind
  |false=>
   by_cases d:(k0 == xb && a.scope.kind == Ϥ && a.kindOf n == BD Gc)=E8
   ·rw[ja d]at c;simp only[Wb,e]at c ⊢;exact f c
   ·rw[pa d]at c;simp only[Wb,e]at c ⊢;exact f c
theorem zS{env:wg}:∀ {a:List$ Str × Fe} {x:Str},a.lookup x=BD xb->
  (a.map λ(n,k)=>if (k == xb && env.scope.kind == Ϥ && env.kindOf n == BD Gc)then (n,Gc)else (n,k)).lookup x=BD Gc\/
  (a.map λ(n,k)=>if (k == xb && env.scope.kind == Ϥ && env.kindOf n == BD Gc)then (n,Gc)else (n,k)).lookup x=BD xb
 |[],_,h=>by simp at h
 |(n,k)::r,x,h=>by
  have f:=@zS env r x;have b:∀ z,List.lookup x ((if (k == xb && env.scope.kind == Ϥ && env.kindOf n == BD Gc)=E8 then (n,Gc)else (n,k))::(r.map λ(n,k)=>if (k == xb && env.scope.kind == Ϥ && env.kindOf n == BD Gc)then (n,Gc)else (n,k)))=z->
   (List.map (λ(n,k)=>if (k == xb && env.scope.kind == Ϥ && env.kindOf n == BD Gc)then (n,Gc)else (n,k))$ (n,k)::r).lookup x=z:=λz e=>e
  cases c:x == n with
  |true=>
   simp[Wb,c]at h;cases h;by_cases d:(xb == xb && env.scope.kind == Ϥ && env.kindOf n == BD Gc)=E8
   ·exact ϐ$ b _ (by rw[ja d];simp only[Wb,c])
   ·exact ϓ$ b _ (by rw[pa d];simp only[Wb,c])
  |false=>
   simp only[Wb,c]at h;have e:List.lookup x ((if (k == xb && env.scope.kind == Ϥ && env.kindOf n == BD Gc)=E8 then (n,Gc)else (n,k))::(r.map λ(n,k)=>if (k == xb && env.scope.kind == Ϥ && env.kindOf n == BD Gc)then (n,Gc)else (n,k))) =
     (r.map λ(n,k)=>if (k == xb && env.scope.kind == Ϥ && env.kindOf n == BD Gc)then (n,Gc)else (n,k)).lookup x:=by
    by_cases d:(k == xb && env.scope.kind == Ϥ && env.kindOf n == BD Gc)=E8
    ·rw[ja d];simp only[Wb,c]
    ·rw[pa d];simp[Wb,c]
   rcases f h with q|q
   ·exact ϐ$ b _$ e.trans q
   ·exact ϓ$ b _$ e.trans q
def ew{a:List$ Str × Fe}(h:a.lookup x=BD k):(x,k)∈a:=je h
noncomputable def Po(X:Cx)(b:ab)(a:Scope)(cl:List$ Str × Addr)(C:Addr)(s₀:Shared)(H₀:Hp)(ex:b'):Cx:=
 { X with N:=b,s₀:=s₀,H₀:=H₀,env:=compEnvC a cl C X.env,outer:=X.stack,stack:=X.stack,ex:=ex,fn:=λc=>J8,pn:=[],xe:=λc c=>False }
structure Wj(X:Cx)(x:Str)(M':ab)(ix:h8)(scope:Scope):Prop where
 kind:scope.kind=Ϥ
 cell:(scope.names.all λy=>!(y.2 == Gc))=E8
 names:(scope.names.all λy=>!(y.2 == .local) || scope.names.lookup y.1 == BD .local)=E8
 free:(scope.names.all λy=>!(y.2 == xb) || (X.env.scope.names.lookup y.1 == BD Gc || X.env.scope.names.lookup y.1 == BD xb))=E8
 at_:ix.map (λi=>X.N[i]?)=M'.map BD
 QV:(M'.all λy=>(X.env.scope.names.lookup y == BD Gc || X.env.scope.names.lookup y == BD xb) && scope.names.lookup y == BD xb)=E8
noncomputable def uT(a:h8)(b:Ev):Ev:=A5::a.map λi=>(b[i]?).getD A5
noncomputable def NY(a:h8)(st:St):St:=A5::a.map λi=>(st[i]?).getD A5
def mX{st} a(h:eh T f H b st):eh T f H (uT a b)$ NY a st:=by
 refine⟨by simp[uT,NY],λi d e=>?_⟩;cases i with
 |zero=>cases e
 |succ j=>
  have l:(a.map λi=>(b[i]?).getD A5)[j]?=BD _:=e;cases m:a[j]? with
  |none=>simp_all
  |some c=>
   have g:b[c]?=BD (BD d):=by
    cases q:b[c]? with
    |none=>simp_all
    |some o=>simp_all
   obtain⟨v,n,k⟩:=h.2 c d g;refine⟨v,?_,k⟩;show (a.map λi=>(st[i]?).getD A5)[j]?=_
   simp_all
section
variable{pins:List$ Addr × Obj}{st:St}{H:Hp}{s:Shared}{x:Str}{M':ab}{ix:h8}{scope:Scope}{fp:b'}
def ō(L:Wj X x M' ix scope) y(a:y∈scope.names)(e:y.2=xb):X.env.kindOf y.1=BD Gc\/X.env.kindOf y.1=BD xb:=by
 have q:=Vb.mp L.free y a;rw[e]at q;simp only[QZ,Bool.not_true,IB,zf]at q;rcases q with q|q
 ·exact ϐ$ eq_of_beq q
 ·exact ϓ$ eq_of_beq q
def lB(I:Xa X pins st H s)(L:Wj X x M' ix scope):∀ y∈scope.names,y.2=xb->∃ c,X.env.cells.lookup y.1=BD c:=λy a e=>I.ok.has y.1$ ō L y a e
def aG(L:Wj X x M' ix scope):∀ y∈scope.names,y.2≠ Gc:=λy a e=>by
 have q:=Vb.mp L.cell y a
 simp_all
end
noncomputable def Vt{a:Type}(m:M a):M a:=λb=>match m b with
 | .ex _ _=>ϕ
 |o=>o
def Pb.Iu{E E0}{R:b'->Hp->j->u->Prop}{p}{m}{k:j->M t}{Q:v->Hp->Prop}{o}
  (h:Pb T E p l H (Kc (Vt m) k i) Q) (f:∀ a b c g d,m i=J a b->qd l H c d->Yc T c d b->R c d a g->Pb T E p c d (k a b) Q->o g d):Pb T E0 R l H (m i) o:=by
 unfold Kc Vt at h;cases e:m i with
 |ok a b=>
  simp[e]at h;exact λn g w s r q=>f a b n g w e s r q$ h.mono s
 |ex x b=>simp[e]at h;exact h.elim
 |Ab=>simp[e]at h;exact h
def iy(T:Tb)(X:Cx)(b:List Ia)(f:Ev->M Bool):Prop:=
 ∀ a s st H Q,Xa X a st H s->tT T X f st H Q->
  wpAny (model X.prog X.w) X.A (forIn b E8 λc r=>if r=E8 then do let ok <-PB c X.env (Qb c X.env);pure (ForInStep.yield ok)else pure (ForInStep.yield r)) (TP X a st Q) X.xe s
noncomputable def zl:Ev->M Bool:=λa=>ret E8
def A0:iy T X [] zl:=by
 rintro a s e H Q I ⟨f,g,h,d,c,b⟩;exact wpAny_tests_nil ⟨H,I,Pb.here b c rfl⟩
def ŗ(h:FT T X c f):iy T X [c] f:=λa s d H Q I b=>wpAny_tests_one$ h a s d H Q I b
def R1(u:Un i ex H g h j)(d:Rc C j k)(l:h.objs.size<=C):Un i ex H g h k:=by
 have f:∀ b o,h.get? b=BD o->b≠C:=λb o e=>Aa$ La (xa e) l;refine⟨λb o e n c a=>(d.2 b$ f b o e).trans$ u.keep b o e n c a,λb o e n c a=>?_,u.free,λb o e a=>?_,u.Uj,u.Ji,u.wj⟩
 ·obtain⟨p,q⟩:=u.slot b o e n c a;exact⟨p,(d.2 b$ f b o e).trans q⟩
 ·obtain⟨m,q⟩:=u.there b o e a;exact⟨m,(d.2 b$ f b o e).trans q⟩
def zmf(ok:Ph P w H a)(f:Rc C a d)(h:H C=A5):Ph P w H d:=λb g e=>by
 refine(ok b g e).Aj (λc j i q=>(f.2 c ?_).trans q) (λk q=>q) λk k q=>q;rintro rfl
 simp_all
def ψ(r:Yc T b H c)(d:b[n]?=BD a)(e:Na T b H y v)(h:Pb T E (Na T) b H (Xj (O n) [y] c) Q):vK (ϖ a) [v] H Q:=
 NM E b H c _ [y] (ϖ a) [v] Q r (by rw[Na];exact⟨a,rfl,d⟩) (pb.cons e pb.nil) h
def MH{m m'}{k:b->M c}(h:m a=m' a):Kc m k a=Kc m' k a:=by unfold Kc;rw[h]
theorem aN{m:M b}{k}{l:c->M d}:Kc (Kc m k) l=Kc m λa=>Kc (k a) l:=by
 funext e;unfold Kc;cases m e<;>rfl
def nA(x y:D):M D:=λa=>match jf a x,jf a y with
 |some xs,BD b=>if xs.length+b.length<=Og then J (ύ$ xs++b) a else ϕ
 |_,_=>ϕ
def jh(x y:D):M D:=match x,y with
 | U i,U j=>ret (U$ i+j)
 | ϑ xs,ϑ c=>if xs.length+c.length<=Og then ret (ϑ$ xs++c)else Ab
 | ϙ a,ϙ b=>if a.length+b.length<=100000 then ret (ϙ$ a++b)else Ab
 |x,y=>nA x y
def Μ(h:n<=100000):n<=sizeLine:=lb h ⋯
section
variable{a b c:Ia}{fa fb fc:Ev->M D}{pos:Td}
def R4{c}{t b}{l:em}(v:IsTup s.heap t (#[]:Array Value))(q:IsTup s.heap b l.toArray)(p:Q (Db b) s):wpAny (model c w) A (pe .Add (Db t)$ Db b) Q F s:=by
 obtain⟨⟨m,o,j,y⟩,k,r,n,u⟩:=id v;obtain⟨⟨i,e,d,h⟩,a,f,x,g⟩:=id q;subst r u f g;exact Bv ⟨_,k,rfl⟩ ⟨_,a,rfl⟩ Ao Dt Hh lh (Zg _ _)
  (tuple_addW0 t b #[] l.toArray n x o e y h rfl) ⟨k,a,p⟩
def CY{b}{st}(I:Xa X b st H s)(C:Zc v i)(B:Zc u h)(r:Yc T d H e)(t:Na T d H x v)(z:Na T d H y u)(a:Pb T E (Na T) d H (nA x y e) Q) :
  wpAny (model X.prog X.w) X.A (pe .Add i h) (EP X b st Q) X.xe s:=by
 unfold nA at a;cases c:jf e x with
 |none=>rw[c]at a;exact a.elim
 |some xs=>
  cases f:jf e y with
  |none=>rw[c,f]at a;exact a.elim
  |some G=>
   rw[c,f]at a;dsimp only at a;by_cases g:xs.length+G.length<=Og
   ·rw[ja g]at a;obtain⟨p,vs,rfl,m,j⟩:=r.ls t c;obtain⟨q,F,rfl,n,k⟩:=r.ls z f;exact tR b s st H _ _ i h Q I C B ⟨p,q,vs,F,rfl,rfl,m,n,by rw[<-j.length,<-k.length];exact eB g,λl o=>II a r (pb.append j k) o⟩
   ·rw[pa g]at a;exact a.elim
def OW(R:T.K=X.K):wh X (pe .Add)$ rD T jh:=by
 rintro d s st H v u z w Q I m k ⟨E,V,W,x,y,r,g,h,c⟩;cases x with
 |int i=>
  cases y with
  |int j=>exact þ d s st H v u z w Q I m k ⟨i,j,Wq g,Wq h,Pb.here c r (by rw[Na])⟩
  |_=>trivial
 |str a=>
  cases y with
  |str b=>
   unfold jh at c;dsimp only at c;by_cases f:a.length+b.length<=100000
   ·rw[ja f]at c;exact ľ d s st H v u z w Q I m k ⟨a,b,by simpa [Na]using g,by simpa [Na]using h,Μ f,Pb.here c r (by rw[Na])⟩
   ·rw[pa f]at c;exact c.elim
  |_=>exact CY I m k r g h c
 |db xs=>
  cases y with
  |db D=>
   unfold jh at c;dsimp only at c;by_cases f:xs.length+D.length<=Og
   ·rw[ja f]at c;have G:=g;have ό:=h;obtain⟨p,vs,rfl,A,o⟩:=g;obtain⟨q,P,rfl,B,t⟩:=h;cases vs with
    |nil=>
     have n:xs=[]:=by have:=o.length;simpa using this
     subst n;cases m;cases k;obtain⟨L,M,N,_⟩:=L2.Xa.tuple I (dh.of A);obtain⟨C,S,ϋ,_⟩:=L2.Xa.tuple I (dh.of B);cases M;exact R4 N ϋ ⟨ϖ q,H,I,rfl,Pb.here c r ⋯⟩
    |cons v0 ϊ=>
     refine Ö d s st H _ _ z w Q I m k ⟨p,q,_,P,rfl,rfl,dh.of A,dh.of B,by simp,?_,λe=>?_,λe l F=>?_⟩
     ·rw[<-o.length,<-t.length];exact eB f
     ·subst e;have n:D=[]:=by have:=t.length;simpa using this
      subst n;exact Pb.here c r ⋯
     ·exact zN c r (pb.append o t) F
   ·rw[pa f]at c;exact c.elim
  |_=>trivial
 |_=>exact CY I m k r g h c
noncomputable def DO(a:D->D->M D)(c:M D)(y:D):D->M D:=Ly$ xj (Kc c$ a y)$ ret$ ϒ J8
def wL(o a:D->D->M D)(c:M D)(x y:D):M D:=Kc (o x y)$ DO a c y
def MO(o a:D->D->M D)(b c:M D)(x:D):M D:=Kc b$ wL o a c x
def dU(o e:D->D->M D)(a b c:Ev->M D):Ev->M D:=λd=>Kc (a d)$ MO o e (b d)$ c d
def cZ(Z:wh X (Jb j) r)(hs:ak T r o)(g:wh X (Jb d) L)(i:ak T L ό)(ϊ:FE T X a fa)(V:FE T X b fb)(W:FE T X c fc)
  (Y:lastMarks [j,d] [b,c]=J8:=by with_unfolding_all rfl):FE T X (.Compare a [j,d] [b,c] pos)$ dU o ό fa fb fc:=by
 intro e s st H Q I h;refine zob Z g ϊ V W Y e s st H Q I ?_;obtain⟨μ,q,σ,f,hr,hp⟩:=h;refine⟨μ,q,σ,f,hr,hp.bind λx t l v H1 D E r1 q1 p1=>⟨l,q,t,f.mono E,r1,p1.bind λy A m w ϋ D F r2 K p2=>(hs _ m ϋ A x y v w _ r2 (Na.mono F _ _ q1) K$ p2.bind λz B n u H3 D G N q3 p3=>?_)⟩⟩;obtain⟨k,rfl,S,p4⟩:=vI q3 p3;refine⟨k,S,?_⟩;cases k with
 |true=>
  exact⟨n,q,B,((f.mono E).mono F).mono G,N,p4.bind λz C p u5 P D R r5 q5 p5=>i _ p P C y z w u5 Q r5 (Na.mono R _ _$ Na.mono G _ _ K) q5 p5⟩
 |false=>unfold xj at p4;rw[pa qb]at p4 ⊢;exact Pb.here p4 N (by rw[Na])
def ao(a:Md k A):A.units+9<cLine:=by have:=a.un;lia
end
def kt(K:ϗ)(d:Str->Option Value)(x:Str)(e:Stmt)(c:ab):Prop:=
 ∃ f b,d x=BD (Db f)/\oH K x x e f b/\∀ a:em,a.length=c.length->bindArgs b ⟨a,[]⟩=pure (c.zip a)
def Ei(T:Tb)(P:Ba)(w:Ra)(d:Str->Option Value)(a:Heap)(k:Nat)(x:Str)(ps:ab)(e:lv->M D):Prop:=
 ∃ f c,d x=BD (Db f)/\Ϻ T.K (Db f)=E8/\(∀ b:em,b.length=ps.length->bindArgs c ⟨b,[]⟩=pure (ps.zip b))/\gh P w T.K d a (Kk P w) k f c ps (Ro T ps.length e)
section
def Ps(h:Ei T X.prog X.w X.mg X.base k x ps g)(m:T.K=X.K)(t:Md k X.A)(r:Gl X x)
  (n:FA T X (e::a) i) (c:(x == ("__debug__" : Str))=J8:=by decide) (q:wa (e::a) X.env=(J8,Qb e X.env)::wa a X.env:=by rfl) (d:(Dc b$ wa a X.env).any (·.1)=J8:=by rfl) :
  FE T X (Ϡ (ϝ x p) (e::a) [] b)$ Gf ps.length g [] i:=by
 obtain⟨f,u,s,l,o,j⟩:=h;rw[m]at l j;exact cN j t r s l (.all o) Ϟ (λv v=>pb.nil) n c q d
variable{P:Ba}{w:Ra}{K:ϗ}{mg:Str->Option Value}{base:Heap}{ca:Nat->Addr}{tx:Tx}
def mC{st}(h:kt K mg x st ps)(S:Ec N ps$ Kf st)
  (i:∀ f a A b s H E,Md k (A.deeper$ rg x (Kf st) s.heap.objs.size f a)->Ek ⟨K,ca,tx⟩ (vp (Kk P w) P w K mg base N x (Kf st) f a A b s H E) (Nj st) g) :
  Ei ⟨K,ca,tx⟩ P w mg base (k+1) x ps$ Ch N.length g:=by
 obtain⟨f,n,j,F,c⟩:=h;obtain⟨o,p,kV,e,q,m,a,ct,l,rfl,lk,d⟩:=F.ex;exact⟨f,_,j,F.kp,c,GC lk d S$ i f a⟩
def Ei.Uc{k}{x}{ps}{a}(h:Ei T P w mg base k x ps a):Ei T P w mg base k x ps (λb=>L4.Uc$ a b):=by
 obtain⟨f,c,d,e,g,i⟩:=h;exact⟨f,c,d,e,g,uM i⟩
def iM{st}{kV d g b ct}(X:K.In h)(G:h.Ns mainGlobals mg)
  (m:∀ kV d g e b ct j,j.length=ps.length->bindArgs (Ϯ x x (xl st) (Nj st) (Kf st) Fc kV d g e b ct) ⟨j,[]⟩=pure (ps.zip j))
  (a:W.nsIn K mainGlobals x=BD (BD$ Db f)) (l:K.lookup f=BD ⟨n,o,.func$ Ϯ x x (xl st) (Nj st) (Kf st) Fc kV d g e b ct,i⟩)
  (c:ϻ K b x=E8) (k:Ϻ K (Db f)=E8):kt K mg x st ps:=
 ⟨f,_,W.mg_of X G a,GS l c k,m kV d g e b ct⟩
def mkI(X:K.In h)(G:h.Ns mainGlobals mg)(a:W.nsIn K mainGlobals x=BD (BD$ Jh i t)):∃ t,mg x=BD (Jh i t):=⟨t,W.mg_of X G a⟩
end
def jO(T:Tb)(P:Ba)(w:Ra)(d:Str->Option Value)(k:Nat)(x:Str)(ps:ab)(e:lv->M D):Prop:=
 ∃ f c,d x=BD (Db f)/\(∀ b:em,b.length=ps.length->bindArgs c ⟨b,[]⟩=pure (ps.zip b))/\∀ a:Heap,gh P w T.K d a (Kk P w) k f c ps (Ro T ps.length e)
def ħ{K}{st}(h:kt K i x st ps)(S:Ec N ps$ Kf st)
  (m:∀ a f b A c s H E,Md k (A.deeper$ rg x (Kf st) s.heap.objs.size f b)->Ek ⟨K,j,tx⟩ (vp (Kk P w) P w K i a N x (Kf st) f b A c s H E) (Nj st) g) :
  jO ⟨K,j,tx⟩ P w i (k+1) x ps$ Ch N.length g:=by
 obtain⟨f,q,n,F,d⟩:=h;obtain⟨r,t,kV,l,u,p,b,ct,o,rfl,lk,e⟩:=F.ex;exact⟨f,_,n,d,λa=>GC lk e S$ m a f b⟩
structure Hd where
 t:Nat->Option Bool
 nm:Option Nat
 g:Ev->M Fl
noncomputable def eX(i:Nat):Fl->M Fl
 | Ϙ a=>ret (Ϙ$ a.set i A5)
 | .rt d=>ret (.rt d)
 | .bk a=>ret (.bk$ a.set i A5)
 | .ct a=>ret (.ct$ a.set i A5)
 | .xc _ _=>Ab
noncomputable def uS:Fl->M Fl
 | Ϙ a=>ret (Ϙ a)
 | .rt d=>ret (.rt d)
 | .bk a=>ret (.bk a)
 | .ct a=>ret (.ct a)
 | .xc _ _=>Ab
def hit(h:Hd)(a:Ev)(x:Xn):M Fl:=match h.nm with
 |none=>Kc (h.g a) uS
 |some i=>Kc (h.g$ a.set i$ BD$ .Ys x.cls) (eX i)
def lC(a:Ev)(x:Xn):List Hd->M Fl
 |[]=>Ab
 |h::r=>match h.t x.cls with
  |some E8=>hit h a x
  |some J8=>lC a x r
  |none=>Ab
def aK(b:List Hd):Fl->M Fl
 | .xc a x=>lC a x b
 | Ϙ a=>ret (Ϙ a)
 | .rt d=>ret (.rt d)
 | .bk a=>ret (.bk a)
 | .ct a=>ret (.ct a)
def mI(g:Ev->M Fl)(a:List Hd):Ev->M Fl:=λb=>Kc (g b)$ aK a
noncomputable abbrev Cx.Zv(X:Cx)(e:Value):Cx:={ X with A:=X.A.mark (BD e),de:=J8,xe:=λa a=>False }
noncomputable abbrev Cx.zI(X:Cx)(a:List$ Addr × Obj)(xe:Value->Shared->Prop):Cx:={ X with xe:=xe,pn:=X.pn++a }
section
variable{pins:List$ Addr × Obj}{st:St}{H:Hp}{s:Shared}{e:Value}{xe:Value->Shared->Prop}
def Y6(I:Xa X pins st H s):Xa (Cx.zI X pins xe) [] st H s:=
 ⟨⟨I.ok.mod,I.ok.kind,I.ok.glob,I.ok.blt,I.ok.above,I.ok.inj,I.ok.has,I.ok.ID,I.ok.hd,I.ok.frames,I.ok.Np,I.ok.YE,I.ok.bs,I.ok.Au,I.ok.Os,I.ok.Ls,I.ok.Yj,I.ok.Sy⟩,I.os,I.bare,I.base,I.loc,I.cell,I.free,I.bg,λp a=>I.pin p ⋯,I.Cc,I.len⟩
def jG(I:Xa (Cx.zI X pins xe) b st H s):Xa X pins st H s:=
 ⟨⟨I.ok.mod,I.ok.kind,I.ok.glob,I.ok.blt,I.ok.above,I.ok.inj,I.ok.has,I.ok.ID,I.ok.hd,I.ok.frames,I.ok.Np,I.ok.YE,I.ok.bs,I.ok.Au,I.ok.Os,I.ok.Ls,I.ok.Yj,I.ok.Sy⟩,I.os,I.bare,I.base,I.loc,I.cell,I.free,I.bg,λp a=>I.pin p$ Ya _ a,I.Cc,I.len⟩
def JA(I:Xa X pins st H s):Xa (Cx.Zv X e) pins st H s:=
 ⟨⟨I.ok.mod,I.ok.kind,I.ok.glob,I.ok.blt,I.ok.above,I.ok.inj,I.ok.has,I.ok.ID,λz=>(by cases z),I.ok.frames,I.ok.Np,I.ok.YE,I.ok.bs,I.ok.Au,I.ok.Os,I.ok.Ls,I.ok.Yj,I.ok.Sy⟩,I.os,I.bare,I.base,I.loc,I.cell,I.free,I.bg,I.pin,I.Cc,I.len⟩
def cF(ok:X.Ok)(I:Xa (Cx.Zv X e) pins st H s):Xa X pins st H s:=
 ⟨ok,I.os,I.bare,I.base,I.loc,I.cell,I.free,I.bg,I.pin,I.Cc,I.len⟩
def zze{D}(h:SP (Cx.zI X pins xe) [] D f c):SP X pins D f c:=by
 cases f with
 |next=>obtain⟨a,b,I,q⟩:=h;exact⟨a,b,jG I,q⟩
 |brk=>obtain⟨a,b,I,q⟩:=h;exact⟨a,b,jG I,q⟩
 |cont=>obtain⟨a,b,I,q⟩:=h;exact⟨a,b,jG I,q⟩
 |ret u=>obtain⟨v,a,b,I,r,q⟩:=h;exact⟨v,a,b,jG I,r,q⟩
def ZQ(ok:X.Ok){D}(h:SP (Cx.Zv X e) pins D f c):SP X pins D f c:=by
 cases f with
 |next=>obtain⟨a,b,I,q⟩:=h;exact⟨a,b,cF ok I,q⟩
 |brk=>obtain⟨a,b,I,q⟩:=h;exact⟨a,b,cF ok I,q⟩
 |cont=>obtain⟨a,b,I,q⟩:=h;exact⟨a,b,cF ok I,q⟩
 |ret u=>obtain⟨v,a,b,I,r,q⟩:=h;exact⟨v,a,b,cF ok I,r,q⟩
end
def Rq(X:Cx)(a:List$ Addr × Obj)(f:St)(H:Hp)(s:Shared)(d:Addr)(b:Value)(e:Option Nat):Prop:=∃ c s0,Xa X a f c s0/\WA X.prog X.w X.stack c s0 b e H (Db d) s
section
variable{pins:List$ Addr × Obj}{st:St}{H:Hp}{s:Shared}{ea:Addr}{cls:Value}{fd:Option Nat}
def Rq.inv(L:Rq X pins st H s ea cls fd):Xa X pins st H s:=by
 obtain⟨a,s0,I,F⟩:=L;exact L2.Xa.Ou I F.os F.un F.Cc F.bare λb z=>absurd z ⋯
set_option tactic.hygienic true in
def Rq.next(L:Rq X pins st H s ea cls fd){M}(h:∀ l,Rq X pins st H l ea cls fd->Q () l):wpAny M A (Go (Db ea) A5) Q E s:=by
 obtain⟨m,s0,I,F⟩:=L;obtain⟨p,n,B,e,g,r,b,k,j,i,q⟩:=F.ex;cases e;refine jP g λu a f c=>h _ ?_;obtain⟨t,d⟩:=fJ F j k i g.1 a.1 f (cH I);exact⟨m,s0,I,⟨ea,n,B,rfl,a,r,b,k,j,i,q.next c (let ⟨o,e,_⟩:=a.there;⟨o,e⟩)⟩,F.os,F.bare,t,d⟩
def Rq.obj(L:Rq X pins st H s ea cls fd):H ea=A5/\(∃ o,s.heap.get? ea=BD o/\o.cls=cls)/\∃ s0:Shared,s0.heap.get? ea=A5/\∃ b,Xa X pins st b s0:=by
 obtain⟨b,s0,I,F⟩:=L;obtain⟨c,g,B,e,d,f,a,k,i,h,j⟩:=F.ex;cases e;exact⟨f,d.there,s0,a,b,I⟩
def dL(I:Xa X pins st H s)(h:Xa X pins st B s0)(d:s0.heap.get? a=A5)(D:H a=A5)(E:s.heap.get? a=BD o)(r:k s.heap)
  (F:∀ t w:Heap,k t->(∀ u,t.get? a=BD u->w.get? a=BD u)->k w):Xa X pins st (Sb H a$ Ϧ k) s:=by
 have j:∀ b u,s0.heap.get? b=BD u->b≠a:=λb u e z=>by rw[z,d]at e;cases e
 have g:∀ b u,H b=BD u->b≠a:=λb u e z=>by rw[z,D]at e;cases e
 have G:∀ b u,X.s₀.heap.get? b=BD u->b ∉ X.ex->b≠a:=λb u e i=>by obtain⟨N,C⟩:=h.base.there b u e i;exact j b N C
 refine⟨I.ok,I.os,I.bare,⟨I.base.keep,I.base.slot,λb u e n i=>?_,I.base.there,λb xs e=>?_,λb ό u e=>?_,λb ps e=>?_⟩,I.loc,I.cell,?_,λx c e=>?_,λp A=>?_,λb u e=>?_,I.len⟩
 ·rw[ud$ G b u e i];exact I.base.free b u e n i
 ·have q:=I.base.Uj b xs e;rw[ud$ g b _ q];exact q
 ·have q:=I.base.Ji b ό u e;rw[ud$ g b _ q];exact q
 ·obtain⟨f,q⟩:=I.base.wj b ps e;exact⟨f,by rw[ud$ g b _ q];exact q⟩
 ·obtain⟨m,⟨u,_,_,l,_⟩,_⟩:=h.loc;rw[ud$ j _ u l];exact I.free
 ·obtain⟨v,u,l,_⟩:=h.cell x c e;rw[ud$ j _ u l];exact I.bg x c e
 ·obtain⟨K,L,M⟩:=I.pin p A;refine⟨K,?_,M⟩;rw[ud$ j _ _ (h.pin p A).1];exact L
 ·by_cases y:b=a
  ·subst y;rw[bf]at e;cases e;exact⟨r,⟨o,E⟩,F⟩
  ·rw[ud y]at e;exact(I.Cc b u e).Aj (λc v J q=>q) (λc q=>by rw[ud$ g c _ q];exact q) λc xs q=>by rw[ud$ g c _ q];exact q
def ZS:∀ b c:Heap,VH C d a b->(∀ u,b.get? a=BD u->c.get? a=BD u)->VH C d a c:=λb c ⟨u,e,q⟩ k=>⟨u,k u e,q⟩
def p7:∀ b c:Heap,SG a n b->(∀ u,b.get? a=BD u->c.get? a=BD u)->SG a n c:=λb c ⟨u,d,q⟩ k=>⟨u,k u d,q⟩
def Rq.sF(L:Rq X pins st H s ea (Db C) fd):∃ v g,Xa X pins st g s/\g ea=BD (Ϧ$ VH C v ea)/\(∀ n,fd=BD n->∃ a,v=BD a/\H a=A5/\g a=BD (Ϧ$ SG a n))/\(∀ b u,H b=BD u->g b=BD u)/\∀ b u,g b=BD u->H b=BD u\/H b=A5:=by
 have I:=L.inv;obtain⟨N,s0,p,F⟩:=L;obtain⟨D,ϋ,B,e,k,d,c,R,Q,P,E⟩:=F.ex;cases e;obtain⟨o,f,w⟩:=k.there;cases r:fd with
 |none=>
  refine⟨A5,_,(dL I p c d f ⟨o,f,w,λm z=>by cases z⟩ ZS),bf,(λn q=>by cases q),λb u e=>?_,λb u e=>?_⟩
  ·rw[ud (λz=>by rw[z,d]at e;cases e)];exact e
  ·by_cases h:b=ea
   ·rw[h];exact ϓ d
   ·rw[ud h]at e;exact ϐ e
 |some n=>
  obtain⟨a,oD,y,A,G,ό,K,l,M⟩:=E n r;have t:y=o:=by rw[f]at A;cases A;rfl
  subst t;have i:=k.1 a oD ό;have j:a≠ea:=λz=>by
   have:=k.2.1
   simp_all
  refine⟨BD a,_,(dL (dL I p c d f ⟨y,f,w,λm z=>by cases z;exact⟨G,k.rM f⟩⟩ ZS) p M (by rw[ud j];exact l) i ⟨oD,i,K⟩ p7),by rw[ud$ Gd j];exact bf,λm q=>?_,λb u e=>?_,λb u e=>?_⟩
  ·cases q;exact⟨a,rfl,l,bf⟩
  ·rw[ud (λz=>by rw[z,l]at e;cases e),ud (λz=>by rw[z,d]at e;cases e)];exact e
  ·by_cases x:b=a
   ·rw[x];exact ϓ l
   ·rw[ud x]at e;by_cases h:b=ea
    ·rw[h];exact ϓ d
    ·rw[ud h]at e;exact ϐ e
set_option tactic.hygienic true in
def Z5(I:Xa X pins st H s)(m:X.stack=X.env::X.outer)(C:X.env.frame=BD X.env.locals)(F:WA X.prog X.w X.stack H s cls fd r e n){M}{Q:Value->Shared->Prop}
  (h:∀ ea d,e=Db ea->Rq X pins st r d ea cls fd->Q e d):wpAny M X.A (yh e X.env) (λ_ s2=>wpAny M X.A (Go e A5) (λ_ G=>Q e G) E s2) E n:=by
 obtain⟨ea,f,B,rfl,t,D,c,x,v,u,z⟩:=F.ex;have j:xn B (X.env::X.outer) ea cls f n.heap:=by rw[<-m];exact t
 refine KY (by rw[<-m];exact I.ok.frames) C j λK b p g=>(jP (VR b) λy k q i=>h ea _ rfl ?_)
 have a:xn B X.stack ea cls f y:=by rw[m];exact k
 obtain⟨ό,l⟩:=fJ F v x u t.1 a.1 (p.trans q) (cH I);exact⟨H,s,I,⟨ea,f,B,rfl,a,D,c,x,v,u,z.next (g.trans i) (let ⟨o,e,_⟩:=a.there;⟨o,e⟩)⟩,F.os,F.bare,ό,l⟩
end
def xn.keep(x:xn B l e a i h)(k:∀ b o,h.get? b=BD o->j.get? b=BD o):xn B l e a i j:=by
 obtain⟨m,n,p,r⟩:=x;refine⟨λb o q=>k b o$ m b o q,n,p.of_keeps λb o q E=>⟨o,k b o q,rfl⟩,?_⟩;rcases r with⟨s,g,D,T,A,C,d,w,y,t,z,f,v,c,u⟩|⟨g,vs,d,q⟩
 ·exact ϐ ⟨s,g,D,T,A,C,k _ _ d,w,y,t,z,f,k _ _ v,c,u⟩
 ·exact ϓ ⟨g,vs,k _ _ d,q⟩
def Rq.keep{st}(L:Rq X a st H s g c i)(k:∀ b o,s.heap.get? b=BD o->h'.get? b=BD o):Rq X a st H { s with heap:=h' } g c i:=by
 obtain⟨r,s0,I,F⟩:=L;obtain⟨v,t,B,e,j,x,f,p,m,l,w⟩:=F.ex;cases e;have d:=j.keep k;obtain⟨C,h⟩:=fJ F m p l j.1 d.1 (TD k) (cH I);exact⟨r,s0,I,⟨g,t,B,rfl,d,x,f,p,m,l,λn q=>let ⟨u,oD,y,z,A⟩:=w n q;⟨u,oD,y,k _ _ z,A⟩⟩,F.os,F.bare,C,h⟩
def oE(X:Cx)(x:Str)(a:Value):Prop:=X.mg x=BD a\/(X.mg x=A5/\bootBuiltins x=BD a/\x ≠ "__name__")
inductive ay(T:Tb)(X:Cx):List Ve->List Hd->Prop where
 |nil {r:List Ve}:ay T X r []
 |cons {x:Str} {np pos:Td} {cv:Value} {b₀:Stmt} {suite:List Stmt} {t:Nat->Option Bool} {g:Ev->M Fl} {r:List Ve} {hs:List Hd} (hg:Gl X x) (hd:(x == ("__debug__" : Str))=J8) (hm:oE X x cv) (ht:∀ c b,t c=BD b->W.exmOne X.K (Db (T.ca c)) cv=BD b)
   (hb:∀ e,Ek T (Cx.Zv X e) (b₀::suite) g) (hr:ay T X r hs):ay T X (.ExceptHandler (BD (ϝ x np)) A5 (b₀::suite) pos::r) (⟨t,A5,g⟩::hs)
 |rF {x y:Str} {np nq tp pos:Td} {k:Nat} {cv cw:Value} {b₀:Stmt} {suite:List Stmt} {t:Nat->Option Bool} {g:Ev->M Fl} {r:List Ve} {hs:List Hd} (hg:Gl X x) (hd:(x == ("__debug__" : Str))=J8) (hm:oE X x cv) (hg':Gl X y) (hd':(y == ("__debug__" : Str))=J8) (hm':oE X y cw) (ht:∀ c b,t c=BD b->W.exmAny X.K (Db (T.ca c)) [cv,cw]=BD b)
   (hb:∀ e,Ek T (Cx.Zv X e) (b₀::suite) g) (hr:ay T X r hs):ay T X (.ExceptHandler (BD (ϱ [ϝ x np,ϝ y nq] k tp)) A5 (b₀::suite) pos::r) (⟨t,A5,g⟩::hs)
 |CA {x n:Str} {i:Nat} {np pos:Td} {cv:Value} {b₀:Stmt} {suite:List Stmt} {t:Nat->Option Bool} {g:Ev->M Fl} {r:List Ve} {hs:List Hd} (hg:Gl X x) (hd:(x == ("__debug__" : Str))=J8) (hm:oE X x cv) (ht:∀ c b,t c=BD b->W.exmOne X.K (Db (T.ca c)) cv=BD b)
   (hN:X.N.Nodup) (hi:X.N[i]?=BD n) (hl:X.env.scope.names.lookup n=BD .local)
   (hb:∀ e,Ek T (Cx.Zv X e) (b₀::suite) g) (hr:ay T X r hs):ay T X (.ExceptHandler (BD (ϝ x np)) (BD n) (b₀::suite) pos::r) (⟨t,BD i,g⟩::hs)
def kH{st}(I:Xa X b st H s)(f:Gl X x)(e:(x == ("__debug__" : Str))=J8)(a:oE X x d)(h:Q d s):wpAny (model X.prog X.w) X.A (Qb (ϝ x c) X.env) Q E s:=by
 rcases a with a|⟨a,i,g⟩
 ·exact JE I f a h e
 ·exact Ny I f a i h g e
def mZ{D}(b:Pb T EN (No T) j H (o.bind uS)$ Rp X D):Pb T EN (No T) j H o$ Rp (Cx.Zv X e) D:=by
 cases o with
 |Ab=>exact b
 |ex x σ=>exact b
 |ok k σ=>
  intro a g d f h c;cases k with
  |nx i=>cases g with
   |nx st=>exact b a _ d f h c
   |_=>exact c.elim
  |rt i=>cases g with
   |rt st=>exact b a _ d f h c
   |_=>exact c.elim
  |bk i=>cases g with
   |bk st=>exact b a _ d f h c
   |_=>trivial
  |ct i=>cases g with
   |ct st=>exact b a _ d f h c
   |_=>trivial
  |xc i x=>trivial
def gL{st}(h:eh T b H c st) i:eh T b H (c.set i A5)$ st.set i A5:=by
 refine⟨by simpa using h.1,λj d q=>?_⟩;rw[ie]at q;by_cases a:i=j
 ·subst a;rw[ja rfl]at q;split at q<;>cases q
 ·rw[pa a]at q;obtain⟨v,e,f⟩:=h.2 j d q
  simp_all
def t9{D}(b:Pb T EN (No T) k H (o.bind$ eX i)$ Rp X D):Pb T EN (No T) k H o$ Rp (Cx.Zv X e) ⟨λst H=>D.nx (st.set i A5) H,D.rt,λst H=>D.bk (st.set i A5) H,λst H=>D.ct (st.set i A5) H⟩:=by
 cases o with
 |Ab=>exact b
 |ex x σ=>exact b
 |ok l σ=>
  intro a g d f h c;cases l with
  |nx j=>cases g with
   |nx st=>exact b a (ϸ _) d f h$ gL c i
   |_=>exact c.elim
  |rt j=>cases g with
   |rt st=>exact b a _ d f h c
   |_=>trivial
  |bk j=>cases g with
   |bk st=>exact b a (.bk _) d f h$ gL c i
   |_=>trivial
  |ct j=>cases g with
   |ct st=>exact b a (.ct _) d f h$ gL c i
   |_=>trivial
  |xc j x=>trivial
def W8{st}(I:Xa X a st H s)(M:X.N.Nodup)(Q:X.N[i]?=BD n)(hl:X.env.scope.names.lookup n=BD .local)(S:s.heap.Ns X.env.locals m)(C:h'.Ns X.env.locals λy=>if y=n then w else m y)(d:Rc X.env.locals s.heap h'):Xa X a (st.set i A5) H { s with heap:=h',toks:=t }:=by
 have f:∀ b o,X.s₀.heap.get? b=BD o->b≠X.env.locals:=λb o e=>Aa$ La (xa e) I.ok.above;obtain⟨m0,B,h⟩:=I.loc;have ό:m0=m:=by
  obtain⟨o,es,ep,ho,hd,hk,hf⟩:=B;obtain⟨E,L,K,T,ϋ,R,P⟩:=S;funext y
  simp_all
 subst ό;refine⟨I.ok,I.os,I.bare,⟨λb o e n x l=>(d.2 b$ f b o e).trans$ I.base.keep b o e n x l,λb o e n x l=>?_,I.base.free,λb o e l=>?_,I.base.Uj,I.base.Ji,I.base.wj⟩,⟨_,C,λj y v D g G=>?_⟩,λy c e=>?_,I.free,I.bg,λp ϊ=>?_,nW I.Cc λb o u e q=>?_,by simpa using I.len⟩
 ·obtain⟨sl,q⟩:=I.base.slot b o e n x l;exact⟨sl,(d.2 b$ f b o e).trans q⟩
 ·obtain⟨E,q⟩:=I.base.there b o e l;exact⟨E,(d.2 b$ f b o e).trans q⟩
 ·rw[ie]at g;by_cases A:i=j
  ·subst A;rw[ja rfl]at g;split at g<;>cases g
  ·rw[pa A]at g;obtain⟨u,r,lk⟩:=h j y v D g G;refine⟨u,r,?_⟩;have V:y≠n:=λz=>A$ AM M Q$ z ▸ D;rcases lk with⟨k,q⟩|⟨k,c,q,z⟩
   ·exact ϐ ⟨k,by show (if y=n then w else m0 y)=BD u;rw[pa V];exact q⟩
   ·exact ϓ ⟨k,c,q,z.sameBut d$ I.UE y c q⟩
 ·obtain⟨v,z⟩:=I.cell y c e;exact⟨v,z.sameBut d$ I.UE y c e⟩
 ·obtain⟨W,Y,F,Z⟩:=I.pin p ϊ;exact⟨(d.2 p.1 F).trans W,Y,F,Z⟩
 ·exact(d.2 b λz=>by rw[z,I.free]at e;cases e).trans q
set_option tactic.hygienic true in
def A9{D}{st}{K}(h:ay T X a0 hs)(hE:eh T K H ρ st)(hr:Yc T K H σ)(d:Pb T EN (No T) K H (lC ρ x hs σ)$ Rp X D) :
  ∀ s,Rq X c st H s l (T.cv x) (eJ x.cls)->wpAny (model X.prog X.w) X.A (handleBy (Db l) X.env a0) (SP X c D) X.xe s:=by
 induction h with
 |nil=>exact d.elim
 |@cons y np pos cv ϋ F t g r hs hg hd hm ht hb C ih=>
  intro s L;have I:=L.inv;obtain⟨_,⟨o,ho,hc⟩,_⟩:=L.obj;refine nl (Hj$ kH (JA I) hg hd hm ?_) (by intro q;cases q);unfold lC at d;dsimp only at d;cases B:t x.cls with
  |none=>rw[B]at d;exact d.elim
  |some b=>
   rw[B]at d;have Y:W.Looks (model X.prog X.w) s.heap (Eo$ Db l)$ T.cv x:=by rw[<-hc];exact(W.Looks.ld ho).andThen .now
   refine(W.exm_one I.Ki Y$ ht x.cls b B).here ?_;cases b with
   |false=>exact ih d s L
   |true=>
    exact Nv (L.next λs' ϊ=>(gc (hb (Db l) c s' st H D (JA ϊ.inv) ⟨K,ρ,σ,hE,hr,mZ d⟩) (λf s2 q=>ZQ I.ok q) λ_ _ z=>z.elim))
 |@rF y z np nq tp pos k cv cw ϋ F t g r hs hg hd hm a6 a3 a7 ht hb C ih=>
  intro s L;have I:=L.inv;obtain⟨_,⟨o,ho,hc⟩,_⟩:=L.obj;refine nl (Hj$ wpAny_Tuple$ rG$ kH (JA I) hg hd hm$ rG$ kH (JA I) a6 a3 a7$ wpAny_items_nil ⟨by size_fits,?_⟩) (by intro q;cases q);unfold lC at d;dsimp only at d;have kp:∀ q o,s.heap.get? q=BD o->(s.heap.push { cls:=Vh "tuple",data:=Ϩ [cv,cw].toArray }).get? q=BD o:=λ_ _ z=>da _ z;cases B:t x.cls with
  |none=>rw[B]at d;exact d.elim
  |some b=>
   rw[B]at d;have Y:W.Looks (model X.prog X.w) s.heap (Eo$ Db l)$ T.cv x:=by rw[<-hc];exact(W.Looks.ld ho).andThen .now
   refine(W.exm_tup2 (I.Ki.keeps kp) (Y.keeps kp) (Ca s.heap rfl)$ ht x.cls b B).here ?_;cases b with
   |false=>exact ih d _$ L.keep kp
   |true=>
    refine Nv ((L.keep kp).next λs' ϊ=>?_);exact gc (hb (Db l) c s' st H D (JA ϊ.inv) ⟨K,ρ,σ,hE,hr,mZ d⟩) (λf s2 q=>ZQ I.ok q) λ_ _ z=>z.elim
 |@CA y n i np pos cv ϋ F t g r hs hg hd hm ht hN hi hl hb C ih=>
  intro s L;have I:=L.inv;obtain⟨_,⟨o,ho,hc⟩,_⟩:=L.obj;refine nl (Hj$ kH (JA I) hg hd hm ?_) (by intro q;cases q);unfold lC at d;dsimp only at d;cases B:t x.cls with
  |none=>rw[B]at d;exact d.elim
  |some b=>
   rw[B]at d;have Y:W.Looks (model X.prog X.w) s.heap (Eo$ Db l)$ T.cv x:=by rw[<-hc];exact(W.Looks.ld ho).andThen .now
   refine(W.exm_one I.Ki Y$ ht x.cls b B).here ?_;cases b with
   |false=>exact ih d s L
   |true=>
    refine codeAny_handlers_suite_as (L.next λs' ϊ=>?_);obtain⟨dd,H1,I1,a5,a4,G,b1⟩:=Rq.sF ϊ;have E:∀ b,b∈K->∃ u,H b=BD u:=λb z=>by obtain⟨u,M,_⟩:=hr.mem z;exact⟨u,M⟩
    have R:qd K H K H1:=⟨⟨[],by simp⟩,λp xs e=>G _ _ e,λp o u e=>G _ _ e,λp o e n=>⟨⟨o,G _ _ e,ϐ rfl⟩,n⟩⟩
    have a9:l ∉ K:=λz=>by obtain⟨u,M⟩:=E _ z;rw[ϊ.obj.1]at M;cases M
    have rp:Na T K H1 (.Ys x.cls)$ ϖ l:=by
     refine⟨l,dd,rfl,a9,a5,λn q=>?_⟩;obtain⟨dN,z1,z2,z3⟩:=a4 n q;exact⟨dN,z1,λz=>(by obtain⟨u,M⟩:=E _ z;rw[z2]at M;cases M),z3⟩
    refine lJ (X:=Cx.Zv X$ Db l) (v:=ϖ l) (JA I1) hN hi (ϐ hl) rfl (λs2 I2=>?_)$ ϓ hl;refine gc (hb (Db l) c s2 _ _ _ I2 ⟨K,ρ.set i$ BD$ .Ys x.cls,σ,(hE.mono R).set i rp,hr.keep R (λa ha=>by obtain⟨u,M⟩:=E a ha;rw[G _ _ M,M])$ hr.tb.grow G,t9$ Pb.mono R d⟩) (λf s3 q=>?_) λ_ _ z=>z.elim;have Z:(X.env.scope.kind == .class || (X.env.scope.kind == .module && X.env.locals != X.env.globals))=J8:=by rw[I.ok.kind];rfl
    have go:∀ {j:St} {P:Hp},Xa (Cx.Zv X$ Db l) c j P s3->(∀ V,Xa X c (j.set i A5) P V->SP X c D f V)->wpAny (model X.prog X.w) X.A (do bindName X.env n Fc;unbindBehindTheSuite X.env n pos) (λ_ a2=>SP X c D f a2) X.xe s3:=fun {j P} N k=>by
     have ό:=cF I.ok N;obtain⟨m,a1,_⟩:=id ό.loc;exact wpAny_nameGoes_keeps hl a1 Z λh4 v4 a8 b0=>k _$ W8 ό hN hi hl a1 a8 b0
    cases f with
    |next=>obtain⟨j,P,N,S⟩:=q;exact go N λV Q=>⟨_,_,Q,S⟩
    |brk=>obtain⟨j,P,N,S⟩:=q;exact go N λV Q=>⟨_,_,Q,S⟩
    |cont=>obtain⟨j,P,N,S⟩:=q;exact go N λV Q=>⟨_,_,Q,S⟩
    |ret u=>obtain⟨v,j,P,N,r3,S⟩:=q;exact go N λV Q=>⟨v,_,_,Q,r3,S⟩
def MY{K}(B:X.stack=X.env::X.outer)(Y:X.env.frame=BD X.env.locals)
  (W:∀ b N,Co (model X.prog X.w) X.A X.env N->Ek T (Cx.zI X b N) d g) (Z:ay T X (h::l) K):FS T X (.Try d (h::l) [] [] C)$ mI g K:=by
 rintro b s o H D I ⟨ϋ,j,G,V,hr,hp⟩;refine wpAny_Try_except (gc (W b _ zaD [] s o H D (Y6 I)
  ⟨ϋ,j,G,V,hr,?_⟩) (λf s1 q=>?_) λJ J z=>z)
 ·have a:Pb T EN _ ϋ H ((g j G).bind _) _:=hp;cases v:g j G with
  |Ab=>rw[v]at a;exact a
  |ex x ό=>rw[v]at a;exact a
  |ok ϊ ό=>
   rw[v]at a;intro c k r R n i;have m:=a.mono R;cases ϊ with
   |nx j=>cases k with
    |nx o=>exact m c _ r (ϭ _ _) n i
    |_=>exact i.elim
   |rt j=>cases k with
    |rt o=>exact m c _ r (ϭ _ _) n i
    |_=>exact i.elim
   |bk j=>cases k with
    |bk o=>exact m c _ r (ϭ _ _) n i
    |_=>trivial
   |ct j=>cases k with
    |ct o=>exact m c _ r (ϭ _ _) n i
    |_=>trivial
   |xc a1 x=>cases k with
    |xc a0 cls fd=>
     obtain⟨y,rfl,rfl⟩:=i;exact⟨λp0 H0 s0 e s' P F=>(Z5 (jG P) B Y F (Q:=λe p=>wpAny _ X.A _ _ X.xe p) λea E S L=>by subst S;exact A9 Z y n m E L)⟩
    |_=>trivial
 ·have t:=zze q;cases f with
  |next=>exact nj t
  |brk=>exact t
  |cont=>exact t
  |ret u=>exact t
set_option tactic.hygienic true in
def zs9(h:FS T X r$ Xe i f):FS T X r$ Xe i$ Di f:=by
 rintro p s st H D I ⟨t,y,c,F,u,Q⟩;refine h p s st H D I ⟨t,y,c,F,u,?_⟩;have a:Pb T EN _ t H (xs y (Uc _) _ c) _:=Q;show Pb T EN _ t H (xs y _ _ c) _;unfold xs Uc at a;unfold xs;cases e:f y c with
 |Ab=>rw[e]at a;exact a
 |ex x g=>
  rw[e]at a;unfold Yf at a;dsimp only at a ⊢;by_cases k:g.take c.length=c
  ·rw[ja k]at a;intro L C z m w q;cases C with
   |xc ό S P=>
    obtain⟨G,A⟩:=Yc.down u w m k;obtain⟨ϋ,R⟩:=q;refine a t _ z A G ⟨⟨ϋ.1,λj d b=>?_⟩,R⟩;obtain⟨v,n,o⟩:=ϋ.2 j d b;obtain⟨K,_,E⟩:=F.2 j d b;exact⟨v,n,Na.down m.pre d K v E o⟩
   |_=>exact q.elim
  ·rw[pa k]at a;exact a.elim
 |ok d g=>
  rw[e]at a;unfold Yf at a;dsimp only at a ⊢;by_cases k:g.take c.length=c
  ·rw[ja k]at a;cases B:fz c.length g 6 d with
   |none=>rw[B]at a;exact a.elim
   |some d'=>
    rw[B]at a;intro L C z m w q;cases C with
    |nx ό=>
     obtain⟨G,A⟩:=Yc.down u w m k;have l:=q;refine a t _ z A G ⟨by simpa using l.1,λj x b=>?_⟩;rw[ie]at b;by_cases N:i=j
     ·subst N;rw[ja rfl]at b;split at b
      ·rename_i ϊ
       cases b;obtain⟨v,n,o⟩:=l.2 i d ⋯;exact⟨v,n,UY m.pre w 6 d d' v (by rw[u.len];exact B) o⟩
      ·cases b
     ·rw[pa N]at b;obtain⟨v,n,o⟩:=l.2 j x ⋯;obtain⟨K,_,E⟩:=F.2 j x b;exact⟨v,n,Na.down m.pre x K v E o⟩
    |_=>exact q.elim
  ·rw[pa k]at a;exact a.elim
noncomputable def GD:lv->Option (List Bool)
 |[]=>BD []
 | ϒ b::r=>(GD r).map (b::·)
 |_::_=>A5
noncomputable def Jp:lv->Option (gV)
 |[]=>BD []
 | U b::r=>(Jp r).map (b::·)
 |_::_=>A5
theorem oY{T:Tb}{g:b'}{H:Hp}:∀ {a:lv} {vs:kv} {bs:List Bool},pb T g H a vs->GD a=BD bs->vs=bs.map Ϫ
 |[],vs,bs,r,h=>by cases h;rw[pb]at r;exact r
 |d::a,vs,bs,r,h=>by
  obtain⟨v,w,rfl,c,f⟩:=r;cases d with
  |bl b=>
   obtain⟨cs,e,rfl⟩:=nb.mp h;rw[Na]at c;subst c;rw[oY f e];rfl
  |_=>cases h
theorem vD{T:Tb}{g:b'}{H:Hp}:∀ {a:lv} {vs:kv} {bs:gV},pb T g H a vs->Jp a=BD bs->vs=bs.map Ϣ
 |[],vs,bs,r,h=>by cases h;rw[pb]at r;exact r
 |d::a,vs,bs,r,h=>by
  obtain⟨v,w,rfl,c,f⟩:=r;cases d with
  |int b=>
   obtain⟨cs,e,rfl⟩:=nb.mp h;rw[Na]at c;subst c;rw[vD f e];rfl
  |_=>cases h
def DH(xs:lv):M D:=λa=>match xs with
 |[x]=>(match (Ui a x).bind GD with
  |some bs=>J (ϒ$ bs.all id) a
  |none=>ϕ)
 |_=>ϕ
def vA(xs:lv):M D:=λa=>match xs with
 |[x]=>(match (Ui a x).bind Jp with
  |some bs=>J (U bs.sum) a
  |none=>ϕ)
 |_=>ϕ
def WV(K:ϗ)(g:List Bool->Bool):kv->Hp->VK->Prop:=λxs H Q=>∃ p bs,xs=[ϖ p]/\(Te K H p (bs.map Ϫ)\/dh K H p (bs.map Ϫ))/\Q (Ϫ$ g bs) H
def iT(K:ϗ):kv->Hp->VK->Prop:=λxs H Q=>∃ (p:Addr) (bs:gV),xs=[ϖ p]/\(Te K H p (bs.map Ϣ)\/dh K H p (bs.map Ϣ))/\Q (Ϣ bs.sum) H
theorem mT:∀ {bs:List Bool} {us:em},ce (bs.map Ϫ) us->us=bs.map Rg
 |[],us,h=>by cases h;rfl
 |b::bs,us,h=>by
  cases h with
  |cons r t=>cases r;rw[mT t];rfl
theorem SW{a:Type}(g:a->Bool)(d:a):∀ (bs:List a),(List.range bs.length).all (λi=>g$ bs.getD i d)=bs.all g
 |[]=>rfl
 |b::bs=>by
  rw[gb,vq,rf,SD,rf];rw[<-SW g d bs];congr 1
def j9(bs:List Bool):TruthOf c w A (λi v=>(bs.map Rg).toArray[i]?=BD v) (λi=>bs.getD i J8):=by
 intro i v s Q E d f;simp only[zi,Ta]at d;cases e:bs[i]? with
 |none=>simp_all
 |some b=>
  rw[e]at d;cases d;have a:Q (bs.getD i J8) s:=f;rw[Ue,e]at a;exact jd a
def EU{s:Shared}{a:Heap}(k:∀ b u,b ∉ [s.heap.objs.size]->(s.heap.push o).get? b=BD u->a.get? b=BD u):∀ b u,s.heap.get? b=BD u->a.get? b=BD u:=λb u e=>
 k b u (λz=>absurd (xa e) ⋯)$ da _ e
def pP{st}(n:X.A.handled=A5)(I:Xa X d st H s)(g:Te X.K H p vs\/dh X.K H p vs)
  (h:∀ a It m St s2,ce vs a->Walks X.prog X.w X.A.in1 It m [It] a.toArray.size (λi v=>a.toArray[i]?=BD v) St->St 0 s2.heap->(∀ b∈m,b<s2.heap.objs.size)->
   (∀ h' l,(∀ b o,b ∉ [It]->s2.heap.get? b=BD o->h'.get? b=BD o)->Xa X d st H { s2 with heap:=h',toks:=l })->Q (Db It) s2):wpAny (model X.prog X.w) X.A.in1 (pyIter$ Db p) Q E s:=by
 rcases g with g|g
 ·obtain⟨a,k,pl,q⟩:=I.list g;have c:p<s.heap.objs.size:=by obtain⟨_,e,_⟩:=pl.isList;exact xa e
  refine Zh pl.isList$ h a s.heap.objs.size [s.heap.objs.size,p] _ _ k (Ij (A:=X.A.in1) n _ p (Aa c) a.toArray) ⟨⟨_,Ca _ rfl,rfl,rfl⟩,pl.isList.push _⟩ (λb f=>?_) (λh' l j=>I.kept$ EU j);rw[Qc];simp at f;rcases f with rfl|rfl
  ·exact Lb _
  ·exact Mb c
 ·obtain⟨a,k,pl,q⟩:=I.tuple g;have c:=pl.lt;refine GB (pl)$ h a s.heap.objs.size [s.heap.objs.size,p] _ _ k (Walks.tuple (A:=X.A.in1) n _ p (Aa c) a.toArray) ⟨⟨_,Ca _ rfl,rfl,rfl⟩,MJ (pl) _⟩ (λb f=>?_) (λh' l j=>I.kept$ EU j);rw[Qc];simp at f;rcases f with rfl|rfl
  ·exact Lb _
  ·exact Mb c
def W4(e:X.de=E8):To X (ϡ "all") (WV X.K λbs=>bs.all id):=by
 rintro a s st H xs n Q I r ⟨p,bs,rfl,g,q⟩;obtain⟨u,rfl,rfl⟩:=vt r;refine call_all_walk (pP (I.ok.hd e) I g λh It l St s2 j W c m d=>?_);have b:=mT j;subst b;refine⟨_,_,_,_,_,_,λi=>bs.getD i J8,rfl,W,c,j9 bs,λh' k f=>⟨Ϫ _,H,d h' k f,?_,q⟩⟩;rw[Ua,Oa];exact Eb Rg$ SW id J8 bs
theorem ZR:∀ (bs:gV) (n:Nat),n<=bs.length->preSum (λi=>bs.getD i 0) n=(bs.take n).sum
 |bs,0,_=>by simp[preSum]
 |bs,n+1,h=>by
  rw[preSum,ZR bs n ⋯,List.take_succ_eq_append_getElem ⋯,List.sum_append];simp[show n<bs.length by lia]
def U2(m:X.de=E8):To X (ϡ "sum")$ iT X.K:=by
 rintro f s st H xs A Q I r ⟨p,bs,rfl,w,q⟩;obtain⟨u,rfl,rfl⟩:=vt r;refine call_sum_walkG (pP (I.ok.hd m) I w λc It z St s2 g W j n l=>⟨_,_,_,_,_,_,λi=>bs.getD i 0,rfl,W,j,n,λi v d=>?_,λh' y t' o=>⟨Ϣ bs.sum,H,l h' y o,⟨t',?_⟩,q⟩⟩)
 ·simp at d;obtain⟨x,a,k⟩:=fG g d;rw[Ta]at a;cases e:bs[i]? with
  |none=>simp_all
  |some b=>
   rw[e]at a;cases a;obtain⟨t,rfl⟩:=k
   simp_all
 ·have h:c.toArray.size=bs.length:=by rw[Ua,<-g.length,Oa]
  rw[h,ZR bs _$ va _,re]
def lL{g:lv->Option b}{bs:b}(h:(Ui c x).bind g=BD bs):∃ a,Ui c x=BD a/\g a=BD bs:=yf.mp h
def X7(i:T.K=X.K):Us T (WV X.K λbs=>bs.all id) DH:=by
 intro E m H k xs vs Q r p h
 match xs with
 |[]=>trivial
 |[x]=>
  obtain⟨v,w,rfl,j,c⟩:=p;rw[pb]at c;subst c;unfold DH at h;cases e:(Ui k x).bind GD with
  |none=>simp only[e]at h;exact h.elim
  |some bs=>
   simp only[e]at h;obtain⟨l,d,f⟩:=lL e;obtain⟨b,vs,rfl,g,a⟩:=mz r j d;rw[i,oY g f]at a;exact⟨b,bs,rfl,a,Pb.here h r (by rw[Na])⟩
 |_::_::_=>exact h.elim
def Ĉ(i:T.K=X.K):Us T (iT X.K) vA:=by
 intro E m H k xs vs Q r p h
 match xs with
 |[]=>trivial
 |[x]=>
  obtain⟨v,w,rfl,j,c⟩:=p;rw[pb]at c;subst c;unfold vA at h;cases e:(Ui k x).bind Jp with
  |none=>simp[e]at h;exact h.elim
  |some bs=>
   simp[e]at h;obtain⟨l,d,f⟩:=lL e;obtain⟨b,vs,rfl,g,a⟩:=mz r j d;rw[i,vD g f]at a;exact⟨b,bs,rfl,a,Pb.here h r (by rw[Na])⟩
 |_::_::_=>trivial
noncomputable def Km(a:gV):gV:=a.foldl QB []
def gM a:Lf (λi=>a.getD i 0) a.length=Km a:=by
 unfold Lf Km;congr 1;apply Nf;intro i;by_cases h:i<a.length<;>simp[h]
def OH(x:D):M D:=λa=>match (jf a x).bind Jp with
 |some ns=>if ns.length<=Og then J (U (Km ns).length) a else ϕ
 |none=>ϕ
def J9(K:ϗ):kv->Hp->VK->Prop:=λxs H Q=>∃ (p:Addr) (ns:gV),xs=[ϖ p]/\Te K H p (ns.map Ϣ)/\ns.length<=Og/\∀ l,H l=A5->Q (ϖ l) (Sb H l (.set (λk=>(Km ns).any (·== k)) (Km ns).length))
def HV(h:n<=Og):n+1<scanBound:=Iv (sy h) ⋯
def ň(i:X.de=E8):To X (Vh "set")$ J9 X.K:=by
 rintro g s n H xs v Q I r ⟨p,f,rfl,l,k,q⟩;obtain⟨u,rfl,rfl⟩:=vt r;obtain⟨a,h,pl,m⟩:=I.list l;have c:a.length=f.length:=by rw[<-h.length,Oa]
 refine call_set_list (I.ok.hd i) pl.isList (zK h) (by rw[Ua,c];exact HV k) λh' t d j=>?_;rw[show a.toArray.size=f.length by rw[Ua,c],gM]at d;refine⟨ϖ s.heap.objs.size,_,I.laid (λb o e=>j b o (xa e) e) (va _) ?_,rfl,q _$ I.Cc.fresh$ va _⟩;exact d
def zga:To X (ϡ "len") (λxs H Q=>∃ p S n,xs=[ϖ p]/\H p=BD (.set S n)/\Q (Ϣ n) H):=by
 rintro a s st H xs w Q I r ⟨p,S,n,rfl,g,q⟩;obtain⟨u,rfl,h⟩:=vt r;cases h;obtain⟨o,j,i,t,b,c,d,k,l,m,e,f⟩:=(I.Cc p _ g)
 have v:scanBound<=2 ^ 62:=by decide
 refine call_len_set b c d e ⋯ ⟨Ϣ n,H,I.tok _,⟨_,by rw[f]⟩,q⟩
def K9(hK:T.K=X.K)(ό:X.de=E8)(N:Gl X "len")(ϋ:X.mg "len" = A5)(n:Gl X "set")(q:X.mg "set" = A5)(L:FE T X e f)
  (y:wa [e] X.env=(J8,Qb e X.env)::wa [] X.env:=by rfl) (r:(Dc b$ wa [] X.env).any (·.1)=J8:=by rfl)
  (i:wa [Ϡ (ϝ "set" t) [e] [] b] X.env=(J8,Qb (Ϡ (ϝ "set" t) [e] [] b) X.env)::wa [] X.env:=by rfl) (g:(Dc k$ wa [] X.env).any (·.1)=J8:=by rfl) :
  FE T X (Ϡ (ϝ "len" p) [Ϡ (ϝ "set" t) [e] [] b] [] k)$ Vd OH f:=by
 intro j s ϊ H Q I h;refine GH zga N ϋ uy (vu (bK (ň ό) n q rfl (vu L Nx y) ⋯ ⋯ y r) Nx i) ⋯ ⋯ i g j s ϊ H Q I ?_;obtain⟨V,W,Y,G,R,P⟩:=h;refine⟨V,W,Y,G,R,P.bind λd w u v Z D e1 z S c=>?_⟩;unfold OH at c;cases m:(jf w d).bind Jp with
 |none=>rw[m]at c;exact c.elim
 |some ns=>
  rw[m]at c;dsimp only at c;by_cases o:ns.length<=Og
  ·rw[ja o]at c;obtain⟨ys,A,B⟩:=yf.mp m;obtain⟨a,vs,rfl,E,F⟩:=z.ls S A;have C:=vD F B;subst C;exact⟨a,ns,rfl,Te.of E,o,λl x=>⟨l,_,_,rfl,bf,c u _ _ (mj x) (z.fresh x) (by rw[Na])⟩⟩
  ·rw[pa o]at c;exact c.elim
def Ru(xs:lv)(lo a:Option Int):lv:=(xs.drop$ HT.Mf xs.length 0 lo).take$ HT.Mf xs.length xs.length a - HT.Mf xs.length 0 lo
def zeh{xs}{lo a}(h:HT.Mf xs.length 0 lo=0/\HT.Mf xs.length xs.length a=xs.length):Ru xs lo a=xs:=by
 unfold Ru;rw[h.1,h.2];simp
def IN{xs}(r:pb T c H xs b) lo a:pb T c H (Ru xs lo a)$ XB b lo a:=by
 unfold Ru XB;rw[r.length];exact pb.take _$ pb.drop _ r
end L4
namespace HT
open Spec
variable{prog:Ba}{w:Ra}{A:Ma}{E:Value->Shared->Prop}{s:Shared}
def vj{lo d}(b:IsTup s.heap t a)(j:s.heap.IsSliceOf i k l Fc)(pl:nk k lo)(p:nk l d)
  (v:Mf a.size 0 lo=0/\Mf a.size a.size d=a.size) (h:Q (Db t) s):wpAny (model prog w) A (bi (Db t)$ Db i) Q E s:=by
 obtain⟨n,g,f,m⟩:=id j;have e:s.TypeIs (Db i) "slice":=⟨n,g,f⟩
 unfold bi;try with_reducible refine cc ?_
 refine aa$ PD b.typeIs ⋯ ?_;refine aa$ Jd b.typeIs qc
  (Hc qc b.typeIs Jz ?_$ DB _ _)
 show wpAny _ _ (dg _ >>= _) _ _ s;refine aa$ CZ b$ aa$ ej e$ aa$ lQ j pl p ?_;have c:(((Mf a.size 0 lo):Int) == 0 && (1:Int) == 1 && (Mf a.size a.size d - Mf a.size 0 lo) == a.size)=E8:=by
  simp_all
 show wpAny _ _ (if (((Mf a.size 0 lo):Int) == 0 && 1 == 1 && (Mf a.size a.size d - Mf a.size 0 lo) == a.size)=E8 then _ else _) _ _ s;rw[ja c];obtain⟨o,r,q,u⟩:=id b;refine aa$ aa$ ej b.typeIs$ ga$ aa$ jm ?_;first
  |exact ga _
  |exact ga _
  |exact aa$ ga$ ga ⟨_,rfl,ga h⟩
end HT
namespace L4
open Spec L2
def hZ(K:ϗ):V->Option Int->Option Int->Hp->VK->Prop:=λx lo b H Q=>∃ a xs,x=ϖ a/\dh K H a xs/\(HT.Mf xs.length 0 lo=0/\HT.Mf xs.length xs.length b=xs.length)/\Q (ϖ a) H
def Z9:Ew X$ hZ X.K:=by
 rintro e s n H x v o p lo j m Q I i f pl h ⟨a,xs,rfl,g,k,q⟩;cases i;obtain⟨b,r,d,l⟩:=I.tuple g;have c:b.toArray.size=xs.length:=by rw[Ua];exact r.length.symm
 exact⟨"tuple",_,qc.lookup,d.typeIs,HT.vj d f pl h ⋯ ⟨ϖ a,H,I,rfl,q⟩⟩
abbrev PF:=Option$ Ev->M D
noncomputable def kK(d:D):M$ Option Int:=match d with
 | U i=>ret (BD i)
 |_=>Ab
def qA(p:PF):Ev->M (Option Int):=match p with
 |none=>λb=>ret A5
 |some f=>λa=>Kc (f a) kK
def tP(T:Tb)(X:Cx)(f:Ev->M (Option Int)):TO:=λd H Q=>∃ c e g,eh T c H e d/\Yc T c H g/\Pb T (XE X d) (λh h a b=>b=a) c H (f e g) Q
abbrev FO(T:Tb)(X:Cx)(e:Option Ia)(p:PF):Prop:=PO X e$ tP T X$ qA p
theorem zsy:FO T X A5 A5:=by
 rintro a s d H Q I ⟨f,g,h,e,c,b⟩;exact E5 a s d H Q I$ Pb.here b c rfl
def T6(g:FE T X e f):FO T X (BD e)$ BD f:=by
 intro a s n H Q I h;refine t0 g a s n H Q I ?_;obtain⟨o,q,r,c,k,j⟩:=h;refine⟨o,q,r,c,k,Pb.bind j λd t p v u x w m l b=>?_⟩;cases d with
 |int i=>exact⟨i,Wq l,Pb.here b m rfl⟩
 |_=>exact b.elim
def WW(x:D)(lo b:Option Int):M D:=λa=>match x with
 | ϑ xs=>J (ϑ$ Ru xs lo b) a
 | ϫ ns=>J (ύ$ Ru (ns.map U) lo b) a
 |x=>(match jf a x with
  |some xs=>J (ύ$ Ru xs lo b) a
  |none=>ϕ)
def Ey(x:D)(lo:Option Int)(a:Option Int):M D:=WW x lo a
def eN(x:D)(a:M$ Option Int)(lo:Option Int):M D:=Kc a$ Ey x lo
def fM(lo a:M$ Option Int)(x:D):M D:=Kc lo$ eN x a
def qJ(f:Ev->M D)(lo b:PF):Ev->M D:=λa=>Kc (f a)$ fM (qA lo a)$ qA b a
def P7{lo S}(Y:T.K=X.K)(Z:FE T X e f)(hl:FO T X lo pl)(hh:FO T X S ϊ):FE T X (ϥ e (.Slice lo S A5 A) B)$ qJ f pl ϊ:=by
 intro t s V H Q I h;refine zof (Ew.or Q7$ Ew.or Z9 đ) Z hl hh t s V H Q I ?_;obtain⟨μ,L,σ,y,hr,hp⟩:=h;refine⟨μ,L,σ,y,hr,hp.bind λd N F v H1 l P r1 q1 p1=>⟨F,L,N,y.mono P,r1,p1.bind λl ϋ G g H2 l R r2 q2 A=>⟨G,L,ϋ,(y.mono P).mono R,r2,A.bind λu k ό i x l W w q3 c=>?_⟩⟩⟩;have C:=q2;have E:=q3;subst C;subst E;have rd:=Na.mono W _ _$ Na.mono R _ _ q1;have b:∀ ys,jf k d=BD ys->Pb T (XE X V) (Na T) ό x (J (ύ$ Ru ys g i) k) Q->yZ X.K v g i x Q\/hZ X.K v g i x Q\/NS X.K v g i x Q:=λys o p4=>by
  obtain⟨a,vs,rfl,m,j⟩:=w.ls rd o;exact ϓ$ ϓ ⟨a,vs,rfl,Te.of m,λp r=>II p4 w (IN j g i) r⟩
 cases d with
 |db xs=>
  have iB:=rd;obtain⟨p,vs,rfl,m,j⟩:=rd;by_cases z:HT.Mf vs.length 0 g=0/\HT.Mf vs.length vs.length i=vs.length
  ·refine ϓ$ ϐ ⟨p,vs,rfl,dh.of m,z,Pb.here c w ?_⟩;rw[zeh (by rw[j.length];exact z)];exact iB
  ·exact ϐ ⟨p,vs,rfl,dh.of m,z,λq r=>zN c w (IN j g i) r⟩
 |ref n=>
  unfold Ey WW at c;dsimp only at c;cases o:jf k _ with
  |none=>rw[o]at c;exact c.elim
  |some ys=>rw[o]at c;exact b ys o c
 |qa ys=>exact b ys rfl c
 |Ug ns=>
  obtain⟨p,rfl,m⟩:=rd;have j:=m.seq;rw[Y]at j;exact ϓ$ ϓ ⟨p,_,rfl,j,λp r=>II c w (IN (nI ns) g i) r⟩
 |_=>exact c.elim
noncomputable def Dx(bs:gV):Int:=bs.foldl min$ bs.getD 0 0
theorem yY:∀ (bs:gV) (c:Int),(bs.foldl min c<=c/\∀ b∈bs,bs.foldl min c<=b)/\(bs.foldl min c=c\/bs.foldl min c∈bs)
 |[],c=>by simp
 |b::bs,c=>by
  obtain⟨⟨f,e⟩,a⟩:=yY bs (min c b);rw[qi];refine⟨⟨by lia,λx d=>?_⟩,?_⟩
  ·rcases Da.mp d with rfl|d
   ·lia
   ·exact e x d
  ·rcases a with a|a
   ·rw[a,Int.min_def];split;all_goals simp
   grind
def E1(g:i<bs.length)(h:∀ j,j<bs.length->bs.getD i 0<=bs.getD j 0):bs.getD i 0=Dx bs:=by
 have k:∀ j,j<bs.length->bs.getD j 0∈bs:=λj c=>by rw[Ue,Bb c];exact gg c
 have d:0<bs.length:=by lia
 obtain⟨⟨l,f⟩,a⟩:=yY bs _;have b:bs.getD i 0<=Dx bs:=by
  rcases a with a|a
  ·show _<=bs.foldl min _;rw[a];exact h 0 d
  ·obtain⟨j,c,e⟩:=oj a;have:=h j c;rw[Ue (i:=j),Bb c]at this;show _<=bs.foldl min _;rw[<-e];exact this
 exact Int.le_antisymm b$ f _$ k i g
def UT(K:ϗ)(f:gV->Int):kv->Hp->VK->Prop:=λxs H Q=>∃ (p:Addr) (bs:gV),xs=[ϖ p]/\(Te K H p (bs.map Ϣ)\/dh K H p (bs.map Ϣ))/\0<bs.length/\Q (Ϣ$ f bs) H
def SX{bs:gV}(g:ce (bs.map Ϣ) a)(d:a.toArray[i]?=BD v):∃ t,v=Jh (bs.getD i 0) t:=by
 simp at d;obtain⟨x,c,f⟩:=fG g d;rw[Ta]at c;cases e:bs[i]? with
 |none=>simp_all
 |some b=>
  rw[e]at c;cases c;obtain⟨t,rfl⟩:=f
  simp_all
def AS(g:X.de=E8):To X (ϡ "min")$ UT X.K Dx:=by
 rintro d s st H xs A Q I r ⟨p,bs,rfl,l,y,q⟩;obtain⟨u,rfl,rfl⟩:=vt r;refine call_min_walk (pP (I.ok.hd g) I l λb It x St s2 c W m h f=>?_);have w:b.toArray.size=bs.length:=by rw[Ua,<-c.length,Oa]
 refine⟨_,_,_,_,_,_,_,rfl,W,m,h,by lia,Mz _ (λi v a=>SX c a),λv h' n a k=>?_⟩;obtain⟨t,rfl⟩:=SX c a;obtain⟨o,e⟩:=argBest_lt _ _;refine⟨Ϣ _,H,f h' n k,⟨t,?_⟩,q⟩;rw[E1 ⋯ (λj z=>e j ⋯)]
def Jy(f:gV->Int)(xs:lv):M D:=λa=>match xs with
 |[x]=>(match (Ui a x).bind Jp with
  |some (b::bs)=>J (U$ f$ b::bs) a
  |_=>ϕ)
 |_=>ϕ
def oQ(k:T.K=X.K):Us T (UT X.K f)$ Jy f:=by
 intro E o H m xs vs Q r p h
 match xs with
 |[]=>exact h.elim
 |[x]=>
  obtain⟨v,w,rfl,l,d⟩:=p;rw[pb]at d;subst d;unfold Jy at h;cases e:(Ui m x).bind Jp with
  |none=>simp[e]at h;exact h.elim
  |some bs=>
   cases bs with
   |nil=>simp only[e]at h;exact h.elim
   |cons b bs=>
    simp only[e]at h;obtain⟨n,g,i⟩:=lL e;obtain⟨a,vs,rfl,j,c⟩:=mz r l g;rw[k,vD j i]at c;exact⟨a,b::bs,rfl,c,by simp,Pb.here h r (by rw[Na])⟩
 |_::_::_=>cases h
def mP(K:ϗ)(j:Str->Option Value)(x:Str)(e:Stmt)(g:ab)(i:em):Prop:=
 ∃ f b,j x=BD (Db f)/\Ϻ K (Db f)=E8/\(∃ (k:Value) (l:Option Addr) (h kV c m:Value) (an:Option Addr) (a ct:Value) (d:Array (Option Value)),
  b=Ϯ x x (xl e) (Nj e) (Kf e) h kV c m an a ct/\K.lookup f=BD ⟨k,l,.func b,d⟩/\ϻ K a x=E8)/\vr K b g []/\vr K b g i
def Wt(T:Tb)(P:Ba)(w:Ra)(c:Str->Option Value)(a:Heap)(k:Nat)(x:Str)(ps:ab)(d:em)(e:lv->M D):Prop:=
 ∃ f b,c x=BD (Db f)/\Ϻ T.K (Db f)=E8/\vr T.K b ps []/\vr T.K b ps d/\gh P w T.K c a (Kk P w) k f b ps (Ro T ps.length e)
section
def zgy(h:Wt T X.prog X.w X.mg X.base k x ps n g)(o:T.K=X.K)(u:Md k X.A)(s:Gl X x)
  (q:FA T X (e::a) i) (c:(x == ("__debug__" : Str))=J8:=by decide) (r:wa (e::a) X.env=(J8,Qb e X.env)::wa a X.env:=by rfl) (d:(Dc b$ wa a X.env).any (·.1)=J8:=by rfl) :
  FE T X (Ϡ (ϝ x p) (e::a) [] b)$ Gf ps.length g [] i:=by
 obtain⟨f,v,t,m,l,_,j⟩:=h;rw[o]at m j l;exact cN j u s t m l Ϟ (λy y=>pb.nil) q c r d
def j4(h:Wt T X.prog X.w X.mg X.base k x ps l m)(s:T.K=X.K)(z:Md k X.A)(v:Gl X x)(B:ce b l)(i:∀ C H,pb T C H a b)
  (t:FA T X (e::c) n) (g:(x == ("__debug__" : Str))=J8:=by decide) (u:wa (e::c) X.env=(J8,Qb e X.env)::wa c X.env:=by rfl) (j:(Dc d$ wa c X.env).any (·.1)=J8:=by rfl) :
  FE T X (Ϡ (ϝ x p) (e::c) [] d)$ Gf ps.length m a n:=by
 obtain⟨f,E,y,r,_,q,o⟩:=h;rw[s]at r o q;exact cN o z v y r q B i t g u j
def Ć:ce [V.ec] [Fc]:=ϛ rfl Ϟ
def X6 a H:pb T a H [Ϝ] [V.ec]:=pb.cons (by rw[Na]) pb.nil
variable{P:Ba}{w:Ra}{K:ϗ}{mg:Str->Option Value}{base:Heap}{ca:Nat->Addr}{tx:Tx}
def O7{st}(h:mP K mg x st ps d)(S:Ec N ps$ Kf st)
  (l:∀ f a A b s H E,Md k (A.deeper$ rg x (Kf st) s.heap.objs.size f a)->Ek ⟨K,ca,tx⟩ (vp (Kk P w) P w K mg base N x (Kf st) f a A b s H E) (Nj st) g) :
  Wt ⟨K,ca,tx⟩ P w mg base (k+1) x ps d$ Ch N.length g:=by
 obtain⟨f,r,n,m,⟨t,u,q,kV,j,v,p,a,ct,o,rfl,lk,c⟩,e,i⟩:=h;exact⟨f,_,n,m,e,i,GC lk c S$ l f a⟩
def Wt.Uc{k}{x}{ps}{a}{b}(h:Wt T P w mg base k x ps a b):Wt T P w mg base k x ps a (λc=>L4.Uc$ b c):=by
 obtain⟨f,d,e,g,i,j,l⟩:=h;exact⟨f,d,e,g,i,j,uM l⟩
def ν{st}{B i w}{kV e j b ct}(X:K.In h)(G:h.Ns mainGlobals mg)
  (z:∀ t kV e j i b ct s o n g,s.heap.get? t=BD o->o.data=Ϩ m.toArray n->((g++[]).length=ps.length->Qe s (Ϯ x x (xl st) (Nj st) (Kf st) (Db t) kV e j i b ct) ⟨g,[]⟩ (ps.zip$ g++[]))/\
   ((g++m).length=ps.length->Qe s (Ϯ x x (xl st) (Nj st) (Kf st) (Db t) kV e j i b ct) ⟨g,[]⟩ (ps.zip$ g++m)))
  (a:W.nsIn K mainGlobals x=BD (BD$ Db f)) (l:K.lookup f=BD ⟨A,B,.func$ Ϯ x x (xl st) (Nj st) (Kf st) (Db t) kV e j i b ct,p⟩)
  (c:ϻ K b x=E8) (k:Ϻ K (Db f)=E8) (d:K.lookup t=BD ⟨v,w,Ϩ m.toArray u,y⟩):mP K mg x st ps m:=
 ⟨f,_,W.mg_of X G a,k,⟨A,B,_,kV,e,j,i,b,ct,p,rfl,l,c⟩,λs g q r=>(z t kV e j i b ct s _ u g (q _ _ d) rfl).1 r,λs g q r=>(z t kV e j i b ct s _ u g (q _ _ d) rfl).2 r⟩
end
def Ei.Yd(h:Ei T P w c a k x ps b):Ei T P w c a k x ps$ L4.Yd b:=by rw[Ur];exact h
def Wt.Yd(h:Wt T P w d a k x ps b c):Wt T P w d a k x ps b$ L4.Yd c:=by rw[Ur];exact h
section
variable{μ:b'}{H:Hp}{σ:Ea}
noncomputable def Sj(σ:Ea):D->Option (Nat × List (Str × D))
 | Ϸ c ns ds=>if ns.length=ds.length then BD (c,ns.zip ds)else A5
 | O n=>match σ[n]? with
  |some (ϔ c a)=>BD (c,a)
  |_=>A5
 |_=>A5
theorem HU:∀ {b:ab} {ds:lv} {a:List$ Str × V},a.map (·.1)=b->pb T μ H ds (a.map (·.2))->Ms T μ H (b.zip ds) a
 |[],ds,[],_,h=>by
  cases ds with
  |nil=>exact Ϟ
  |cons d ds=>have:=h.length;simp at this
 |[],ds,f::a,e,_=>by simp at e
 |n::b,ds,[],e,_=>by simp at e
 |n::b,[],f::a,e,h=>by have:=h.length;simp at this
 |n::b,d::ds,f::a,e,h=>by
  simp at e;obtain⟨v,r,c,i,j⟩:=h;simp at c;obtain⟨g,rfl⟩:=c;exact ϛ ⟨e.1.symm,by rw[g];exact i⟩$ HU e.2 j
def Vz(r:Yc T μ H σ)(h:Na T μ H d v)(e:Sj σ d=BD (c,j)):∃ a b vs,v=ϖ a/\H a=BD (.yb (T.ca c) b vs)/\Ms T μ H j vs:=by
 cases d with
 |obj l ns ds=>
  unfold Sj at e;by_cases k:ns.length=ds.length
  ·simp[k]at e;obtain⟨rfl,rfl⟩:=e;obtain⟨a,b,vs,rfl,_,f,g,q⟩:=h;exact⟨a,b,vs,rfl,f,HU g q⟩
  ·simp[k]at e
 |ref n=>
  unfold Sj at e;dsimp only at e;cases i:σ[n]? with
  |none=>simp_all
  |some o=>
   rw[i]at e;obtain⟨a,rfl,_,p⟩:=r.at h i;cases o with
   |yb l m=>cases e;obtain⟨b,vs,f,g⟩:=p;exact⟨a,b,vs,rfl,f,g⟩
   |qa _=>cases e
   |Ga _=>cases e
   |Yb _=>cases e
   |ue _=>cases e
 |_=>cases e
theorem TC{f:Str}:∀ {b:List$ Str × D} {vs:List$ Str × V},Ms T μ H b vs->(∀ d,b.lookup f=BD d->∃ v,vs.lookup f=BD v/\Na T μ H d v)/\(b.lookup f=A5->vs.lookup f=A5)
 |_,_,Ϟ=>⟨λd e=>by simp at e,λo=>rfl⟩
 |(g,x)::b,(n,v)::vs,ϛ ⟨e,h⟩ t=>by
  have c:=e;subst c;obtain⟨i,j⟩:=TC t;by_cases k:(f == g)=E8
  ·refine⟨λd q=>?_,λq=>?_⟩;all_goals simp_all
  ·have a:(f == g)=J8:=by simpa using k
   refine⟨λd q=>?_,λq=>?_⟩
   ·rw[Wb,a]at q;obtain⟨w,l,m⟩:=i d q;exact⟨w,by rw[Wb,a];exact l,m⟩
   ·rw[Wb,a]at q;rw[Wb,a];exact j q
def RH(T:Tb)(a:h8)(f:Str):Prop:=∀ c,a.contains c=E8->zr T.K (T.ca c)/\Yx T.K (T.ca c) f
noncomputable def bc(a:h8)(f:Str)(x:D):M D:=λσ=>match Sj σ x with
 |some (c,b)=>if a.contains c=E8 then (match b.lookup f with
  |some d=>J d σ
  |none=>ϕ)else ϕ
 |none=>ϕ
def V8(E:T.K=X.K)(G:RH T cs f)(ό:FE T X e g)
  (F:Xc e f X.env (Qb e X.env)=Qb e X.env:=by rfl):FE T X (ϟ e f m)$ Vd (bc cs f) g:=by
 intro j s P H Q I h;refine U4 ό F j s P H Q I ?_;obtain⟨μ,S,σ,C,N,L⟩:=h;refine⟨μ,S,σ,C,N,Pb.bind L λd n R v ϊ D V r ϋ b=>?_⟩;unfold bc at b;cases k:Sj n d with
 |none=>rw[k]at b;exact b.elim
 |some p=>
  obtain⟨c,u⟩:=p;rw[k]at b;dsimp only at b;by_cases i:cs.contains c=E8
  ·rw[ja i]at b;obtain⟨a,t,vs,rfl,x,z⟩:=Vz r ϋ k;cases l:u.lookup f with
   |none=>rw[l]at b;exact b.elim
   |some y=>
    rw[l]at b;obtain⟨w,A,B⟩:=(TC z).1 y l;obtain⟨o,q⟩:=G c i;rw[E]at o q;exact⟨a,_,t,vs,w,rfl,x,o,q,A,Pb.here b r B⟩
  ·rw[pa i]at b;exact b.elim
noncomputable def Tj(f:Str)(v:D):List (Str × D)->List (Str × D)
 |[]=>[(f,v)]
 |(g,x)::r=>if g=f then (g,v)::r else (g,x)::Tj f v r
theorem GN{f:Str}{d:D}{v:V}(c:Na T μ H d v):∀ {b:List$ Str × D} {i:List$ Str × V},Ms T μ H b i->Ms T μ H (Tj f d b) (Mm f v i)
 |_,_,Ϟ=>ϛ ⟨rfl,c⟩ Ϟ
 |(g,x)::b,(k,w)::i,ϛ ⟨e,h⟩ t=>by
  have j:=e;subst j;unfold Tj Mm;by_cases a:g=f
  ·rw[ja a,ja a];exact ϛ ⟨rfl,c⟩ t
  ·rw[pa a,pa a];exact ϛ ⟨rfl,h⟩$ GN c t
def Ms.mono(e:qd μ H a b)(h:Ms T μ H c d):Ms T a b c d:=Paired.Dp h λf f q=>⟨q.1,Na.mono e _ _ q.2⟩
def Ms.length(h:Ms T μ H a b):a.length=b.length:=Paired.length h
def rz(b:h8)(f:Str)(d x:D):M Unit:=λσ=>match x with
 | O n=>(match σ[n]? with
  |some (ϔ c a)=>if (b.contains c && decide (a.length<1000))=E8 then J () (σ.set n$ ϔ c$ Tj f d a)else ϕ
  |_=>ϕ)
 |_=>ϕ
def Zw(c:Ev)(b:h8)(f:Str)(d x:D):M Fl:=λσ=>match rz b f d x σ with
 | J _ a=>J (Ϙ c) a
 |_=>ϕ
def dO(a:Ev)(b:h8)(f:Str)(c:Ev->M D)(d:D):M Fl:=xs a (c a)$ Zw a b f d
def Jl(b:h8)(f:Str)(d c:Ev->M D):Ev->M Fl:=λa=>xs a (d a)$ dO a b f c
def ydd(R:T.K=X.K)(S:RH T cs f)(ϊ:FE T X o B)(hv:FE T X e C)
  (Z:Lg e (BD$ ϟ o f h) k.line X.env=pure J8:=by rfl):FS T X (.Assign [ϟ o f h] e k)$ Jl cs f C B:=by
 intro j s ϋ H D I W;refine yg5 ϊ hv Z j s ϋ H D I ?_;obtain⟨μ,P,σ,i,Y,V⟩:=W;refine⟨μ,P,σ,i,Y,V.xs i λd u t v H1 d p r1 q1 p1=>⟨t,P,u,i.mono p,r1,p1.xs (i.mono p) λx w l vo y d A N q2 b=>?_⟩⟩;unfold Zw rz at b;cases x with
 |ref n=>
  dsimp only at b;cases q:w[n]? with
  |none=>rw[q]at b;exact b.elim
  |some ob=>
   rw[q]at b;cases ob with
   |qa _=>exact b.elim
   |Ga _=>exact b.elim
   |Yb _=>exact b.elim
   |ue _=>exact b.elim
   |yb c Q=>
    dsimp only at b;by_cases g:(cs.contains c && decide (Q.length<1000))=E8
    ·rw[ja g]at b;rw[Fa,Rb]at g;obtain⟨a,rfl,G,m,vs,E,F⟩:=N.at q2 q;have ex:qd l y l$ Sb y a$ .yb (T.ca c) m$ Mm f v vs:=Aq (za G) E (λd z=>by cases z) (λd d z=>by cases z);have r:=N.write (ob:=ϔ c _) G ⟨m,_,bf,GN (Na.mono ex _ _$ Na.mono A _ _ q1)$ Ms.mono ex F⟩;obtain⟨ό,L⟩:=S c g.1;rw[R]at ό L;exact⟨a,_,m,vs,rfl,E,ό,L,by rw[<-F.length];exact g.2,b _ (ϸ ϋ) _ r.1 r.2$ (i.mono p).mono A |>.mono r.1⟩
    ·rw[pa g]at b;exact b.elim
 |_=>exact b.elim
noncomputable def uz(n:Nat):ii D->ii D
 | J Ϝ a=>J (O n) a
 | J _ _=>ϕ
 | .ex x a=>.ex x a
 | ϕ=>ϕ
def Bl(c n:Nat)(b:lv->M D)(a:lv):M D:=λσ=>if a.length+1=n then uz σ.length (b (O σ.length::a)$ σ++[ϔ c []])else ϕ
def lq(c n:Nat)(a:lv->M D)(b:Ev->M (lv)):Ev->M D:=λd=>Kc (b d)$ Bl c n a
def Mr(T:Tb)(P:Ba)(w:Ra)(e:Str->Option Value)(a:Heap)(k:Nat)(f:Addr)(ps:ab)(d:lv->M D):Prop:=
 ∃ c,(∀ b:em,b.length=ps.length->bindArgs c ⟨b,[]⟩=pure (ps.zip b))/\gh P w T.K e a (Kk P w) k f c ps (Ro T ps.length d)
def ZU(T:Tb)(P:Ba)(w:Ra)(b:Str->Option Value)(a:Heap)(k:Nat)(x:Str)(c:Nat)(ps:ab)(d:lv->M D):Prop:=
 ∃ f,b x=BD (Db$ T.ca c)/\Mk T.K (T.ca c) f/\Mr T P w b a k f ps d
def YW{ps:ab}(r:Yc T μ H σ)(q:pb T μ H j vs)(p:Pb T E (Na T) μ H (Bl c ps.length m j σ) Q) :
  ∀ x a,H x=A5->H a=A5->a≠x->Ro T ps.length m (ϖ x::(vs++[])) (Sb (Sb H a$ .own x) x$ .yb (T.ca c) a []) (λv w=>v=.ec/\Q (ϖ x) w) E:=by
 intro x a A h o;unfold Bl at p;by_cases n:j.length+1=ps.length
 ·rw[ja n]at p;have b:qd μ H μ$ Sb H a$ .own x:=mj h;have t:Yc T μ (Sb H a$ .own x) σ:=r.fresh h;have i:Sb H a (.own x) x=A5:=by unfold Sb;rw[pa$ Gd o];exact A
  have f:qd μ _ _$ Sb _ x$ .yb (T.ca c) a []:=Vu i;have C:Yc T _ _$ σ++[ϔ c []]:=t.push i ⟨a,[],bf,Ϟ⟩;refine⟨μ++[x],σ++[ϔ c []],O σ.length::j,pb.cons (MD t) (by rw[ee];exact pb.mono (b.trans f) _ _ q),by rw[gb];exact n,C,?_⟩;cases e:m _ _ with
  |Ab=>rw[e]at p;exact p.elim
  |ex y u=>rw[e]at p;exact λg l k s=>p g l ((b.trans f).trans k) s
  |ok d u=>
   rw[e]at p;intro g v l k s B;have z:d=Ϝ:=by cases d<;>first|rfl|exact p.elim
   subst z;exact⟨B,p g _ l ((b.trans f).trans k) s$ Na.mono k _ _$ MD t⟩
 ·rw[pa n]at p;exact p.elim
def jW{st}(M:Mk X.K C f)(F:gh X.prog X.w X.K X.mg X.base (Kk X.prog X.w) k f m ps q)(ό:Md (k+1) X.A)(D:vr X.K m ps j)(E:ce c j)
  (I:Xa X b st H s) (r:ce vs d)
  (h:∀ x l,H x=A5->H l=A5->l≠x->q (ϖ x::(vs++c)) (Sb (Sb H l$ .own x) x$ .yb C l []) (λv t=>v=.ec/\Q (ϖ x) t) (XE X st)) :
  wpAny (model X.prog X.w) X.A (call (Db C) d) (EP X b st Q) X.xe s:=by
 have o:=h _ s.heap.objs.size (I.Cc.fresh$ zg _) (I.Cc.fresh$ va _)$ Aa$ Lb _;have i:=Xa.made (C:=C) I;have p:ce (ϖ _::(vs++c))$ Db (s.heap.objs.size+1)::(d++j):=ϛ rfl$ r.append E;have G:(Db (s.heap.objs.size+1)::d++j).length=ps.length:=by
  have e:=p.length;rw[F.len _ _ _ _ o]at e
  grind
 refine fj$ Y8 I.Ki M.makes M.init (Bf.mp M.fn) (xf (F.Ch _ X.stack _ _ _ _ _ _ _ (ό.make C d [])
  (i.pF.make C d []) (D _ _ i.Ki G) p o) λr P a=>?_)
 cases r with
 |error e=>obtain⟨z,m,n,g,L⟩:=a;exact L.oN b _ _ e P i g
 |ok B=>
  cases B with
  |ret u=>
   obtain⟨v,n,y,ϋ,rfl,N⟩:=i.after a;exact⟨ϋ,⟨ϖ _,n,y,rfl,N⟩⟩
  |next=>exact ϲ a
  |brk=>exact ϲ a
  |cont=>exact ϲ a
def ì(h:ZU T X.prog X.w X.mg X.base k x c ps n)(y:T.K=X.K)(ό:Md (k+1) X.A)(E:Gl X x)
  (z:FA T X (e::b) o) (i:(x == ("__debug__" : Str))=J8:=by decide) (C:wa (e::b) X.env=(J8,Qb e X.env)::wa b X.env:=by rfl) (j:(Dc a$ wa b X.env).any (·.1)=J8:=by rfl) :
  FE T X (Ϡ (ϝ x p) (e::b) [] a)$ lq c ps.length n o:=by
 obtain⟨f,F,g,Y,B,t⟩:=h;rw[y]at g t;rintro d s st H Q I ⟨μ,R,σ,v,l,G⟩;exact Le$ JE I E F (Ϲ I.ok.mod.dz g.kp (Bd (z a d s st H _ I ⟨μ,R,σ,v,l,G.bind λϊ S P vs u D V ϋ L N=>YW ϋ L N⟩) λus s1 ⟨vs,u,m,r,q⟩=>⟨m.Ki,(jW g t ό (.all B) Ϟ m r q)⟩) C j) i
structure WK(T:Tb)(P:Ba)(w:Ra)(mg:Str->Option Value)(base:Heap)(k:Nat)(m:Str)(c:Nat)(ps:ab)(fn:lv->M D):Prop where
 cl:zr T.K (T.ca c)
 ex:∃ f,Su T.K (T.ca c) m f/\Mr T P w mg base k f ps fn
abbrev Mt:=List$ Nat × (lv->M D)
noncomputable def Er:Mt->Nat->Option (lv->M D)
 |[],_=>A5
 |(c,fn)::r,d=>if c == d then BD fn else Er r d
noncomputable def Fi(n:Nat)(b:lv->M D)(x:D)(a:lv):M D:=if a.length+1=n then b (x::a)else Ab
def Kj(b:Mt)(n:Nat)(m:Str)(a:M$ lv)(x:D):M D:=λσ=>match Sj σ x with
 |some (c,gs)=>(match Er b c,gs.lookup m with
  |some fn,A5=>Kc a (Fi n fn x) σ
  |_,_=>ϕ)
 |none=>ϕ
def vf(c:Mt)(n:Nat)(m:Str)(f:Ev->M D)(b:Ev->M (lv)):Ev->M D:=λa=>Kc (f a)$ Kj c n m$ b a
theorem pO:∀ {a:Mt} {c:Nat} {fn:lv->M D},Er a c=BD fn->(c,fn)∈a
 |[],_,_,h=>by cases h
 |(d,g)::r,c,fn,h=>by
  unfold Er at h;by_cases e:(d == c)=E8
  ·rw[ja e]at h;cases h
   simp_all
  ·rw[pa e]at h;exact ra _$ pO h
def FH(hK:T.K=X.K)(he:FE T X o f)(h:∀ q∈G,WK T X.prog X.w X.mg X.base k m q.1 ps q.2)(hr:Md k X.A)(ha:FA T X (e::l) N)
  (ϊ:wa (e::l) X.env=(J8,Qb e X.env)::wa l X.env:=by rfl) (R:(Dc b$ wa l X.env).any (·.1)=J8:=by rfl)
  (ht:Qb (Ϡ (ϟ o m i) (e::l) [] b) X.env=(do
   let ov <-Qb o X.env
   ai i.atName
   let (f,first) <-Pe [ov] (Ni ov m pl)
   qr b f first (Dc b$ wa (e::l) X.env) (Lh b$ pf [] X.env)):=by rfl) :
  FE T X (Ϡ (ϟ o m i) (e::l) [] b)$ vf G ps.length m f N:=by
 rintro j s st H Q I ⟨μ,ρ,σ,hE,S,hp⟩;refine W.methodCall_KW (Bd (he j s st H (λx p=>∃ a c F vs B,x=ϖ a/\p a=BD (.yb (T.ca c) F vs)/\Er G c=BD B/\vs.lookup m=A5/\tL T X N st p λY ό=>Ro T ps.length B (x::(Y++[])) ό Q$ XE X st) I ⟨μ,ρ,σ,hE,S,hp.bind λd E Z v p D e1 r1 q1 g=>?_⟩) λu s1 ⟨x,p,I1,rx,a,c,F,vs,B,ex,ea,n,t,q⟩=>?_) ht
 ·unfold Kj at g;cases L:Sj E d with
  |none=>rw[L]at g;exact g.elim
  |some z=>
   obtain⟨c,gs⟩:=z;rw[L]at g;dsimp only at g;cases n:Er G c with
   |none=>rw[n]at g;exact g.elim
   |some B=>
    cases t:gs.lookup m with
    |some y=>rw[n,t]at g;exact g.elim
    |none=>
     rw[n,t]at g;dsimp only at g;obtain⟨a,F,vs,rfl,h1,h2⟩:=Vz r1 q1 L;refine⟨a,c,F,vs,B,rfl,h1,n,(TC h2).2 t,Z,ρ,E,hE.mono e1,r1,g.bind λds a1 a0 Y ό D e2 r2 V C=>?_⟩;unfold Fi at C;by_cases P:ds.length+1=ps.length
     ·rw[ja P]at C;exact⟨a0,a1,d::ds,pb.cons (Na.mono e2 _ _ q1) (by rw[ee];exact V),by rw[gb];exact P,r2,C⟩
     ·rw[pa P]at C;exact C.elim
 ·subst ex;obtain rfl:u=Db a:=rx;obtain⟨hC,f',ϋ,fd,hb,hF⟩:=h _ (pO n);rw[hK]at hC ϋ hF;exact HK I1 ea hC ϋ t$ Ϲ I.ok.mod.dz ϋ.kp (Bd (ha b j s1 st p _ I1 q) λY s2 ⟨vs,ό,I2,r,V⟩=>⟨I2.Ki,(nJ (vs:=ϖ a::vs) hF hr (.all hb) Ϟ I2 (ϛ rfl r) V)⟩) ϊ R
def ê(hK:T.K=X.K)(he:FE T X o f)(h:∀ q∈E,WK T X.prog X.w X.mg X.base k m q.1 ps q.2)(hr:Md k X.A)
  (ht:Qb (Ϡ (ϟ o m e) [] [] g) X.env=(do
   let R <-Qb o X.env
   ai e.atName
   let (f,first) <-Pe [R] (Ni R m pl)
   qr g f first (Dc g$ wa [] X.env) (Lh g$ pf [] X.env)):=by rfl) :
  FE T X (Ϡ (ϟ o m e) [] [] g)$ vf E ps.length m f zb:=by
 rintro t s st H Q I ⟨μ,ρ,σ,hE,N,hp⟩;refine W.methodCall_KW (Bd (he t s st H (λx n=>∃ a c C vs l,x=ϖ a/\n a=BD (.yb (T.ca c) C vs)/\Er E c=BD l/\vs.lookup m=A5/\Ro T ps.length l (x::([]++[])) n Q (XE X st)) I ⟨μ,ρ,σ,hE,N,hp.bind λd i B v n D e1 ϊ S b=>?_⟩) λu s1 ⟨x,n,F,rx,a,c,C,vs,l,ex,V,j,p,q⟩=>?_) ht
 ·unfold Kj at b;cases G:Sj i d with
  |none=>rw[G]at b;exact b.elim
  |some z=>
   obtain⟨c,gs⟩:=z;rw[G]at b;dsimp only at b;cases j:Er E c with
   |none=>rw[j]at b;exact b.elim
   |some l=>
    cases p:gs.lookup m with
    |some y=>rw[j,p]at b;exact b.elim
    |none=>
     rw[j,p]at b;dsimp only at b;obtain⟨a,C,vs,rfl,Y,Z⟩:=Vz ϊ S G;have r:Pb T _ _ B n (Fi ps.length l d [] i) Q:=b;unfold Fi at r;by_cases L:([]:lv).length+1=ps.length
     ·rw[ja L]at r;exact⟨a,c,C,vs,l,rfl,Y,j,(TC Z).2 p,B,i,[d],pb.cons S pb.nil,L,ϊ,r⟩
     ·rw[pa L]at r;exact r.elim
 ·subst ex;obtain rfl:u=Db a:=rx;obtain⟨ϋ,f',ό,fd,hb,P⟩:=h _ (pO j);rw[hK]at ϋ ό P;exact HK F V ϋ ό p$ W.callWith_K0 F.Ki ό.kp$ nJ (vs:=[ϖ a]) P hr (.all hb) Ϟ F (ϛ rfl Ϟ) q
end
structure iv(K:ϗ)(C:Addr)(x qual:Str)(st:Stmt)(ps:ab)(f:Addr):Prop where
 ex:∃ fd,oH K x qual st f fd/\∀ us:em,us.length=ps.length->bindArgs fd ⟨us,[]⟩=pure (ps.zip us)
section
variable{P:Ba}{w:Ra}{K:ϗ}{mg:Str->Option Value}{base:Heap}{ca:Nat->Addr}{tx:Tx}
def ET{st}(h:iv K C x a st ps f)(S:Ec N ps$ Kf st)
  (j:∀ b A c s H E,Md k (A.deeper$ rg a (Kf st) s.heap.objs.size f b)->Ek ⟨K,ca,tx⟩ (vp (Kk P w) P w K mg base N a (Kf st) f b A c s H E) (Nj st) g) :
  Mr ⟨K,ca,tx⟩ P w mg base (k+1) f ps$ Ch N.length g:=by
 obtain⟨n,F,d⟩:=h.ex;obtain⟨o,p,kV,i,q,m,b,ct,l,rfl,lk,e⟩:=F.ex;exact⟨_,d,GC lk e S$ j b⟩
def Mr.Uc{T}{k}{f}{ps}{a}(h:Mr T P w mg base k f ps a):Mr T P w mg base k f ps (λb=>L4.Uc$ a b):=by
 obtain⟨c,d,e⟩:=h;exact⟨c,d,uM e⟩
def Mr.Yd(h:Mr T P w mg base k f ps a):Mr T P w mg base k f ps$ L4.Yd a:=by rw[Ur];exact h
end
noncomputable def qv(s:Stmt)(j:Nat):Stmt:=match s with
 | .ClassDef _ _ _ b _ _ _ _ _ _ _=>b.getD j (.Pass ⟨0,0,0,0⟩)
 |s=>s
def iS{K:ϗ}{st}{kV d g b ct}
  (j:∀ kV d g e b ct i,i.length=ps.length->bindArgs (Ϯ x a (xl st) (Nj st) (Kf st) Fc kV d g e b ct) ⟨i,[]⟩=pure (ps.zip i))
  (l:K.lookup f=BD ⟨m,n,.func$ Ϯ x a (xl st) (Nj st) (Kf st) Fc kV d g e b ct,h⟩)
  (c:ϻ K b a=E8) (k:Ϻ K (Db f)=E8):iv K C x a st ps f:=⟨⟨_,GS l c k,j kV d g e b ct⟩⟩
section
variable{T:Tb}{P:Ba}{w:Ra}{mg:Str->Option Value}{base:Heap}
def qH(T:Tb)(P:Ba)(w:Ra)(mg:Str->Option Value)(base:Heap)(k:Nat)(m:Str)(ps:ab)(a:Mt):Prop:=∀ q∈a,WK T P w mg base k m q.1 ps q.2
def f9:qH T P w mg base k m ps []:=λq h=>nomatch h
def Č(l:zr T.K$ T.ca c)(n:Su T.K (T.ca c) m f)(o:Mr T P w mg base j f ps e)(p:j<=k)(h:qH T P w mg base k m ps g):qH T P w mg base k m ps$ (c,e)::g:=λq d=>by
 rcases Da.mp d with rfl|d
 ·obtain⟨i,a,b⟩:=o;exact⟨l,f,n,i,a,b.mono p⟩
 ·exact h q d
end
end L4
namespace L4
open L2
def nr{a b:c}(h:a=b):a=b:=h
section
variable{α β:Type}{ρ:Ev}{σ:Ea}
@[simp] theorem Ad a σ(k:α->M β):(J a σ).bind k=k a σ:=rfl
@[simp] theorem yhm(a:α) σ:ret a σ=J a σ:=rfl
@[simp] theorem Yl m(k:α->M β) σ:Kc m k σ=(m σ).bind k:=rfl
@[simp] theorem Cy d:eC d ρ σ=J d σ:=rfl
@[simp] theorem Uu d r:ya 0 (BD d::r) σ=J d σ:=rfl
@[simp] theorem RA i o r:ya (i+1) (o::r) σ=ya i r σ:=rfl
@[simp] theorem zrw o a b:Fb o a b ρ σ=(a ρ σ).bind (iN o$ b ρ):=rfl
@[simp] theorem zq7 o m x:iN o m x σ=(m σ).bind (o x):=rfl
@[simp] theorem uO o a:Vd o a ρ σ=(a ρ σ).bind o:=rfl
@[simp] theorem yiv b:rC (ϒ b) σ=J b σ:=rfl
@[simp] theorem yms(p q:M α):xj p q E8 σ=p σ:=rfl
@[simp] theorem ymr(p q:M α):xj p q J8 σ=q σ:=rfl
@[simp] theorem zv1 c:XO c σ=J (!c) σ:=rfl
@[simp] theorem zp5(k:Bool->M α) b:Ly k (ϒ b) σ=k b σ:=rfl
@[simp] theorem znk c:SM c σ=J (ϒ$ !c) σ:=rfl
@[simp] theorem yll f:eT f ρ σ=(f ρ σ).bind rC:=rfl
@[simp] theorem zq5 a b:YB a b ρ σ=(a ρ σ).bind (xj (b ρ)$ ret J8):=rfl
@[simp] theorem yas a b:Uw a b ρ σ=(a ρ σ).bind (xj (ret E8)$ b ρ):=rfl
@[simp] theorem zq6 a:Ap a ρ σ=(a ρ σ).bind XO:=rfl
@[simp] theorem zrv a b:QW a b ρ σ=(a ρ σ).bind (Ly$ xj (b ρ)$ ret$ ϒ J8):=rfl
@[simp] theorem yb6 a b:dQ a b ρ σ=(a ρ σ).bind (Ly$ xj (ret$ ϒ E8)$ b ρ):=rfl
@[simp] theorem zr0 a:nY a ρ σ=(a ρ σ).bind (Ly SM):=rfl
@[simp] theorem yb2 t a b:iw t a b ρ σ=(t ρ σ).bind (xj (a ρ)$ b ρ):=rfl
@[simp] theorem Ww:zb ρ σ=J [] σ:=rfl
@[simp] theorem LA e r:Qa e r ρ σ=(e ρ σ).bind (IL$ r ρ):=rfl
@[simp] theorem Xz m x:IL m x σ=(m σ).bind (gN x):=rfl
@[simp] theorem zB x xs:gN x xs σ=J (x::xs) σ:=rfl
@[simp] theorem J5 a:Ri a ρ σ=(a ρ σ).bind Ix:=rfl
@[simp] theorem yix:Ix [] σ=J (ϑ []) σ:=rfl
@[simp] theorem yiy a:Ix [a] σ=J (ϑ [a]) σ:=rfl
@[simp] theorem Ŕ a b:Ix [a,b] σ=J (ϑ [a,b]) σ:=rfl
@[simp] theorem yi0 a b c:Ix [a,b,c] σ=J (ϑ [a,b,c]) σ:=rfl
@[simp] theorem yi1 a b c d:Ix [a,b,c,d] σ=J (ϑ [a,b,c,d]) σ:=rfl
@[simp] theorem yi2 a b c d e:Ix [a,b,c,d,e] σ=J (ϑ [a,b,c,d,e]) σ:=rfl
@[simp] theorem yb3 a:Oi a ρ σ=(a ρ σ).bind Nr:=nr rfl
theorem aA(h:Nat.ble a.length 1000=E8):Nr a σ=J (ύ a) σ:=by unfold Nr;rw[ja (show a.length<=Og from Oe h)];rfl
@[simp] theorem ã a:dt a ρ σ=(a ρ σ).bind uE:=rfl
@[simp] theorem yey:uE [] σ=J (O σ.length) (σ++[Ϗ []]):=nr rfl
@[simp] theorem yoi g i j:oI g (U i) (U j) σ=J (U$ g i j) σ:=nr rfl
@[simp] theorem yoe g i j:oB g (U i) (U j) σ=J (ϒ$ g i j) σ:=nr rfl
theorem XF(h:C i j=E8):zz C g (U i) (U j) σ=J (U$ g i j) σ:=by
 show (if C i j=E8 then ret _ else Ab) σ=_;rw[ja h];rfl
@[simp] theorem zv8 i j(h:0<j)(a:j<1073741824):xz (U i) (U j) σ=J (U$ i / j) σ:=XF (by simp[rL,h,a])
@[simp] theorem ZK i j(h:0<j):pq (U i) (U j) σ=J (U$ i % j) σ:=XF (by simp[dM,h])
theorem aZ(h:-(2 ^ 64)<i)(a:i<2 ^ 64):Tw (U i) (U j) σ=J (U$ i * j) σ:=XF (by simp only[VG,Ur,zf,Fa,Rb];exact ϐ ⟨h,a⟩)
def G1(h:-(2 ^ 64)<j)(a:j<2 ^ 64):Tw (U i) (U j) σ=J (U$ i * j) σ:=XF (by simp only[VG,Ur,zf,Fa,Rb];exact ϓ ⟨h,a⟩)
def vQ(h:xE i j=E8):sC (U i) (U j) σ=J (U$ i ^ j.toNat) σ:=XF h
@[simp] theorem p12:sC (U 10) (U 12) σ=J (U 1000000000000) σ:=vQ (by simp[xE])
@[simp] theorem p4:sC (U 10) (U 4) σ=J (U 10000) σ:=vQ (by simp[xE])
@[simp] theorem zwl i:XR (U i) σ=J (U$ -i) σ:=nr rfl
@[simp] theorem znq i j:jh (U i) (U j) σ=J (U$ i+j) σ:=nr rfl
theorem rK{xs a}(h:xs.length+a.length<=Og):jh (ϑ xs) (ϑ a) σ=J (ϑ$ xs++a) σ:=by show (if _ then _ else _:M D) σ=_;rw[ja h];rfl
def KI{xs a}(h:xs.length+a.length<=Og):jh (ύ xs) (ύ a) σ=J (ύ$ xs++a) σ:=by
 show nA (ύ xs) (ύ a) σ=_;unfold nA;simp only[jf];rw[ja h]
@[simp] theorem zn1 σ:Br Ϝ Ϝ σ=J (ϒ E8) σ:=nr rfl
@[simp] theorem zn0 b:Br (U b) Ϝ σ=J (ϒ J8) σ:=nr rfl
@[simp] theorem zn2 b:Br (ϑ b) Ϝ σ=J (ϒ J8) σ:=nr rfl
@[simp] theorem zii σ:GL Ϝ Ϝ σ=J (ϒ J8) σ:=nr rfl
@[simp] theorem zih b:GL (U b) Ϝ σ=J (ϒ E8) σ:=nr rfl
theorem nK(h:il σ 8 x y=BD b):wl x y σ=J (ϒ b) σ:=by unfold wl;rw[h]
def tE(h:il σ 8 x y=BD b):sj x y σ=J (ϒ$ !b) σ:=by unfold sj;rw[h]
@[simp] theorem zv9 i j:wl (U i) (U j) σ=J (ϒ$ i == j) σ:=nK (by simp[il,kd,xr,Kl])
@[simp] theorem zwk i j:sj (U i) (U j) σ=J (ϒ$ !(i == j)) σ:=tE (by simp[il,kd,xr,Kl])
@[simp] theorem zwa i j:wl (ϙ i) (ϙ j) σ=J (ϒ$ i == j) σ:=nK (by simp[il,kd,xr,Kl])
theorem qF{xs}(h:Ep xs k=BD d):Kb (ϑ xs) (U k) σ=J d σ:=by simp[Kb,Ui,h]
def WC{xs}(h:Ep xs k=BD d):Kb (ύ xs) (U k) σ=J d σ:=by simp[Kb,Ui,h]
@[simp] theorem ym0 a r:Kb (ϑ$ a::r) (U 0) σ=J a σ:=qF$ Lr rfl
@[simp] theorem ym1 a b r:Kb (ϑ$ a::b::r) (U 1) σ=J b σ:=qF$ Lr rfl
@[simp] theorem ym2 a b c r:Kb (ϑ$ a::b::c::r) (U 2) σ=J c σ:=qF$ Lr rfl
@[simp] theorem ym3 a b c d r:Kb (ϑ$ a::b::c::d::r) (U 3) σ=J d σ:=qF$ Lr rfl
@[simp] theorem wZ xs:Gq [ϑ xs] σ=J (U xs.length) σ:=nr rfl
@[simp] theorem zn3 xs:Gq [ύ xs] σ=J (U xs.length) σ:=nr rfl
@[simp] theorem zn4 xs:Gq [ϫ xs] σ=J (U xs.length) σ:=by simp[Gq,Ui]
@[simp] theorem zkr o a:So o a ρ σ=(a ρ σ).bind o:=rfl
@[simp] theorem bP n f a b:Gf n f a b ρ σ=(b ρ σ).bind (zq n f a):=rfl
@[simp] theorem ě f a:zq 1 f [] [a] σ=f [a] σ:=by unfold zq;rw[ja ⋯];simp
@[simp] theorem X3 f a b:zq 2 f [] [a,b] σ=f [a,b] σ:=by unfold zq;rw[ja ⋯];simp
@[simp] theorem U3 f a b c:zq 3 f [] [a,b,c] σ=f [a,b,c] σ:=by unfold zq;rw[ja ⋯];simp
@[simp] theorem yc6 f a b c:zq 3 f [c] [a,b] σ=f [a,b,c] σ:=by unfold zq;rw[ja ⋯];simp
@[simp] theorem yl2 f a b c d:zq 4 f [] [a,b,c,d] σ=f [a,b,c,d] σ:=by unfold zq;rw[ja ⋯];simp
@[simp] theorem yl3 f a b c d e:zq 5 f [] [a,b,c,d,e] σ=f [a,b,c,d,e] σ:=by unfold zq;rw[ja ⋯];simp
@[simp] theorem zx6:Wh ρ σ=J (Ϙ ρ) σ:=rfl
@[simp] theorem Pi g h:lc g h ρ σ=(g ρ σ).bind (UG h):=rfl
@[simp] theorem cj h ρ:UG h (Ϙ ρ) σ=h ρ σ:=rfl
@[simp] theorem Þ h d:UG h (.rt d) σ=J (.rt d) σ:=rfl
noncomputable def Hm(ρ:Ev)(k:α->M Fl):ii α->ii Fl
 | J a b=>k a b
 | .ex x b=>J (.xc ρ x) b
 | ϕ=>ϕ
@[simp] theorem wn ρ(m:M α) k:xs ρ m k σ=Hm ρ k (m σ):=by unfold xs Hm;cases m σ<;>rfl
@[simp] theorem dm ρ k(a:α):Hm ρ k (J a σ)=k a σ:=rfl
@[simp] theorem zx8 f:vh f ρ σ=Hm ρ mM (f ρ σ):=wn ..
@[simp] theorem zxt d:mM d σ=J (.rt d) σ:=rfl
@[simp] theorem rT f:Wl f ρ σ=Hm ρ (CL ρ) (f ρ σ):=wn ..
@[simp] theorem qV d:CL ρ d σ=J (Ϙ ρ) σ:=rfl
@[simp] theorem G4 i f:Xe i f ρ σ=Hm ρ (NN i ρ) (f ρ σ):=wn ..
@[simp] theorem zyk i d:NN i ρ d σ=J (Ϙ$ ρ.set i$ BD d) σ:=rfl
@[simp] theorem È t a b:Mh t a b ρ σ=Hm ρ (xj (a ρ)$ b ρ) (t ρ σ):=wn ..
@[simp] theorem zyb g a:mI g a ρ σ=(g ρ σ).bind (aK a):=rfl
@[simp] theorem zzy a:aK a (Ϙ ρ) σ=J (Ϙ ρ) σ:=rfl
@[simp] theorem fC n g a:Ch n g a σ=oo (g (a.map BD++List.replicate (n - a.length) A5) σ):=rfl
@[simp] theorem rY d:oo (J (.rt d) σ)=J d σ:=rfl
@[simp] theorem RN:oo (J (Ϙ ρ) σ)=J Ϝ σ:=rfl
@[simp] theorem ydb f:Uc f σ=Yf σ (f σ):=nr rfl
@[simp] theorem Ip f:Di f ρ σ=Yf σ (f ρ σ):=nr rfl
theorem Ry(h:cl d=E8):fz k σ m d=BD d:=by cases m<;>(unfold fz;rw[ja h])
def HH(h:cl d=E8)(b:a.take σ.length=σ):Yf σ (J d a)=J d σ:=by
 unfold Yf;dsimp only;rw[ja b,Ry h]
@[simp] theorem zg7(h:cl d=E8):Yf σ (J d σ)=J d σ:=HH h re
theorem VQ{j j':Ea}{xs}(h:Af xs=E8):Yf σ (J (O σ.length)$ σ++[Ϗ xs]++j)=J (ύ xs) σ:=by
 unfold Yf;dsimp only;rw[ja ⋯];have e:fz σ.length (σ++[Ϗ xs]++j) 6 (O σ.length)=BD (ύ xs):=by
  unfold fz;dsimp only;rw[pa$ Qd _];have:(σ++[Ϗ xs]++j)[σ.length]?=BD (Ϗ xs):=by simp
  rw[this];dsimp only;have d:∀ a m,Af a=E8->Xl (fz σ.length (σ++[Ϗ xs]++j) m) a=BD a:=by
   intro a m;induction a with
   |nil=>intro _;rfl
   |cons y a f=>
    intro c;have b:cl y=E8/\Af a=E8:=by simpa [Af]using c
    unfold Xl;rw[Ry b.1,f b.2]
  rw[d xs 5 h];rfl
 rw[e]
@[simp] theorem M6 i:cl (U i)=E8:=by simp[cl]
@[simp] theorem ykn i:cl (ϒ i)=E8:=by simp[cl]
@[simp] theorem ybk i:cl (ϙ i)=E8:=by simp[cl]
@[simp] theorem ybf:cl Ϝ=E8:=by simp[cl]
@[simp] theorem ybm xs:cl (ϑ xs)=Af xs:=by simp[cl]
@[simp] theorem ybe xs:cl (ύ xs)=Af xs:=by simp[cl]
@[simp] theorem ybi n:cl (O n)=J8:=by simp[cl]
@[simp] theorem zrj:Af []=E8:=by simp[Af]
@[simp] theorem E6 d a:Af (d::a)=(cl d && Af a):=by simp[Af]
theorem zp:∀ {a:lv},(∀ d∈a,cl d=E8)->Af a=E8
 |[],_=>by simp
 |d::a,h=>by rw[E6,h d ua,zp λx b=>h x$ ra _ b];rfl
def U8{f:a->D}{l:List a}(h:∀ x,cl (f x)=E8):Af (l.map f)=E8:=zp λd b=>by obtain⟨x,_,rfl⟩:=Ja.mp b;exact h x
@[simp] theorem zkf(l:gV):Af (l.map U)=E8:=U8 M6
@[simp] theorem jM xs a:Af (xs++a)=(Af xs && Af a):=by
 induction xs with
 |nil=>simp
 |cons x xs b=>simp[b,Lz]
theorem ķ{xs}{k}(a:0<=k)(h:k<xs.length):Ep xs k=BD (xs.getD k.toNat Ϝ):=by
 obtain⟨n,rfl⟩:=Int.eq_ofNat_of_zero_le a;have b:n<xs.length:=by lia
 refine Lr ?_;show xs[n]?=BD (xs.getD n Ϝ);rw[Ue,Bb b];rfl
def E7{a:gV}{k:Int}(b:0<=k)(h:k<a.length):Ep (a.map U) k=BD (U$ a.getD k.toNat 0):=by
 rw[ķ b (by simpa using h)];have c:k.toNat<a.length:=by lia
 simp[c]
@[simp] theorem yns a:Nr [a] σ=J (ύ [a]) σ:=nr rfl
@[simp] theorem ynr:Nr [] σ=J (ύ []) σ:=nr rfl
@[simp] theorem ynt a b:Nr [a,b] σ=J (ύ [a,b]) σ:=nr rfl
@[simp] theorem yez a b:uE [a,b] σ=J (O σ.length) (σ++[Ϗ [a,b]]):=nr rfl
@[simp] theorem sE xs:We (σ++[Ϗ xs]) σ.length=BD xs:=by simp[We]
@[simp] theorem az a b:(σ++[a]).set σ.length b=σ++[b]:=by
 rw[Ai _ _$ va _];simp
@[simp] theorem zku o f a:Dw o f a ρ σ=(f ρ σ).bind (yu o$ a ρ):=rfl
theorem CC{xs}(h:jf σ x=BD xs):yu o m x σ=(m σ).bind (o x):=by unfold yu;rw[h];rfl
def yF{xs}(h:xs.length<1000):Xj (O σ.length) [d] (σ++[Ϗ xs])=J Ϝ (σ++[Ϗ$ xs++[d]]):=by
 unfold Xj;simp only[sE];rw[ja (show xs.length<Og from h),az]
def fV{ws:gV}(h:Ui σ x=BD (ws.map U)):Uy neg (U w) x σ=J (ϒ (if neg then !(ws.any (·== w))else ws.any (·== w))) σ:=by
 have a:∀ l:gV,(l.map U).all ev=E8:=λl=>by simp[ev,sc]
 have b:∀ l:gV,((l.map U).any λz=>gw z$ U w)=l.any (·== w):=λl=>by simp[gw,sc,Kl,Function.comp_def]
 unfold Uy;rw[h];simp only[a,b,show ev (U w)=E8 from rfl,Bool.and_self,Dg]
@[simp] theorem F7 xs:Ui σ (ύ xs)=BD xs:=nr rfl
@[simp] theorem zja xs:Ui σ (ϑ xs)=BD xs:=nr rfl
@[simp] theorem bG f:Gi f ρ σ=(f ρ σ).bind Wv:=nr rfl
@[simp] theorem Ó a:Wv (ϑ a) σ=J (.seq a) σ:=nr rfl
@[simp] theorem cM a:Wv (ύ a) σ=J (.seq a) σ:=nr rfl
@[simp] theorem qI f:Jo f ρ σ=(f ρ σ).bind zt:=nr rfl
theorem Qy(h:-(2 ^ 62)<=j)(a:j<2 ^ 62):zt (U j) σ=J (.seq$ mv j.toNat) σ:=by
 unfold zt;dsimp only;rw[ja (by simp only[WH,Ur,Fa,Rb];exact⟨h,a⟩)]
@[simp] theorem nB b c a:Qk b c a ρ σ=Hm ρ (eG c a ρ) (b ρ σ):=wn ..
@[simp] theorem kD c a b:eG c a ρ (.seq b) σ=vm c a b ρ σ:=nr rfl
@[simp] theorem nz b a:vm b a [] ρ σ=J (Ϙ ρ) σ:=nr rfl
theorem GY(h:c d ρ=BD b):vm c a (d::e) ρ σ=(a b σ).bind (fw$ vm c a e):=by
 show (match c d ρ with|none=>Ab|some b=>Kc (a b) (fw$ vm c a e)) σ=_;rw[h];rfl
@[simp] theorem Qo i a d b:vm (pd i) a (d::b) ρ σ=(a (ρ.set i$ BD d) σ).bind (fw$ vm (pd i) a b):=GY rfl
@[simp] theorem Yh k:fw k (Ϙ ρ) σ=k ρ σ:=nr rfl
theorem JD(h:m σ=J a b):Vt m σ=J a b:=by unfold Vt;rw[h]
end
section
variable{α β:Type}{ρ:Ev}{σ:Ea}
@[simp] theorem zi9 a:Ui σ (ϫ a)=BD (a.map U):=nr rfl
theorem zwg(b:0<=k)(h:k<a.length):Kb (ϫ a) (U k) σ=J (U$ a.getD k.toNat 0) σ:=by
 simp[Kb,E7 b h]
@[simp] theorem znw c i:jz c (U i) σ=J (ϒ$ match c with | .int=>E8|_=>J8) σ:=nr rfl
@[simp] theorem zwd c i:jz c (ϒ i) σ=J (ϒ$ match c with | .int=>E8 | .bool=>E8|_=>J8) σ:=nr rfl
@[simp] theorem znz xs:jz .tuple (ϑ xs) σ=J (ϒ E8) σ:=nr rfl
@[simp] theorem zgt o d a b c:dU o d a b c ρ σ=(a ρ σ).bind (MO o d (b ρ)$ c ρ):=nr rfl
noncomputable def pl:Nat->D->Bool
 |_,Ϝ=>E8
 |_,ϒ _=>E8
 |_,U _=>E8
 |_,ϙ _=>E8
 |n+1,ϑ xs=>xs.all (pl n)
 |n+1,ύ xs=>xs.all (pl n)
 |_,_=>J8
theorem jL{f:D->D->Option Bool}:∀ {xs:lv},(∀ x∈xs,f x x=BD E8)->Ko f xs xs=BD E8
 |[],_=>rfl
 |x::xs,h=>by unfold Ko;rw[h x ua,jL λy a=>h y$ ra _ a];rfl
theorem lG:∀ (n:Nat) (x:D),pl n x=E8->il σ n x x=BD E8
 |0,x,h=>by cases x<;>simp[pl]at h<;>simp[il,kd,xr,Kl]
 |n+1,x,h=>by
  cases x with
  |ec=>rfl
  |bl b=>simp[il,kd,xr,Kl]
  |int b=>simp[il,kd,xr,Kl]
  |str b=>simp[il,kd,xr,Kl]
  |db xs=>
   simp[pl,Vb]at h;exact jL λy a=>lG n y$ h y a
  |qa xs=>
   simp[pl,Vb]at h;exact jL λy a=>lG n y$ h y a
  |_=>trivial
def mL(h:pl 8 x=E8):wl x x σ=J (ϒ E8) σ:=nK$ lG 8 x h
def Gx(h:pl 8 x=E8):sj x x σ=J (ϒ J8) σ:=tE$ lG 8 x h
@[simp] theorem zo8 f b a:tM f b a ρ σ=Hm ρ (CK ρ b a) (f ρ σ):=wn ..
@[simp] theorem zgj o a b c x:MO o a b c x σ=(b σ).bind (wL o a c x):=nr rfl
@[simp] theorem zgl o a c x y:wL o a c x y σ=(o x y σ).bind (DO a c y):=nr rfl
@[simp] theorem zgk a c y b:DO a c y (ϒ b) σ=xj (Kc c$ a y) (ret$ ϒ J8) b σ:=nr rfl
@[simp] theorem zpf b a d:CK ρ b a d σ=Hm ρ (NL ρ a d) (b ρ σ):=wn ..
@[simp] theorem zpg a d x:NL ρ a d x σ=Hm ρ (Zx ρ d x) (a ρ σ):=wn ..
@[simp] theorem ŝ d a r:Zx ρ d (O σ.length) (U 0) (σ++[Ϗ$ a::r])=J (Ϙ ρ) (σ++[Ϗ$ d::r]):=by
 have:jD (O σ.length) (U 0) d (σ++[Ϗ$ a::r])=J () (σ++[Ϗ$ d::r]):=by
  simp only[jD,sE];rw[show Hr (a::r).length 0=BD 0 by simp[Hr]];simp
 unfold Zx;rw[this]
@[simp] theorem Ŗ d a b r:Zx ρ d (O σ.length) (U 1) (σ++[Ϗ$ a::b::r])=J (Ϙ ρ) (σ++[Ϗ$ a::d::r]):=by
 have:jD (O σ.length) (U 1) d (σ++[Ϗ$ a::b::r])=J () (σ++[Ϗ$ a::d::r]):=by
  simp only[jD,sE];rw[show Hr (a::b::r).length 1=BD 1 by simp[Hr];lia];simp
 unfold Zx;rw[this]
theorem lW(h:cl d=E8):Yf σ (J d$ σ++[a])=J d σ:=HH h ⋯
@[simp] theorem zf6(f:a->Bool)(l:List a):GD (l.map λx=>ϒ$ f x)=BD (l.map f):=by
 induction l with
 |nil=>rfl
 |cons x l b=>simp[GD,b]
@[simp] theorem q8 l:Jp (l.map U)=BD l:=by
 induction l with
 |nil=>rfl
 |cons x l a=>simp[Jp,a]
theorem L5{f:a->Bool}{l:List a}:DH [ύ (l.map λx=>ϒ$ f x)] σ=J (ϒ$ l.all f) σ:=by
 simp only[DH];simp
def Ã(h:l.length<=1000):OH (ύ$ l.map U) σ=J (U (Km l).length) σ:=by
 simp only[OH,jf,Gk,q8];rw[ja (show l.length<=Og from h)]
theorem vN:∀ (l s:gV),(l.foldl PyProof.Rows.step_dedup s).length<=s.length+l.length/\((l.foldl PyProof.Rows.step_dedup s).length=s.length+l.length ↔ (l.Nodup/\∀ x∈l,x ∉ s))
 |[],s=>by simp
 |x::l,s=>by
  rw[qi];by_cases h:s.any (·== x)=E8
  ·have i:x∈s:=by simpa using h
   rw[show PyProof.Rows.step_dedup s x=s by unfold PyProof.Rows.step_dedup;rw[ja h]];obtain⟨g,d⟩:=vN l s;refine⟨by simp;lia,λe=>?_,λe=>absurd i$ e.2 x ua⟩;simp[gb]at e;lia
  ·have i:x ∉ s:=by simpa using h
   rw[show PyProof.Rows.step_dedup s x=s++[x] by unfold PyProof.Rows.step_dedup;rw[pa h]];obtain⟨g,d⟩:=vN l (s++[x]);simp only[Nb,gb,Dd]at g d;refine⟨by simp[gb];lia,?_⟩;rw[gb,show s.length+(l.length+1)=s.length+(0+1)+l.length by lia,d,Wc];constructor
   ·rintro ⟨a,b⟩;refine⟨⟨λj=>(b x j) ⋯,a⟩,λy f=>?_⟩;rcases Da.mp f with rfl|f;all_goals grind
   ·rintro ⟨⟨a,b⟩,c⟩;refine⟨b,λy f k=>?_⟩;all_goals grind
def Ł l:((Km l).length:Int)=(l.length:Int) ↔ l.Nodup:=by
 have:=(vN l []).2;simp at this;unfold Km;rw[<-this];lia
end
section
variable{ρ:Ev}{σ:Ea}
@[simp] theorem iX c n a b:lq c n a b ρ σ=(b ρ σ).bind (Bl c n a):=nr rfl
theorem MM(h:a.length+1=n):Bl c n b a σ=uz σ.length (b (O σ.length::a)$ σ++[ϔ c []]):=by unfold Bl;rw[ja h]
@[simp] theorem lP c b a:Bl c 2 b [a] σ=uz σ.length (b [O σ.length,a]$ σ++[ϔ c []]):=MM rfl
@[simp] theorem aD n:uz n (J Ϝ σ)=J (O n) σ:=nr rfl
@[simp] theorem cQ a f c b:Jl a f c b ρ σ=Hm ρ (dO ρ a f b) (c ρ σ):=wn ..
@[simp] theorem XT a f b d:dO ρ a f b d σ=Hm ρ (Zw ρ a f d) (b ρ σ):=wn ..
theorem HG(h:cs.contains c=E8)(a:fs.length<1000):Zw ρ cs f d (O σ.length) (σ++[ϔ c fs])=J (Ϙ ρ) (σ++[ϔ c$ Tj f d fs]):=by
 have e:rz cs f d (O σ.length) (σ++[ϔ c fs])=J () (σ++[ϔ c$ Tj f d fs]):=by
  have:(σ++[ϔ c fs])[σ.length]?=BD (ϔ c fs):=by simp
  unfold rz;simp only[this];rw[ja ⋯];simp
 unfold Zw;rw[e]
def LD(h:b.length=a.length):Sj σ (Ϸ c b a)=BD (c,b.zip a):=by unfold Sj;dsimp only;rw[ja h]
def kh(h:Sj σ x=BD (c,a))(b:cs.contains c=E8)(e:a.lookup f=BD d):bc cs f x σ=J d σ:=by
 unfold bc;rw[h];dsimp only;rw[ja b,e]
@[simp] theorem iZ b n m f a:vf b n m f a ρ σ=(f ρ σ).bind (Kj b n m$ a ρ):=nr rfl
theorem Lp(h:Sj σ x=BD (c,gs))(f:Er d c=BD a)(e:gs.lookup m=A5):Kj d n m b x σ=(b σ).bind (Fi n a x):=by
 unfold Kj;rw[h];dsimp only;rw[f,e];rfl
def EG(h:a.length+1=n):Fi n b x a σ=b (x::a) σ:=by unfold Fi;rw[ja h]
@[simp] theorem zvm a x:Fi 1 a x [] σ=a [x] σ:=EG rfl
@[simp] theorem ω b x a:Fi 2 b x [a] σ=b [x,a] σ:=EG rfl
@[simp] theorem zvo c x a b:Fi 3 c x [a,b] σ=c [x,a,b] σ:=EG rfl
theorem KU(h:Af (a.map (·.2))=E8):Yf σ (J (O σ.length)$ σ++[ϔ c a])=J (Ϸ c (a.map (·.1)) (a.map (·.2))) σ:=by
 unfold Yf;dsimp only;rw[ja ⋯];have e:fz σ.length (σ++[ϔ c a]) 6 (O σ.length)=BD (Ϸ c (a.map (·.1)) (a.map (·.2))):=by
  unfold fz;dsimp only;rw[pa$ Qd _];have:(σ++[ϔ c a])[σ.length]?=BD (ϔ c a):=by simp
  have i:∀ b (m:Nat),Af b=E8->Xl (fz σ.length (σ++[ϔ c a]) m) b=BD b:=by
   intro b m;induction b with
   |nil=>intro _;rfl
   |cons y b g=>
    intro f;have d:cl y=E8/\Af b=E8:=by simpa using f
    unfold Xl;rw[Ry d.1,g d.2]
  simp_all
 rw[e]
@[simp] theorem ybg c b a:cl (Ϸ c b a)=Af a:=by simp[cl]
@[simp] theorem zny i:jz .str (ϙ i) σ=J (ϒ E8) σ:=nr rfl
@[simp] theorem znx c:jz c Ϝ σ=J (ϒ J8) σ:=by cases c<;>rfl
end
end L4
namespace L2
open Spec
section
variable{κ:Type}[DecidableEq κ]
noncomputable def wm(a:List$ κ × V)(k:κ):Option V:=(a.find? λb=>decide$ b.1=k).map (·.2)
noncomputable def Sl(a:List$ κ × V)(k:κ)(v:V):List$ κ × V:=
 if (a.any λb=>decide$ b.1=k)=E8 then a.map (λb=>if b.1=k then (b.1,v)else b)else a++[(k,v)]
noncomputable def sx(a:List$ κ × V)(k:κ):List$ κ × V:=a.filter λb=>decide$ b.1≠k
def YG{k:κ}(e:p.1=k):wm (p::r) k=BD p.2:=by simp[wm,Ed,e]
def ZH{k:κ}(e:¬ p.1=k):wm (p::r) k=wm r k:=by simp[wm,Ed,e]
theorem kU(k:κ):∀ a:List$ κ × V,(a.any λb=>decide$ b.1=k)=(wm a k).isSome
 |[]=>rfl
 |p::r=>by
  rw[sf];by_cases e:p.1=k
  ·simp only[YG e,yc e,Bool.true_or,Option.isSome_some]
  ·rw[ZH e,ub e,IB];exact kU k r
def vE a(k:κ) v:(Sl a k v).length<=a.length+1:=by
 unfold Sl;split
 ·rw[Oa];lia
 ·rw[Nb,gb,Dd];lia
theorem Zn.Bg(r:Zn o u):o.isSome=u.isSome:=by
 cases o with
 |none=>cases u with
  |none=>rfl
  |some _=>exact(show False from r).elim
 |some _=>cases u with
  |none=>exact(show False from r).elim
  |some _=>rfl
def KV.val(r:KV a vs)(k:κ):Zn (wm a k)$ Pg vs k:=by
 unfold KV at r;induction r with
 |nil=>exact ϯ
 |@cons p q ps d h t i=>
  obtain⟨f,g⟩:=h;by_cases e:p.1=k
  ·have c:q.1=k:=f.symm.trans e;have b:Pg (q::d) k=BD q.2:=by simp[Pg,Ed,c]
   rw[YG e,b];exact g
  ·have c:¬ q.1=k:=λz=>e$ f.trans z;have b:Pg (q::d) k=Pg d k:=by simp[Pg,Ed,c]
   rw[ZH e,b];exact i
def KV.any(r:KV a c)(k:κ):(a.any λb=>decide$ b.1=k)=c.any λb=>decide$ b.1=k:=by
 unfold KV at r;induction r with
 |nil=>rfl
 |cons h t d=>rw[sf,sf,d,h.1]
def KV.Sz(r:KV b vs)(k:κ)(g:Zc y u) :
  KV (b.map λa=>if a.1=k then (a.1,y)else a) (vs.map λa=>if a.1=k then (a.1,u)else a):=by
 unfold KV at r ⊢;induction r with
 |nil=>exact Ϟ
 |@cons p q ps i h t f=>
  rw[Sa,Sa];refine ϛ ?_ f;obtain⟨c,d⟩:=h;by_cases e:p.1=k
  ·rw[ja e,ja$ c.symm.trans e];exact⟨c,g⟩
  ·rw[pa e,pa (λz=>e$ c.trans z)];exact⟨c,d⟩
def KV.put(r:KV a b)(k:κ)(c:Zc y u):KV (Sl a k y)$ stored b k u:=by
 unfold Sl stored;rw[r.any k];by_cases e:(b.any λd=>decide$ d.1=k)=E8
 ·rw[ja e,ja e];exact r.Sz k c
 ·rw[pa e,pa e];exact Paired.snoc r ⟨rfl,c⟩
def KV.drop(r:KV c vs)(k:κ):KV (sx c k)$ without vs k:=by
 unfold KV at r ⊢;unfold sx without;induction r with
 |nil=>exact Ϟ
 |@cons p q ps j h t f=>
  obtain⟨d,i⟩:=h;rw[Ye,Ye];by_cases e:p.1=k
  ·have a:¬ decide (p.1≠k)=E8:=by simp[e]
   have b:¬ decide (q.1≠k)=E8:=by simp[d.symm.trans e]
   rw[pa a,pa b];exact f
  ·have g:¬ q.1=k:=λz=>e$ d.trans z;have a:decide (p.1≠k)=E8:=by simp[e]
   have b:decide (q.1≠k)=E8:=by simp[g]
   rw[ja a,ja b];exact ϛ ⟨d,i⟩ f
def KV.length(r:KV a b):a.length=b.length:=Paired.length r
def VT a(k:κ):(sx a k).length<=a.length:=Bi _ _
end
def jw(r:Zc (kV k) u):(jj P w).is k u=E8:=by
 cases k with
 |inl i=>obtain⟨t,e⟩:=(show ∃ t,u=Jh i t from r);subst e;exact À P w i t
 |inr x=>obtain⟨t,e⟩:=(show ∃ t,u=ip x t from r);subst e;exact l7 P w x t
abbrev KT(H:Hp):List (TK × V)->List (TK × Addr × Value)->Prop:=Paired λp q=>p.1=q.1/\NR H 5 (.inr p.1) (ϖ q.2.1)/\Zc p.2 q.2.2
def KT.val(r:KT H a xs) k:Zn (wm a k) ((sr xs k).map (·.2)):=by
 induction r with
 |nil=>exact ϯ
 |@cons p q ps d h t i=>
  obtain⟨f,_,g⟩:=h;by_cases e:p.1=k
  ·have c:q.1=k:=f.symm.trans e;have b:sr (q::d) k=BD q.2:=by simp[sr,Ed,c]
   rw[YG e,b];exact g
  ·have c:¬ q.1=k:=λz=>e$ f.trans z;have b:sr (q::d) k=sr d k:=by simp[sr,Ed,c]
   rw[ZH e,b];exact i
def KT.Sz(r:KT H a xs) k(i:Zc y u) :
  KT H (a.map λc=>if c.1=k then (c.1,y)else c)$ xs.map$ putAt k u:=by
 induction r with
 |nil=>exact Ϟ
 |@cons p q ps j h t g=>
  rw[Sa,Sa];refine ϛ ?_ g;obtain⟨b,d,f⟩:=h;unfold putAt;by_cases e:p.1=k
  ·rw[ja e,ja$ b.symm.trans e];exact⟨b,d,i⟩
  ·rw[pa e,pa (λz=>e$ b.trans z)];exact⟨b,d,f⟩
def KT.put(r:KT H a xs) k(d:NR H 5 (.inr k)$ ϖ b)(c:Zc y u) :
  KT H (Sl a k y)$ storedH xs k b u:=by
 have e:(a.any λf=>decide$ f.1=k)=(sr xs k).isSome:=by
  rw[kU,(r.val k).Bg,Qj]
 unfold Sl storedH;rw[e];by_cases q:(sr xs k).isSome=E8
 ·rw[ja q,ja q];exact r.Sz k c
 ·rw[pa q,pa q];exact Paired.snoc r ⟨rfl,d,c⟩
def KT.keeps(r:KT H a xs)(e:∀ b d,H b=BD (.db d)->c b=BD (.db d)):KT c a xs:=
 Paired.Dp r λf f z=>⟨z.1,NR.keeps e 5 z.2.1,z.2.2⟩
section
variable{P:Ba}{w:Ra}{H:Hp}{h:Heap}{a:Addr}
def KW(ok:Ph P w H h)(e:Rd H a u):uk P w H h a u:=e.ok ok
def Qr(ok:Ph P w H h)(e:Rd H a$ Ϛ b):b.length<=sizeLine/\(a == kf)=J8/\∃ c,KV b c/\h.DictOf (jj P w) a c:=
 show uk P w H h a (Ϛ b)from KW ok e
def kC(ok:Ph P w H h)(e:H a=BD (Ϛ b)):b.length<=sizeLine/\(a == kf)=J8/\∃ c,KV b c/\h.DictOf (jj P w) a c:=Qr ok$ ϐ e
theorem WQ(ok:Ph P w H h):∀ (n:Nat) {k:NK n} {v:V} {u:Value},NR H n k v->Zc v u->Uq P w h n k u
 |0,_,_,_,e,r=>by cases (show _=kV _ from e);exact jw r
 |_+1,.inl _,_,_,e,r=>by cases (show _=kV _ from e);exact jw r
 |n+1,.inr ks,_,_,e,r=>by
  obtain⟨b,a,rfl,e,p⟩:=e;cases (show _=Db b from r);obtain⟨_,d,q,t⟩:=(show uk P w H h b (.db a)from ok b _ e)
  have f:∀ {ks:List$ NK n} {a:kv} {c:em},Paired (NR H n) ks a->ce a c->Paired (Uq P w h n) ks c:=by
   intro ks a c p;induction p generalizing c with
   |nil=>intro q;cases q;exact Ϟ
   |cons r _ g=>intro q;cases q with|cons i j=>exact ϛ (WQ ok n r i)$ g j
  exact⟨b,d.toArray,rfl,t,by simpa using f p q⟩
theorem WF(ok:Ph P w H h)(e:NR H 5 (.inr ks)$ ϖ a):(mE P w).is h ks a:=WQ ok 5 e rfl
def GF(ok:Ph P w H h)(e:Rd H a$ .dT b):b.length<=sizeLine/\(a == kf)=J8/\
  ∃ xs,KT H b xs/\h.DictOfH (mE P w) a xs:=by
 obtain⟨z,y,xs,r,o,i,g,j,k,n,s,u⟩:=(show uk P w H h a (.dT b)from KW ok e)
 refine⟨z,y,xs,r,o,i,g,j,k,n,s,λx c=>?_,u⟩;have d:∀ {l:List$ TK × V} {m:List$ TK × Addr × Value},KT H l m->∀ x∈m,(mE P w).is h x.1 x.2.1:=by
  intro l m q;induction q with
  |nil=>intro x c;exact nomatch c
  |@cons p q ps A f t v=>
   intro x c;rcases Da.mp c with e|c
   ·subst e;exact WF ok (by rw[<-f.1];exact f.2.1)
   ·exact v x c
 exact d r x c
def Ø(ok:Ph P w H h)(e:H a=BD (.dT b)):b.length<=sizeLine/\(a == kf)=J8/\
  ∃ xs,KT H b xs/\h.DictOfH (mE P w) a xs:=GF ok$ ϐ e
end
def kl(H:Hp)(a:Addr)(y:V)(r:Option V):Prop:=
 (∃ c k,Rd H a (Ϛ c)/\y=kV k/\r=wm c k)\/∃ c k b,Rd H a (.dT c)/\y=ϖ b/\NR H 5 (.inr k) (ϖ b)/\r=wm c k
def dF(H:Hp)(a:Addr)(y v:V)(d:Hp):Prop:=
 (∃ c k,H a=BD (Ϛ c)/\y=kV k/\c.length<sizeLine/\d=Sb H a (Ϛ$ Sl c k v))\/
 ∃ c k b,H a=BD (.dT c)/\y=ϖ b/\NR H 5 (.inr k) (ϖ b)/\c.length<sizeLine/\d=Sb H a (.dT$ Sl c k v)
def dF.k{H}{a}{b}{k}{v}(e:H a=BD (Ϛ b))(c:b.length<sizeLine):dF H a (kV k) v$ Sb H a$ Ϛ$ Sl b k v:=ϐ ⟨b,k,e,rfl,c,rfl⟩
section
variable{pins:List$ Addr × Obj}{σ:St}{H:Hp}{s:Shared}{a:Addr}{y v:V}{u r:Value}{o:Option V}{A:Ma}{E:Value->Shared->Prop}
def Xa.kJ(I:Xa X pins σ H s):kf<s.heap.objs.size:=by
 have h:mainGlobals<s.heap.objs.size:=(I.mod.glob.keeps I.bk).lt;exact cr ⋯ h
def Q2(D:A.units+7<cLine)(I:Xa X pins σ H s)(g:kl H a y$ BD v)(r:Zc y u)(h:∀ f t,Xa X pins σ H t->Zc v f->Q f t) :
  wpAny (model X.prog X.w) A (bi (Db a) u) Q E s:=by
 rcases g with⟨q,k,e,j,l⟩|⟨q,k,b,e,j,x,l⟩
 ·subst j;obtain⟨z,B,vs,c,i⟩:=Qr I.Cc e;obtain⟨f,n,d⟩:=Zn.some_of (v:=v) (o:=Pg vs k) (by rw[l];exact c.val k);exact wpAny_getItem_of (jw r) i.mapOf n$ h f _ (I.tok _) d
 ·subst j;cases (show u=Db b from r);obtain⟨z,B,xs,c,i⟩:=GF I.Cc e;obtain⟨f,n,d⟩:=Zn.some_of (v:=v) (o:=(sr xs k).map (·.2)) (by rw[l];exact c.val k);obtain⟨p,C,m⟩:=nb.mp n;refine wpAny_getItem_heap (show A.units+1+5<cLine by lia) (WF I.Cc x) i C ?_;rw[m];exact h f _ (I.tok _) d
def ytw(r:A.units+7<cLine)(I:Xa X pins σ H s)(g:kl H a y o)(m:Zc y u)(h:∀ n,Xa X pins σ H n->Q (Rg o.isSome) n) :
  wpAny (model X.prog X.w) A (Jb .In u$ Db a) Q E s:=by
 rcases g with⟨j,k,e,f,l⟩|⟨j,k,b,e,f,p,l⟩
 ·subst f;obtain⟨z,i,vs,c,d⟩:=Qr I.Cc e;refine wpAny_in_of (jw m) i d.mapOf ?_;rw[<-(c.val k).Bg,<-l];exact h _$ I.tok _
 ·subst f;cases (show u=Db b from m);obtain⟨z,i,xs,c,d⟩:=GF I.Cc e;refine wpAny_in_heap (show A.units+1+5<cLine by lia) (WF I.Cc p) i d ?_;have q:=(c.val k).Bg;rw[Qj]at q;rw[<-q,<-l];exact h _$ I.tok _
def Ŭ(r:A.units+7<cLine)(I:Xa X pins σ H s)(g:kl H a y o)(m:Zc y u)(h:∀ n,Xa X pins σ H n->Q (Rg$ !o.isSome) n) :
  wpAny (model X.prog X.w) A (Jb .NotIn u$ Db a) Q E s:=by
 rcases g with⟨j,k,e,f,l⟩|⟨j,k,b,e,f,p,l⟩
 ·subst f;obtain⟨z,i,vs,c,d⟩:=Qr I.Cc e;refine wpAny_notIn_of (jw m) i d.mapOf ?_;rw[<-(c.val k).Bg,<-l];exact h _$ I.tok _
 ·subst f;cases (show u=Db b from m);obtain⟨z,i,xs,c,d⟩:=GF I.Cc e;refine wpAny_notIn_heap (show A.units+1+5<cLine by lia) (WF I.Cc p) i d ?_;have q:=(c.val k).Bg;rw[Qj]at q;rw[<-q,<-l];exact h _$ I.tok _
def qB(I:Xa X pins σ H s)(i:SE$ H a)(h:Rc a s.heap h')(g:∃ q,h'.get? a=BD q)(c:uk X.prog X.w (Sb H a d) h' a d) :
  Xa X pins σ (Sb H a d) { s with heap:=h',toks:=t' }:=
 I.write (x:=a) (e:=a) i (ϐ rfl) (λb q f z=>(h.2 b f).trans z) g c
def MA(z:b.length<=sizeLine)(h:(a == kf)=J8)(c:KV b d)(g:e.DictOf (jj P w) a d) :
  uk P w f e a$ Ϛ b:=⟨z,h,d,c,g⟩
def T8(T:A.units+7<cLine)(I:Xa X pins σ H s)(g:dF H a y v C)(ό:Zc y u)(G:Zc v r)(h:∀ K,Xa X pins σ C K->Q () K) :
  wpAny (model X.prog X.w) A (Rv (Db a) u r) Q E s:=by
 rcases g with⟨d,k,e,o,l,n⟩|⟨d,k,b,e,o,D,l,n⟩
 ·subst o n;obtain⟨z,p,vs,f,m⟩:=kC I.Cc e;have B:vs.length<=sizeLine:=by rw[<-f.length];exact z
  have t:(Sl d k v).length<=sizeLine:=by have:=vE d k v;lia
  refine wpAny_setItem_pairs (hsz:=B) (jw ό) m λh' i x=>h _ ?_;have S:∃ q,h'.get? a=BD q:=let ⟨q,_,_,j,_⟩:=i;⟨q,j⟩;exact qB I (by rw[e];exact ϯ) x S$ MA t p (f.put k G) i
 ·subst o n;cases (show u=Db b from ό);obtain⟨z,p,xs,f,m⟩:=Ø I.Cc e;have B:xs.length<=sizeLine:=by rw[<-Paired.length f];exact z
  have t:(Sl d k v).length<=sizeLine:=by have:=vE d k v;lia
  refine wpAny_setItem_heap (hsz:=B) (show A.units+1+5<cLine by lia) (WF I.Cc D) m λh' i x=>h _ ?_;obtain⟨q,M,L,j,N,ϋ,P,_,R⟩:=i;refine qB I (by rw[e];exact ϯ) x ⟨q,j⟩ ⟨t,p,_,(f.put k D G).keeps λc ϊ F=>?_,q,M,L,j,N,ϋ,P,R⟩;rw[ud$ xL F e (λz=>nomatch z)];exact F
end
section
variable{pins:List$ Addr × Obj}{σ:St}{H:Hp}{s:Shared}{a:Addr}{kvs:List$ wc × V}{k:wc}{u:Value}{A:Ma}{E:Value->Shared->Prop}
def zgn(I:Xa X pins σ H s)(e:H a=BD (Ϛ kvs))(n:Zc (kV k) u)(l:(wm kvs k).isSome=E8)(h:∀ f,Xa X pins σ (Sb H a$ Ϛ$ sx kvs k) f->Q () f) :
  wpAny (model X.prog X.w) A (delItem (Db a) u) Q E s:=by
 obtain⟨z,g,vs,b,d⟩:=kC I.Cc e;refine wpAny_delItem_slot d.typeIs ⋯ Dm
  (nh Dm d.typeIs PySem.F.entry_dict_delitem (PySem.F.args_dict_delitem_2 _ _) (meets_dict_delitem_pairs (jj X.prog X.w) a$ jw n) ⟨vs,d,by rw[<-b.length];exact z,by rw[<-(b.val k).Bg];exact l,λh' c m=>h _ ?_⟩)
 have i:∃ q,h'.get? a=BD q:=let ⟨q,_,_,j,_⟩:=c;⟨q,j⟩;exact qB I (by rw[e];exact ϯ) m i$ MA (lb (VT kvs k) z) g (b.drop k) c
def ÿ(I:Xa X pins σ H s)(e:H a=BD (Ϛ kvs))(j:Zc (kV k) u)(l:wm kvs k=BD v)(n:b=[]\/∃ x,b=[x])
  (h:∀ f p,Xa X pins σ (Sb H a$ Ϛ$ sx kvs k) p->Zc v f->Q f p):wpAny (model X.prog X.w) A (call (ϡ "dict.pop")$ Db a::u::b) Q E s:=by
 obtain⟨z,y,vs,c,m⟩:=kC I.Cc e;obtain⟨f,ό,g⟩:=Zn.some_of (v:=v) (o:=Pg vs k) (by rw[<-l];exact c.val k);have C:(keyPart u).isSome=E8:=by
  cases k with
  |inl i=>obtain⟨t,q⟩:=(show ∃ t,u=Jh i t from j);subst q;rfl
  |inr x=>obtain⟨t,q⟩:=(show ∃ t,u=ip x t from j);subst q;rfl
 have r:ur "dict.pop" ⟨Db a::u::b,[]⟩:=by
  rcases n with q|⟨x,q⟩
  ·subst q;exact PySem.F.args_dict_pop_2 _ _
  ·subst q;exact PySem.F.args_dict_pop_3 _ _ _
 refine nh Zo m.typeIs PySem.F.entry_dict_pop r (meets_dict_pop_there (jj X.prog X.w) a (jw j) b n C)
  ⟨vs,f,m,by rw[<-c.length];exact z,ό,λh' d G=>h f _ ?_ g⟩
 have B:∃ q,h'.get? a=BD q:=let ⟨q,_,_,D,_⟩:=d;⟨q,D⟩;exact qB I (by rw[e];exact ϯ) G B$ MA (lb (VT kvs k) z) y (c.drop k) d
end
def BM(i:Ia):Prop:=∀ b a,qp i J8 b a=operate [b,a] (bi b a)
def zzp{T u}
  (q:typeLookup (Vh T) "__getitem__" = pure (BD$ ϡ u)) (t:BM b)
  (h:wpAny (model a w) A (Qb c j) (λo f=>wpAny (model a w) A (Qb b j) (λi d=>d.TypeIs o T/\wpAny (model a w) A (bi o i) Q E d) E f) E s) :
  wpAny (model a w) A (Qb (ϥ c b n) j) Q E s:=by
 refine EB (gc h (λo f l=>gc l (λi d e=>?_) λv v x=>x) λv v x=>x);obtain⟨p,e⟩:=e;unfold UZ;refine aa ?_;rw[getitemInPython_of_ne p.not_modules];refine aa$ Xg p q ?_;have k:wpAny (model a w) A (qp b J8 o i) (λr g=>wpAny (model a w) A (letTemporaryGo c o r >>= λv=>pure r) Q E g) E d:=by
  rw[t o i];exact wpAny_operating (gc e (λr g m=>aa$ wpAny_letTemporaryGo$ ga m) λv v x=>x)
 first
  |exact ga$ aa k
  |exact aa$ ga$ aa k
  |exact aa k
def j8(I:Xa X c h H s)(g:kl H a y o):s.TypeIs (Db a) "dict":=by
 rcases g with⟨f,k,e,_,_⟩|⟨f,k,b,e,_,_,_⟩
 ·obtain⟨_,_,i,_,d⟩:=Qr I.Cc e;exact d.typeIs
 ·obtain⟨_,_,xs,_,d⟩:=GF I.Cc e;exact d.typeIs
noncomputable def ο(e ty:TE):TE:=λc H Q=>e c H λx d=>ty c d λy b=>∃ a v,x=ϖ a/\kl b a y (BD v)/\Q v b
section
variable{o i e value:Ia}{pos pos' tpos:Td}{td ty tv:TE}
def m8(p:X.A.units+7<cLine)(m:PE X o td)(l:PE X i ty)(n:BM i):PE X (ϥ o i pos)$ ο td ty:=by
 intro b s e H Q I h;refine zzp PySem.F.slot_dict_getitem.lookup n (Bd (m b s e H _ I h) λu s1 ⟨x,H1,j,t,q⟩=>Bd (l b s1 e H1 _ j q) λz s2 ⟨y,f,d,w,a,v,ex,g,r⟩=>?_);subst ex;obtain rfl:u=Db a:=t;exact⟨j8 d g,Q2 p d g w λC B k c=>⟨v,f,k,c,r⟩⟩
end
def LV(h:Heap)(a:kf<h.objs.size):uk P w H (h.push { cls:=Vh "dict",data:=.dict #[] }) h.objs.size$ Ϛ []:=
 ⟨xh _,vd.mpr$ Gd$ Aa a,[],Ϟ,GP h⟩
def ŉ(h:Heap)(a:kf<h.objs.size):uk P w H (h.push { cls:=Vh "dict",data:=.dict #[] }) h.objs.size$ .dT []:=
 ⟨xh _,vd.mpr$ Gd$ Aa a,[],Ϟ,_,#[],0,Ca _ rfl,⟨rfl,rfl,rfl⟩,rfl,rfl,On⟩
def ţ:TE:=λa H Q=>∀ p,H p=A5->Q (ϖ p) (Sb H p$ Ϛ [])
def ş:TE:=λa H Q=>∀ p,H p=A5->Q (ϖ p) (Sb H p$ .dT [])
section
variable{pos:Td}
def PV:PE X (.Dict [] [] pos) ţ:=λb s c H Q I h=>
 sG ⟨ϖ s.heap.objs.size,_,I.laid (a:=s.heap.objs.size) (o:=Ϛ []) (t':=s.toks) (λb b q=>da _ q) (va _)$ LV s.heap I.kJ,rfl,h _$ I.Cc.fresh$ va _⟩
def è:PE X (.Dict [] [] pos) ş:=λb s c H Q I h=>
 sG ⟨ϖ s.heap.objs.size,_,I.laid (a:=s.heap.objs.size) (o:=.dT []) (t':=s.toks) (λb b q=>da _ q) (va _)$ ŉ s.heap I.kJ,rfl,h _$ I.Cc.fresh$ va _⟩
end
section
variable{pins:List$ Addr × Obj}{σ:St}{H:Hp}{s:Shared}{a:Addr}{kvs:List$ wc × V}{A:Ma}{E:Value->Shared->Prop}
def C0(I:Xa X pins σ H s)(e:Rd H a$ Ϛ kvs)(h:∀ p g,H p=A5->Xa X pins σ (Sb H p$ Ϛ kvs) g->Q (Db p) g):wpAny (model X.prog X.w) A (call (Vh "dict") [Db a]) Q E s:=by
 obtain⟨z,j,vs,c,i⟩:=Qr I.Cc e;refine kt_call_dict j i (by rw[<-c.length];exact z) λh' d k=>?_;refine h _ _ (I.Cc.fresh$ va _)$ I.laid (a:=s.heap.objs.size) (o:=Ϛ kvs) (t':=s.toks) (λb q f=>?_) (va _)$ MA z (vd.mpr$ Gd$ Aa I.kJ) c d;exact(k.2 b$ Aa$ xa f).trans$ da _ f
end
end L2
namespace L4
open Spec L2
noncomputable def tj:D->Option wc
 | U i=>BD (.inl i)
 | ϙ x=>BD (.inr x)
 |_=>A5
noncomputable def ig(b:Ea):D->Option (List$ wc × D)
 | Ϭ ks xs=>if ks.length=xs.length then BD (ks.zip xs)else A5
 | O n=>(match b[n]? with
  |some (ώ a)=>BD a
  |some (ϣ a)=>BD a
  |_=>A5)
 |_=>A5
noncomputable def Cj(a:List$ wc × D)(k:wc):Option D:=(a.find? λb=>decide$ b.1=k).map (·.2)
noncomputable def Zi(a:List$ wc × D)(k:wc)(d:D):List$ wc × D:=
 if a.any (λb=>decide$ b.1=k)then a.map λb=>if b.1=k then (b.1,d)else b else a++[(k,d)]
section
variable{μ:b'}{H:Hp}
def ED(h:Na T μ H y v)(e:tj y=BD k):v=kV k:=by
 cases y<;>simp[tj]at e<;>subst e<;>rw[Na]at h<;>exact h
theorem CF:∀ {ks:List wc} {ds:lv} {a:List$ wc × V},a.map (·.1)=ks->pb T μ H ds (a.map (·.2))->jg T μ H (ks.zip ds) a
 |ks,[],a,c,b=>by
  rw[pb]at b;have:a=[]:=by simpa using b
  subst this;rw[<-c];exact Ϟ
 |ks,d::ds,a,c,b=>by
  obtain⟨v,r,e,f,g⟩:=b;cases a with
  |nil=>cases e
  |cons p a=>
   cases e;rw[<-c];exact ϛ ⟨rfl,f⟩$ CF rfl g
def tw(r:Yc T μ H g)(h:Na T μ H x v)(e:ig g x=BD d):∃ a vs,v=ϖ a/\Rd H a (Ϛ vs)/\jg T μ H d vs:=by
 cases x with
 |Ga ks xs=>
  obtain⟨a,vs,rfl,_,b,c,i⟩:=h;unfold ig at e;dsimp only at e;split at e
  ·cases e;exact⟨a,vs,rfl,b,CF c i⟩
  ·cases e
 |ref n=>
  unfold ig at e;dsimp only at e;cases q:g[n]? with
  |none=>simp_all
  |some o=>
   rw[q]at e;cases o with
   |Ga f=>
    cases e;obtain⟨a,rfl,_,vs,b,c⟩:=r.at h q;exact⟨a,vs,rfl,ϐ b,c⟩
   |Yb f=>
    cases e;obtain⟨a,rfl,_,ob,vs,b,c⟩:=r.at h q;exact⟨a,vs,rfl,ϓ ⟨ob,b⟩,c⟩
   |_=>cases e
 |_=>cases e
def xC(h:jg T μ H a vs) k:(Cj a k=A5/\wm vs k=A5)\/∃ d v,Cj a k=BD d/\wm vs k=BD v/\Na T μ H d v:=by
 induction h with
 |nil=>exact ϐ ⟨rfl,rfl⟩
 |@cons p q ps j h t i=>
  obtain⟨c,g⟩:=h;by_cases e:p.1=k
  ·have b:=c.symm.trans e;exact ϓ ⟨p.2,q.2,by unfold Cj;rw[Ed,yc e];rfl,YG b,g⟩
  ·have b:=λz=>e$ c.trans z;have f:Cj (p::ps) k=Cj ps k:=by unfold Cj;rw[Ed,ub e]
   rw[f,ZH b];exact i
def E9(h:jg T μ H a c) k:(a.any λb=>decide$ b.1=k)=(c.any λb=>decide$ b.1=k):=by
 induction h with
 |nil=>rfl
 |@cons p q ps e h t d=>simp_all
theorem PX{c d:Type}{F:c->d->Prop}{f:c->c}{g:d->d}(aF:∀ a b,F a b->F (f a) (g b)):∀ {l:List c} {m:List d},Paired F l m->Paired F (l.map f) (m.map g)
 |_,_,Ϟ=>Ϟ
 |_,_,ϛ h t=>ϛ (aF _ _ h) (PX aF t)
theorem MS{d e:Type}{F:d->e->Prop}{a:d}{b:e}(c:F a b):∀ {l:List d} {m:List e},Paired F l m->Paired F (l++[a]) (m++[b])
 |_,_,Ϟ=>ϛ c Ϟ
 |_,_,ϛ h t=>ϛ h (MS c t)
def vL(h:jg T μ H a b) k(c:Na T μ H d v):jg T μ H (Zi a k d)$ Sl b k v:=by
 unfold Zi Sl;rw[E9 h k];split
 ·refine PX (λp q h=>?_) h;by_cases e:p.1=k;all_goals simp_all
 ·exact MS ⟨rfl,c⟩ h
def jg.mono(e:qd μ H b c)(h:jg T μ H a d):jg T b c a d:=Paired.Dp h λf f z=>⟨z.1,Na.mono e _ _ z.2⟩
def _root_.L2.kl.kr(e:Rd H a$ Ϛ b):kl H a (kV k)$ wm b k:=ϐ ⟨b,k,e,rfl,rfl⟩
def Hi(x y:D):M D:=λb=>match tj y with
 |some k=>(match ig b x with
  |some a=>(match Cj a k with
   |some d=>J d b
   |none=>ϕ)
  |none=>ϕ)
 |none=>ϕ
def OO(hu:X.A.units+9<cLine)(G:FE T X o p)(F:FE T X i fi)(L:BM i):FE T X (ϥ o i g)$ Fb Hi p fi:=by
 intro c s st H Q I h;refine m8 ⋯ G F L c s st H Q I ?_;obtain⟨μ,t,Y,q,K,ό⟩:=h;refine⟨μ,t,Y,q,K,ό.bind λx m l v Z D z S P ϋ=>⟨l,t,m,q.mono z,S,ϋ.bind λy n W u H2 D B r R b=>?_⟩⟩;unfold Hi at b;cases f:tj y with
 |none=>rw[f]at b;exact b.elim
 |some k=>
  rw[f]at b;cases e:ig n x with
  |none=>rw[e]at b;exact b.elim
  |some N=>
   rw[e]at b;dsimp only at b;obtain⟨a,vs,rfl,C,E⟩:=tw r (Na.mono B _ _ P) e;obtain rfl:=ED R f;rcases xC E k with⟨j,_⟩|⟨d,w,j,ϊ,V⟩
   ·rw[j]at b;exact b.elim
   ·rw[j]at b;exact⟨a,w,rfl,by rw[<-ϊ];exact kl.kr C,Pb.here b r V⟩
noncomputable def FX:R2:=λy x H Q=>∃ a o,x=ϖ a/\kl H a y o/\Q (Ϫ o.isSome) H
def vS(f:X.A.units+9<cLine):wh X (Jb .In) FX:=by
 rintro b s j H y x h u Q I e d ⟨a,o,rfl,g,q⟩;obtain rfl:u=Db a:=d;exact ytw ⋯ I g e λi c=>⟨Ϫ o.isSome,H,c,rfl,q⟩
def Pq(y x:D):M D:=λb=>match tj y with
 |some k=>(match ig b x with
  |some a=>J (ϒ (Cj a k).isSome) b
  |none=>ϕ)
 |none=>ϕ
theorem IS:ak T FX Pq:=by
 intro E μ H l y x u v Q r q p h;unfold Pq at h;cases c:tj y with
 |none=>rw[c]at h;exact h.elim
 |some k=>
  rw[c]at h;cases b:ig l x with
  |none=>rw[b]at h;exact h.elim
  |some j=>
   rw[b]at h;obtain⟨a,vs,rfl,g,i⟩:=tw r p b;obtain rfl:=ED q c;refine⟨a,wm vs k,rfl,kl.kr g,Pb.here h r ?_⟩;rcases xC i k with⟨e,f⟩|⟨d,w,e,f,m⟩
   ·rw[e,f];rfl
   ·rw[e,f];rfl
noncomputable def D4:ZG:=λx y v H Q=>∃ a b,x=ϖ a/\dF H a y v b/\Q b
def B9(k:X.A.units+9<cLine):GM X D4:=by
 rintro b s st H o i v e l u Q I h f j ⟨a,c,rfl,g,q⟩;obtain rfl:e=Db a:=h;exact T8 ⋯ I g f j λm d=>⟨c,d,q⟩
def An(c:Ev)(d x:D)(y:D):M Fl:=λb=>match x with
 | O n=>(match tj y with
  |some k=>(match b[n]? with
   |some (ώ a)=>if a.length<Og then J (Ϙ c) (b.set n$ ώ$ Zi a k d)else ϕ
   |_=>ϕ)
  |none=>ϕ)
 |_=>ϕ
def qL(a:Ev)(b:Ev->M D)(d x:D):M Fl:=xs a (b a)$ An a d x
def lM(a:Ev)(c b:Ev->M D)(d:D):M Fl:=xs a (c a)$ qL a b d
def yt(f c b:Ev->M D):Ev->M Fl:=λa=>xs a (f a)$ lM a c b
def LN(hu:X.A.units+9<cLine)(Z:FE T X e f)(ho:FE T X o R)(hi:FE T X i fi)
  (Y:∀ v,om (ϥ o i b) X.env v=(do
   let t <-Pe [v] (Qb o X.env);let F <-Pe [v,t] (Qb i X.env)
   ai b
   Pe [v,t,F] (Rv t F v)
   release [v,t,F] []):=by intro _;rfl)
  (hs:Nt [ϥ o i b] e p.line X.env=pure J8:=by rfl) (hw:Ot [ϥ o i b] e X.env=pure A5:=by rfl)
  (W:(ze [ϥ o i b] X.env).map (·.2)=[om (ϥ o i b) X.env]:=by rfl):FS T X (.Assign [ϥ o i b] e p)$ yt f R fi:=by
 intro m s st H D I hq;refine cT Z (yV ho hi (B9 hu) Y) hs hw W m s st H D I ?_;obtain⟨μ,L,σ,g,hr,hp⟩:=hq;refine⟨μ,L,σ,g,hr,hp.xs g λd N ό v H1 d h r1 q1 p1=>⟨ό,L,N,g.mono h,r1,p1.xs (g.mono h) λx ϋ K vo H2 d r r2 q2 p2=>⟨K,L,ϋ,(g.mono h).mono r,r2,p2.xs ((g.mono h).mono r) λy P q vi Q d u V q3 c=>?_⟩⟩⟩;have hx:=Na.mono u _ _ q2;unfold An at c;cases x with
 |ref n=>
  dsimp only at c;cases w:tj y with
  |none=>rw[w]at c;exact c.elim
  |some k=>
   rw[w]at c;cases B:P[n]? with
   |none=>rw[B]at c;exact c.elim
   |some ob=>
    rw[B]at c;cases ob with
    |Ga l=>
     dsimp only at c;by_cases E:l.length<Og
     ·rw[ja E]at c;obtain⟨a,rfl,ϊ,vs,S,C⟩:=V.at hx B;obtain rfl:=ED q3 w;have G:=V.write (ob:=ώ _) ϊ ⟨_,bf,by
       have ex:qd q Q q$ Sb Q a$ Ϛ$ Sl vs k v:=Aq (za ϊ) S (λd z=>by cases z) (λd d z=>by cases z);exact vL (jg.mono ex C) k$ Na.mono ex _ _$ Na.mono u _ _$ Na.mono r _ _ q1⟩
      have j:vs.length=l.length:=by unfold jg at C;exact(Paired.length C).symm
      exact⟨a,_,rfl,dF.k S (by rw[j];exact La E ⋯),c _ (ϸ st) _ G.1 G.2$ ((g.mono h).mono r).mono u |>.mono G.1⟩
     ·rw[pa E]at c;exact c.elim
    |_=>exact c.elim
 |_=>exact c.elim
noncomputable def cq:Ev->M D:=λb a=>J (O a.length)$ a++[ώ []]
def η:FE T X (.Dict [] [] b) cq:=by
 rintro a s f H Q I ⟨μ,h,i,g,d,e⟩;exact PV a s f H Q I λp c=>(e _ _ _ (Vu c) (d.push c ⟨[],bf,Ϟ⟩)$ MD d)
def vV:FE T X (.Dict [] [] c)$ eC$ Ϭ [] []:=by
 rintro a s h H Q I ⟨μ,j,k,i,d,g⟩;exact PV a s h H Q I λp b=>(g μ _ _ (mj b) (d.fresh b)$ by rw[Na];exact⟨p,[],rfl,λf=>(by obtain⟨u,e,_⟩:=d.mem f;rw[b]at e;cases e),(ϐ bf),rfl,pb.nil⟩)
def LK:kv->Hp->VK->Prop:=λxs H Q=>∃ a b,xs=[ϖ a]/\Rd H a (Ϛ b)/\∀ p,H p=A5->Q (ϖ p) (Sb H p$ Ϛ b)
def mW:To X (Vh "dict") LK:=by
 rintro b s h H xs i Q I r ⟨a,f,rfl,e,q⟩;obtain⟨u,rfl,rfl⟩:=vt r;exact C0 I e λp g d c=>⟨ϖ p,_,c,rfl,q p d⟩
def nD(c:lv):M D:=λb=>match c with
 |[x]=>(match ig b x with
  |some a=>J (Ϭ (a.map (·.1)) (a.map (·.2))) b
  |none=>ϕ)
 |_=>ϕ
theorem NV:∀ {a:List$ wc × D} {b:List$ wc × V},jg T μ H a b->b.map (·.1)=a.map (·.1)/\pb T μ H (a.map (·.2)) (b.map (·.2)):=by
 intro _ _ h;induction h with
 |nil=>exact⟨rfl,pb.nil⟩
 |cons h _ i=>exact⟨by rw[Sa,Sa,i.1,h.1],pb.cons h.2 i.2⟩
def zyy:Us T LK nD:=by
 intro E μ H q f vs Q r p h
 match f with
 |[]=>trivial
 |[x]=>
  unfold nD at h;dsimp only at h;cases c:ig q x with
  |none=>rw[c]at h;exact h.elim
  |some k=>
   rw[c]at h;obtain⟨v,s,rfl,m,rfl⟩:=p;obtain⟨a,e,rfl,g,i⟩:=tw r m c;refine⟨a,e,rfl,g,λl b=>?_⟩;obtain⟨n,o⟩:=NV i;exact h μ _ _ (mj b) (r.fresh b) (by rw[Na];exact⟨l,e,rfl,λj=>(by obtain⟨u,d,_⟩:=r.mem j;rw[b]at d;cases d),(ϐ bf),n,pb.mono (mj b) _ _ o⟩)
 |_::_::_=>trivial
end
def yfo(x:D)(xs:lv):M D:=λb=>match xs with
 |[y]=>(match jf b x with
  |some a=>if (ev y && a.all ev && decide (a.length<=900) && decide ((a.findIdx λz=>gw z y)<a.length))=E8 then J (U (a.findIdx λz=>gw z y:Nat)) b else ϕ
  |none=>ϕ)
 |_=>ϕ
noncomputable def vx:List (wc × D)->List (wc × D)->Bool
 |[],[]=>E8
 |(k,U i)::r,(a,U j)::b=>decide (k=a) && (i == j) && vx r b
 |_,_=>J8
theorem rR{A:Ma}{s:Shared}:∀ {c:List$ wc × V} {j k:List$ wc × Value},KV c j->KV c k->(∀ p∈c,∃ i,p.2=Ϣ i)->∀ (B:List$ wc × Value),(∀ p∈k,Pg B p.1=BD p.2)->W.KeqHits A s B j E8
 |_,_,_,Ϟ,Ϟ,_,B,_=>.nil
 |_,_,_,@ϛ _ _ _ p q ps C n t1,@ϛ _ _ _ _ w _ x o z,e,B,d=>by
  obtain⟨i,l⟩:=e p ua;obtain⟨r,g⟩:=n;obtain⟨u,h⟩:=o;rw[l]at g h;obtain⟨t,m⟩:=g;obtain⟨y,a⟩:=h;have f:=d w ua;rw[<-u,r,a]at f;have:=W.KeqHits.hit (A:=A) (s:=s) (v:=q.2) f (by rw[m];exact Yo i t i y)$ rR t1 z (λp b=>e p$ ra _ b) B (λp b=>d p$ ra _ b)
  rwa [show (i == i)=E8 by simp]at this
theorem JY:∀ {b:List$ wc × Value},(b.map (·.1)).Nodup->∀ p∈b,Pg b p.1=BD p.2
 |[],_,p,h=>nomatch h
 |q::r,a,p,h=>by
  rw[Sa,Wc]at a;rcases Da.mp h with rfl|h
  ·simp[Pg]
  ·have c:¬ q.1=p.1:=λz=>a.1 ⋯;have:=JY a.2 p h;simp only[Pg,Ed]at this ⊢
   grind
theorem bV{f:b'}{H:Hp}:∀ {c e:List$ wc × D} {v1 v2:List$ wc × V},jg T f H c v1->jg T f H e v2->vx c e=E8->v1=v2/\∀ p∈v1,∃ i,p.2=Ϣ i
 |[],[],_,_,Ϟ,Ϟ,_=>⟨rfl,λB h=>nomatch h⟩
 |[],_::_,_,_,_,_,h=>by simp[vx]at h
 |(k,d)::r,[],_,_,_,_,h=>by cases d<;>simp[vx]at h
 |(k,d)::r,(x,m)::A,_,_,@ϛ _ _ _ _ q _ z o t1,@ϛ _ _ _ _ y _ v s w,h=>by
  cases d<;>cases m<;>simp only[vx,Fa,Rb,Bf,Cf]at h;obtain⟨⟨rfl,rfl⟩,u⟩:=h;obtain⟨rfl,t⟩:=bV t1 w u;obtain⟨g,b⟩:=o;obtain⟨j,l⟩:=s;have n:=Iz (g.symm.trans j)$ b.trans l.symm;subst n;refine⟨rfl,λp a=>?_⟩;rcases Da.mp a with rfl|a
  ·exact⟨_,b⟩
  ·exact t p a
noncomputable def dG(o:Int->Int->Int)(i:Nat)(c:Ev)(x d:D):M Fl:=λe=>match x,d with
 | U a,U b=>J (Ϙ$ c.set i$ BD$ U$ o a b) e
 |_,_=>ϕ
def qz(o:Int->Int->Int)(i:Nat)(f:Ev->M D):Ev->M Fl:=λa=>match a[i]? with
 |some (BD x)=>xs a (f a) (dG o i a x)
 |_=>λb=>ϕ
def IX(h:a[i]?=BD (BD x)):qz o i f a b=Hm a (dG o i a x) (f a b):=by
 unfold qz;rw[h];exact wn ..
@[simp] theorem zq4 o i c a b d:dG o i c (U a) (U b) d=J (Ϙ$ c.set i$ BD$ U$ o a b) d:=nr rfl
section
variable{e:Ia}{f:Ev->M D}{pos:Td}
def sZ(C:GO X n$ yW o)(w:X.N.Nodup)(B:X.N[i]?=BD x)(G:Loc X.env.scope x)(z:FE T X e f)(A:X.fn x=E8\/X.env.scope.names.lookup x=BD .local:=by first|exact .inl rfl|exact .inr rfl|assumption) :
  FS T X (.AugAssign (ϝ x j) n e pos)$ qz o i f:=by
 intro h s st H D I F;refine L8 w B G z C A h s st H D I ?_;obtain⟨L,p,ϋ,l,E,c⟩:=F;unfold qz at c;cases k:p[i]? with
 |none=>rw[k]at c;exact c.elim
 |some q=>
  cases q with
  |none=>rw[k]at c;exact c.elim
  |some d=>
   rw[k]at c;obtain⟨v,t,u⟩:=l.2 i d k;refine⟨v,t,L,p,ϋ,l,E,c.xs l λy P M R Q J r K ό m=>?_⟩;cases d with
   |int a=>
    cases y with
    |int b=>
     subst u ό;exact⟨a,b,rfl,rfl,Pb.here (g:=ϸ _) m K$ (l.mono r).set i (by rw[Na])⟩
    |_=>exact m.elim
   |_=>exact m.elim
end
def Yw(o:D->lv->M D)(m:M$ lv)(x:D):M D:=λa=>match ig a x with
 |some _=>Kc m (o x) a
 |none=>ϕ
def jE(o:D->lv->M D)(f:Ev->M D)(b:Ev->M (lv)):Ev->M D:=λa=>Kc (f a)$ Yw o$ b a
def UR:V->kv->Hp->VK->Prop:=λx c H Q=>∃ a b k d,x=ϖ a/\c=[kV k,d]/\H a=BD (Ϛ b)/\b.length<sizeLine/\
 (∀ v,wm b k=BD v->Q v H)/\(wm b k=A5->Q d (Sb H a$ Ϛ$ Sl b k d))
def YA(x:D)(xs:lv):M D:=λb=>match x,xs with
 | O n,[y,d]=>(match tj y with
  |some k=>(match b[n]? with
   |some (ώ a)=>if a.length<Og then (match Cj a k with
    |some e=>J e b
    |none=>J d (b.set n$ ώ$ Zi a k d))else ϕ
   |_=>ϕ)
  |none=>ϕ)
 |_,_=>ϕ
section
variable{o e:Ia}{es:List Ia}{f:Ev->M D}{fs:Ev->M (lv)}{name:Str}{apos cpos:Td}{id:String}{r:V->kv->Hp->VK->Prop}{g:D->lv->M D}
def š:qw X "dict.setdefault" UR:=by
 rintro l s st H x vs v L Q I ό G ⟨a,b,k,d,rfl,rfl,i,K,o,p⟩;cases ό;obtain⟨u,r,rfl,E,m⟩:=G.two;obtain⟨z,j,n,c,h⟩:=kC I.Cc i;have D:n.length<=sizeLine:=by rw[<-c.length];exact z
 have g:(Sl b k d).length<=sizeLine:=by have:=vE b k d;lia
 refine nh ql h.typeIs PySem.F.entry_dict_setdefault (PySem.F.args_dict_setdefault_3 _ _ _) (kt_meets_setdefault _ a (jw E) j r) ⟨n,h,D,λw C=>?_,λy h' f B=>?_⟩
 ·have q:=c.val k;rw[C]at q;cases e:wm b k with
  |none=>rw[e]at q;exact absurd q (by simp[Zn])
  |some x=>rw[e]at q;exact⟨x,H,I.tok _,q,o x e⟩
 ·have q:=c.val k;rw[y]at q;cases e:wm b k with
  |some x=>rw[e]at q;exact absurd q (by simp[Zn])
  |none=>
   have t:∃ q,h'.get? a=BD q:=let ⟨q,_,_,A,_⟩:=f;⟨q,A⟩;exact⟨d,_,qB I (by rw[i];exact ϯ) B t$ MA g j (c.put k m) f,m,p e⟩
def NT(I:Xa X b h H s)(g:Rd H p$ Ϛ c):s.TypeIs (Db p) "dict"/\∀ a,Db p=Db a->∃ d,s.heap.get? a=BD d/\d.dict=A5:=by
 obtain⟨_,_,_,_,o,_,_,e,ex,_⟩:=Qr I.Cc g;refine⟨⟨o,e,ex.1⟩,λa f=>?_⟩;cases f;exact⟨o,e,ex.2.1⟩
def ē(r:V->kv->Hp->VK->Prop)(d:TE):TE:=λe H Q=>d e H λx c=>(∃ a b,x=ϖ a/\Rd c a (Ϛ b))/\r x [] c Q
def tBD(r:V->kv->Hp->VK->Prop)(f:TE)(t:TA):TE:=λd H Q=>f d H λx c=>(∃ a b,x=ϖ a/\Rd c a (Ϛ b))/\t d c λxs e=>r x xs e Q
def iL(t:qm "dict")(e:VP "dict" name id)(f:Eo (ϡ id)=pure (Vh "method_descriptor"))(n:qw X id r)(p:PE X o i)
  (c:Xc o name X.env (Qb o X.env)=Qb o X.env:=by rfl) (d:(apos.endLine == cpos.line)=E8:=by rfl):PE X (Ϡ (ϟ o name apos) [] [] cpos)$ ē r i:=by
 intro b s j H Q I h;refine wpAny_Call_method0_late c d (Bd (p b s j H _ I h) λv s1 ſ=>?_);obtain⟨x,H1,g,w,ty,u⟩:=ſ;obtain⟨a,q,rfl,m⟩:=ty;cases w;obtain⟨k,l⟩:=NT g m;exact⟨"dict",id,t,e,f,k,l,Uh rfl$ PySem.evalArgs_none$ n b s1 j H1 (ϖ a) [] (Db a) [] Q g rfl Ϟ u⟩
def t5(E:qm "dict")(g:VP "dict" name id)(j:Eo (ϡ id)=pure (Vh "method_descriptor"))(A:qw X id r)(B:PE X o n)(y:PA X (e::es) t)
  (c:Xc o name X.env (Qb o X.env)=Qb o X.env:=by rfl)
  (f:((Dc cpos$ wa (e::es) X.env).all (λx=>!x.1) && (Lh cpos$ pf [] X.env).all (λx=>x.1.isSome)
   && decide ((e::es).length+([]:List ij).length+(if ([]:List ij).isEmpty then 0 else 1)<30))=E8:=by rfl)
  (d:(apos.endLine == cpos.line)=E8:=by rfl) (C:wa (e::es) X.env=(J8,Qb e X.env)::wa es X.env:=by rfl) (i:(Dc cpos$ wa es X.env).any (·.1)=J8:=by rfl) :
  PE X (Ϡ (ϟ o name apos) (e::es) [] cpos)$ tBD r n t:=by
 intro b s k H Q I h;refine Hv c f d rfl (Bd (B b s k H _ I h) λv s1 ſ=>?_);obtain⟨x,H1,l,ό,ty,F⟩:=ſ;obtain⟨a,D,rfl,z⟩:=ty;cases ό;obtain⟨u,w⟩:=NT l z;refine⟨"dict",id,E,g,j,u,w,?_⟩;have m:=y cpos b s1 k H1 _ l F;rw[C]at m ⊢;exact Uh ⋯$ ar (Bd m λus s2 ⟨vs,p,q,K,G⟩=>A b s2 k p (ϖ a) vs _ us Q q rfl K G)
def qO(R:qm "dict")(l:VP "dict" name id)(q:Eo (ϡ id)=pure (Vh "method_descriptor"))(K:qw X id r)(ϋ:My T r g)(L:FE T X o f)(ό:FA T X (e::es) fs)
  (c:Xc o name X.env (Qb o X.env)=Qb o X.env:=by rfl)
  (i:((Dc cpos$ wa (e::es) X.env).all (λx=>!x.1) && (Lh cpos$ pf [] X.env).all (λx=>x.1.isSome)
   && decide ((e::es).length+([]:List ij).length+(if ([]:List ij).isEmpty then 0 else 1)<30))=E8:=by rfl)
  (d:(apos.endLine == cpos.line)=E8:=by rfl) (p:wa (e::es) X.env=(J8,Qb e X.env)::wa es X.env:=by rfl) (b:(Dc cpos$ wa es X.env).any (·.1)=J8:=by rfl) :
  FE T X (Ϡ (ϟ o name apos) (e::es) [] cpos)$ jE g f fs:=by
 intro j s V H Q I h;refine t5 R l q K L ό c i d p b j s V H Q I ?_;obtain⟨Y,B,Z,y,N,M⟩:=h;refine⟨Y,B,Z,y,N,M.bind λx m t v H1 J E A z k=>?_⟩;unfold Yw at k;cases n:ig m x with
 |none=>rw[n]at k;exact k.elim
 |some xs=>
  rw[n]at k;obtain⟨a,vs,rfl,G,h2⟩:=tw A z n;exact⟨⟨a,vs,rfl,G⟩,t,B,m,y.mono E,A,k.bind λD w u W C J F ϊ P S=>(ϋ _ u C w x D _ W Q ϊ (Na.mono F _ _ z) P S)⟩
def P1:My T UR YA:=by
 intro E G H M x xs v N Q r p q h;cases x with
 |ref n=>
  match xs with
  |[]=>exact h.elim
  |[_]=>exact h.elim
  |[y,d]=>
   obtain⟨w,z,rfl,ό,K⟩:=q;obtain⟨D,f,rfl,B,C⟩:=K;rw[pb]at C;subst C;unfold YA at h;cases m:tj y with
   |none=>simp[m]at h;exact h.elim
   |some k=>
    simp[m]at h;cases b:M[n]? with
    |none=>simp[b]at h;exact h.elim
    |some ob=>
     cases ob with
     |Ga j=>
      simp[b]at h;by_cases o:j.length<Og
      ·rw[ja o]at h;obtain⟨a,rfl,A,s,u,g⟩:=r.at p b;obtain rfl:=ED ό m;have i:s.length=j.length:=by unfold jg at g;exact(Paired.length g).symm
       refine⟨a,s,k,D,rfl,rfl,u,by rw[i];exact yT o,λv e=>?_,λe=>?_⟩
       ·rcases xC g k with⟨l,f⟩|⟨I,L,l,f,F⟩
        ·rw[f]at e;cases e
        ·rw[f]at e;cases e;rw[l]at h;exact Pb.here h r F
       ·rcases xC g k with⟨l,f⟩|⟨I,L,l,f,F⟩
        ·rw[l]at h;have t:=r.write (ob:=ώ _) A ⟨_,bf,by
          have ex:qd G H G$ Sb H a$ Ϛ$ Sl s k D:=Aq (za A) u (λJ z=>by cases z) (λJ J z=>by cases z);exact vL (jg.mono ex g) k$ Na.mono ex _ _ B⟩
         exact h _ _ _ t.1 t.2$ Na.mono t.1 _ _ B
        ·rw[f]at e;cases e
      ·rw[pa o]at h;exact h.elim
     |qa ϋ=>simp[b]at h;exact h.elim
     |yb c fs=>simp[b]at h;exact h.elim
     |Yb _=>simp only[b]at h;exact h.elim
     |ue _=>simp only[b]at h;exact h.elim
  |_::_::_::_=>exact h.elim
 |_=>exact h.elim
end
def cy(a:Ea)(x:D):lv->Option (List Bool)
 |[]=>BD []
 |y::c=>match il a 7 y x,cy a x c with
  |some b,BD bs=>BD (b::bs)
  |_,_=>A5
def oJ(a:Bool)(x y:D):M D:=λb=>match Ui b y with
 |some xs=>(match cy b x xs with
  |some bs=>J (ϒ$ if a then !(bs.any id)else bs.any id) b
  |none=>ϕ)
 |none=>ϕ
theorem XX{a:Ea}{x:D}:∀ {xs:lv} {bs:List Bool},cy a x xs=BD bs->bs.length=xs.length/\∀ (j:Nat) (d:D) (b:Bool),xs[j]?=BD d->bs[j]?=BD b->il a 7 d x=BD b
 |[],bs,h=>by cases h;exact⟨rfl,λj d b h=>by simp at h⟩
 |y::k,bs,h=>by
  unfold cy at h;cases f:il a 7 y x with
  |none=>simp_all
  |some l=>
   cases c:cy a x k with
   |none=>simp_all
   |some e=>
    rw[f,c]at h;cases h;obtain⟨g,i⟩:=XX c;refine⟨by simp[g],λj d b n m=>?_⟩;cases j with
    |zero=>simp_all
    |succ j=>exact i j d b (by trivial) (by trivial)
open Classical in
def MC(a:em)(bs:List Bool)(u:Value):Bool:=decide$ ∃ j:Nat,a[j]?=BD u/\bs[j]?=BD E8
def sI:MC a bs u=E8 ↔ ∃ j:Nat,a[j]?=BD u/\bs[j]?=BD E8:=by unfold MC;exact @decide_eq_true_iff _$ Classical.propDecidable _
def IR{a:em}(i:bs.length=a.length):a.toArray.any (MC a bs)=bs.any id:=by
 rw[show a.toArray.any _=a.any (MC a bs) by simp,wf,Sd,Sd];constructor
 ·rintro ⟨u,_,g⟩;obtain⟨j,_,h⟩:=sI.mp g;exact⟨E8,za h,rfl⟩
 ·rintro ⟨b,c,f⟩;cases (f);obtain⟨j,e,h⟩:=oj c;have d:j<a.length:=by lia
  exact⟨a[j],gg d,sI.mpr ⟨j,by simp,by simp[e,h]⟩⟩
def C1(l:bs.length=a.length)(h:∀ (j:Nat) u b,a[j]?=BD u->bs[j]?=BD b->Jc A s u x b) w(i:w∈a):Jc A s w x$ MC a bs w:=by
 cases e:MC a bs w with
 |true=>obtain⟨j,d,f⟩:=sI.mp e;exact h j w E8 d f
 |false=>
  obtain⟨j,c,rfl⟩:=oj i;have g:j<bs.length:=by lia
  have k:bs[j]=J8:=by
   cases q:bs[j]with
   |false=>rfl
   |true=>exact absurd (sI.mpr ⟨j,Bb c,by rw[Bb g,q]⟩) ⋯
  exact h j _ J8 (Bb c) ⋯
def M5(ό:T.K=X.K)(S:X.A.units+9<cLine){st}(I:Xa X l st H s)(r:Yc T t H B)(M:Na T t H x v)(N:Na T t H y u)(P:Zc v m)(ϋ:Zc u o)
  {xs} (e:Ui B y=BD xs) (G:cy B x xs=BD bs) :
  (Q (Rg$ bs.any id) s->wpAny (model X.prog X.w) X.A (Jb .In m o) Q X.xe s)/\(Q (Rg$ !bs.any id) s->wpAny (model X.prog X.w) X.A (Jb .NotIn m o) Q X.xe s):=by
 obtain⟨p,vs,rfl,C,f⟩:=mz r N e;rw[ό]at f;obtain⟨ϊ,L⟩:=XX G;cases ϋ;have i:∀ {a:em},ce vs a->(bs.length=a.length/\∀ w∈a,Jc X.A.in1 s w m _):=fun {a} q=>by
  have l1:=C.length;have l2:=q.length;have g:bs.length=a.length:=by lia
  refine⟨g,C1 g λj w b c n=>?_⟩;obtain⟨z,E,R⟩:=fG q c;obtain⟨d,F,rd⟩:=kO C E;exact IH I r 7 X.A.in1 d x z v w m b ⋯ rd M R P$ L j d b F n
 rcases f with f|f
 ·obtain⟨a,q,pl,_⟩:=L2.Xa.list I f;obtain⟨g,k⟩:=i q;refine⟨λh=>Lw _ pl.isList (λw c=>k w (by simpa using c)) ?_,λh=>SeqAt.notIn_listAt _ pl.isList (λw c=>k w ⋯) ?_⟩<;>rw[IR g]<;>exact h
 ·obtain⟨a,q,pl,_⟩:=L2.Xa.tuple I f;obtain⟨g,k⟩:=i q;refine⟨λh=>Gv _ pl (λw c=>k w (by simpa using c)) ?_,λh=>SeqAt.notIn_tupleAt _ pl (λw c=>k w ⋯) ?_⟩<;>rw[IR g]<;>exact h
def vU(f:T.K=X.K)(g:X.A.units+9<cLine):wh X (Jb .In)$ rD T$ oJ J8:=by
 rintro c s st H v u m l Q I k j ⟨E,n,d,x,y,r,h,i,a⟩;unfold oJ at a;cases e:Ui d y with
 |none=>rw[e]at a;exact a.elim
 |some xs=>
  rw[e]at a;dsimp only at a;cases b:cy d x xs with
  |none=>rw[b]at a;exact a.elim
  |some bs=>
   rw[b]at a;exact(M5 f g I r h i k j e b).1 ⟨Ϫ _,H,I,rfl,Pb.here a r (by rw[Na];rfl)⟩
noncomputable def yt1:Ev->M D:=λa a=>ϕ
noncomputable def Mn:Ev->M Fl:=λa a=>ϕ
def aS:FE T X e yt1:=λpins s st H Q I ⟨b,c,σ,_,_,a⟩=>a.elim
section
variable{pins:List$ Addr × Obj}{σ:St}{H:Hp}{s:Shared}{h':Heap}
def wF(e:H b=BD u)(n:H a=A5):b≠a:=λz=>by rw[z,n]at e;cases e
def _root_.L2.Xa.Ku{a:b'}(I:Xa X pins σ H s)(k:∀ b u,b ∉ a->s.heap.get? b=BD u->h'.get? b=BD u)(h:∀ b∈a,Nk X pins H b)(j:s.heap.objs.size<=p)(i:uk X.prog X.w (Sb H p o) h' p o) :
  Xa X pins σ (Sb H p o) { s with heap:=h',toks:=t' }:=by
 have f:=I.Cc.fresh j;have E:∀ b u,H b=BD u->b ∉ a:=λb u e z=>by rw[(h b z).1]at e;cases e
 refine I.step (λb g=>?_) (λb o m m d e m=>k b o d e) (λb o m m d e m=>⟨o.slots,k b o d e⟩) (λb u m q n=>by rw[ud$ Aa$ La (xa q) j];exact n)
  (λb o d e=>⟨o,k b o d e⟩) (λb xs q=>by rw[ud$ wF q f];exact q) (λb u xs q=>by rw[ud$ wF q f];exact q) (λb ps q=>⟨#[],by rw[ud$ wF q f,q];simp⟩) (λm C=>?_) (λb u e=>?_) I.bare
 ·obtain⟨F,x,G,y,A,B⟩:=h b g;exact⟨y,x,A,B⟩
 ·obtain⟨o,t,l,D,r⟩:=C;exact⟨o,t,l,k _ o (λz=>(h _ z).2.1 rfl) D,r⟩
 ·by_cases g:b=p
  ·subst g;rw[bf]at e;cases e;exact i
  ·rw[ud g]at e;refine(I.Cc b u e).Aj (λc v d q=>k c v ?_ q) (λc q=>by rw[ud$ wF q f];exact q) λc xs q=>by rw[ud$ wF q f];exact q
   grind
def _root_.L2.Xa.Yu{a:b'}(I:Xa X pins σ H s)(k:∀ b u,b ∉ a->s.heap.get? b=BD u->h'.get? b=BD u)(f:∀ b∈a,Nk X pins H b):Xa X pins σ H { s with heap:=h',toks:=t' }:=by
 have y:∀ b u,H b=BD u->b ∉ a:=λb u e z=>by rw[(f b z).1]at e;cases e
 refine I.step (λb t=>?_) (λb o m m d e m=>k b o d e) (λb o m m d e m=>⟨o.slots,k b o d e⟩) (λb u m q n=>n)
  (λb o d e=>⟨o,k b o d e⟩) (λb xs q=>q) (λb u xs q=>q) (λb ps q=>⟨#[],by rw[q];simp⟩) (λm w=>?_) (λb u e=>?_) I.bare
 ·obtain⟨A,i,B,j,l,p⟩:=f b t;exact⟨j,i,l,p⟩
 ·obtain⟨o,h,g,x,r⟩:=w;exact⟨o,h,g,k _ o (λz=>(f _ z).2.1 rfl) x,r⟩
 ·refine(I.Cc b u e).Aj (λc v d q=>k c v ?_ q) (λm q=>q) λm m q=>q
  grind
end
def qo{h:Heap}(e:h.get? a=BD o)(i:h.get? b=BD f)(c:o.cls=Vh n)(g:f.cls=Vh d)(j:n≠d):a≠b:=λz=>by
 simp_all
noncomputable def zU(K:ϗ)(l:Addr):It:=
 ⟨λi H=>∃ xs x,Te K H l xs/\xs[i]?=BD x,λi H v a=>∃ p x,H p=A5/\v=ϖ p/\(∀ xs,Te K H l xs->xs[i]?=BD x)/\a=Sb H p (.db [Ϣ i,x]),λi H=>∃ xs,Te K H l xs/\i=xs.length⟩
noncomputable def bS(K:ϗ)(l m:Addr):It:=
 ⟨λi H=>∃ xs a x y,Te K H l xs/\Te K H m a/\xs[i]?=BD x/\a[i]?=BD y,λi H v b=>∃ p x y,H p=A5/\v=ϖ p/\(∀ xs,Te K H l xs->xs[i]?=BD x)/\(∀ a,Te K H m a->a[i]?=BD y)/\b=Sb H p (.db [x,y]),
  λi H=>∃ xs a,Te K H l xs/\Te K H m a/\i=min xs.length a.length⟩
def Ε{P:Ba}{w:Ra}{K:PySem.W.Frag}{j:List Ia}{kk:Nat}{F:Td}(l e r:Addr):Rm P w K (ϱ j kk F) (zU K l) [e,r] e (λi h=>(∃ a,IsEnum h e r i a)/\h.IsListIter r l i) where
 mem:=by simp
 obj:=λi h st b f=>by
  obtain⟨⟨a,s1⟩,o,s2,c,d⟩:=st;simp only[Da,Ze,bp]at f;rcases f with rfl|rfl;all_goals grind
 keep:=λi h h' st k=>by
  obtain⟨⟨a,s1⟩,s2⟩:=st;exact⟨⟨a,k e ⋯ _ s1⟩,s2.at λo q=>k r ⋯ o q⟩
 item:=by
  intro X ϋ V N S i D s σ H E I ό st ϊ;subst ϋ V N;obtain⟨xs,x,L,Y⟩:=ϊ;obtain⟨g,rv,p,hz⟩:=I.list L;obtain⟨u,hu,ru⟩:=rv.get Y;obtain⟨⟨a,s1⟩,s2⟩:=st;obtain⟨oa,ea,ca,_⟩:=id p.isList;obtain⟨ob,G,cb,_⟩:=id s2;have a0:l≠e:=qo ea s1 ca rfl ⋯;have a1:l≠r:=qo ea G ca cb ⋯;have Z:e≠r:=qo s1 G rfl cb ⋯;have W:=WalksT.enumerate (prog:=X.prog) (w:=X.w) (I.ok.hd S) e r l Z a0 a1 g.toArray;have hi:i<g.toArray.size:=by
   have:=(ba.mp hu).1;omega
  refine W.item i s _ E hi ⟨⟨a,s1⟩,s2,p.isList⟩ λT a2 h' tk R hT v m hk=>?_;obtain⟨t,y,M,rfl⟩:=R;have ey:y=u:=by
   have:g.toArray[i]?=BD u:=by simpa using hu
   rw[this]at M;cases M;rfl
  subst ey;refine⟨Db T,rfl,W.go j kk F i T { s with heap:=h',toks:=tk } _ E m λh2 hS C=>?_⟩;have B:=W.apart i T h' m;have n:h2.IsTuple T #[Jh i t,y]:=by
   obtain⟨o,e1,c1⟩:=v;exact⟨o,C T o B e1,c1⟩
  have hn:H T=A5:=I.Cc.fresh hT;refine⟨ϖ T,Sb H T _,I.Ku (λb o f q=>C b o f$ hk b o f q) ό hT ?_,rfl,⟨T,x,hn,rfl,λys M=>by rw[I.Fj M L];exact Y,rfl⟩,⟨hS.1,hS.2.1⟩,λb f=>?_⟩
  ·exact⟨(show 2<=sizeLine by decide),[Jh i t,y],ϛ ⟨t,rfl⟩$ ϛ ru Ϟ,n⟩
  ·rw[ud (λz=>B (by rw[<-z];exact f))];exact(ό b f).1
 done:=by
  intro X ϋ V N S i D s σ H E I ό st ϊ;subst ϋ V N;obtain⟨xs,L,Y⟩:=ϊ;obtain⟨g,rv,p,hz⟩:=I.list L;obtain⟨⟨a,s1⟩,s2⟩:=st;have hl:=rv.length;exact wpAny_pyNext_enum_end (I.ok.hd S) s1 s2 p.isList (by simp;lia) λh' G=>⟨rfl,I.Yu (λb o f q=>G b o (λz=>f (by simp[z])) q) ό⟩
 self:=λA i s Q E st h=>by
  obtain⟨⟨a,s1⟩,s2⟩:=st;exact UD s1 h
def aV{l m z TI TO r s}{xs C}(t:TI≠TO)(u:r≠s)(x:h.IsList l xs)(y:h.IsList m C)(s1:IsZip h z TI TO f)(s2:XP h TI a b)(k:XP h TO c d)(A:h.IsListIter r l v)(B:h.IsListIter s m w):ZipApart z TI TO r s l m:=by
 obtain⟨D,p,n,_⟩:=x;obtain⟨E,q,o,_⟩:=y;obtain⟨F,i,e,_⟩:=A;obtain⟨G,j,g,_⟩:=B;exact⟨qo s2 s1 rfl rfl ⋯,qo k s1 rfl rfl ⋯,qo i s1 e rfl ⋯,qo j s1 g rfl ⋯,t,qo s2 i rfl e ⋯,qo s2 j rfl g ⋯,qo k i rfl e ⋯,qo k j rfl g ⋯,u,
  qo p s1 n rfl ⋯,qo p k n rfl ⋯,qo p i n e ⋯,qo p j n g ⋯,qo q s1 o rfl ⋯,qo q k o rfl ⋯,qo q i o e ⋯,qo q j o g ⋯⟩
def zqb{P:Ba}{w:Ra}{K:PySem.W.Frag}{D:List Ia}{kk:Nat}{a0:Td}(l m z TI TO g j:Addr)(d1:TI≠TO)(d2:g≠j) :
  Rm P w K (ϱ D kk a0) (bS K l m) [z,TI,TO,g,j] z (λi h=>IsZip h z TI TO Fc/\XP h TI (Db g) (Db j)/\(∃ a b,XP h TO a b)/\h.IsListIter g l i/\h.IsListIter j m i) where
 mem:=by simp
 obj:=λi h st b e=>by
  obtain⟨s1,s2,⟨a,c,n⟩,⟨o4,r,c4,d4⟩,⟨o5,t,c5,d5⟩⟩:=st;simp at e;rcases e with rfl|rfl|rfl|rfl|rfl
  ·exact⟨_,s1,λv z=>by cases z⟩
  ·exact⟨_,s2,λv z=>by cases z⟩
  ·exact⟨_,n,λv z=>by cases z⟩
  ·exact⟨o4,r,λv z=>by rw[d4]at z;cases z⟩
  ·exact⟨o5,t,λv z=>by rw[d5]at z;cases z⟩
 keep:=λi h h' st k=>by
  obtain⟨s1,s2,⟨a,c,n⟩,r,t⟩:=st;exact⟨k z ⋯ _ s1,k TI ⋯ _ s2,⟨a,c,k TO ⋯ _ n⟩,r.at λo q=>k g ⋯ o q,t.at λo q=>k j ⋯ o q⟩
 item:=by
  intro X hP hw hK hc i Z s σ H E I hf st hg;subst hP hw hK;obtain⟨xs,ys,x,y,hq,B,hx,hy⟩:=hg;obtain⟨f,rv,p,V⟩:=I.list hq;obtain⟨d,ό,Y,a2⟩:=I.list B;obtain⟨u,hu,ru⟩:=rv.get hx;obtain⟨u2,R,a4⟩:=ό.get hy;obtain⟨s1,s2,⟨a,c,n⟩,r,t⟩:=st;have W:=JB (prog:=X.prog) (w:=X.w) (I.ok.hd hc) z TI TO g j l m (aV d1 d2 p.isList Y.isList s1 s2 n r t) f.toArray d.toArray;have hi:i<min f.toArray.size d.toArray.size:=by
   have h1:=(ba.mp hu).1;have h2:=(ba.mp R).1;simp;lia
  refine W.item i s _ E hi ⟨s1,s2,⟨a,c,n⟩,r,t,p.isList,Y.isList⟩ λT a5 h' tk a1 hT M F hk=>?_;obtain⟨v1,v2,S,ϊ,rfl⟩:=a1;have e1:v1=u:=by
   have:f.toArray[i]?=BD u:=by simpa using hu
   rw[this]at S;cases S;rfl
  have e2:v2=u2:=by
   have:d.toArray[i]?=BD u2:=by simpa using R
   rw[this]at ϊ;cases ϊ;rfl
  subst e1;subst e2;refine⟨Db T,rfl,W.go D kk a0 i T { s with heap:=h',toks:=tk } _ E F λh2 L N=>?_⟩;have G:h2.IsTuple T #[v1,v2]:=by
   obtain⟨o,e1,c1⟩:=M;exact⟨o,N T o (W.apart i T h' F) e1,c1⟩
  have hn:H T=A5:=I.Cc.fresh hT;have C:∀ b,b ∉ [z,TI,TO,g,j]->b ∉ [z,TO,g,j]:=λb e ϋ=>e (by simp at ϋ ⊢;rcases ϋ with h|h|h|h<;>simp[h]);have a3:∀ b∈[z,TI,TO,g,j],b<s.heap.objs.size:=λb e=>by
   simp at e;rcases e with rfl|rfl|rfl|rfl|rfl
   ·exact xa s1
   ·exact xa s2
   ·exact xa n
   ·obtain⟨o,q,_⟩:=r;exact xa q
   ·obtain⟨o,q,_⟩:=t;exact xa q
  refine⟨ϖ T,Sb H T _,I.Ku (λb o e q=>N b o (C b e)$ hk b o (C b e) q) hf hT ?_,rfl,⟨T,x,y,hn,rfl,λzs V=>by rw[I.Fj V hq];exact hx,λzs V=>by rw[I.Fj V B];exact hy,rfl⟩,⟨L.1,L.2.1,L.2.2.1,L.2.2.2.1,L.2.2.2.2.1⟩,λb e=>?_⟩
  ·exact⟨(show (2:Nat)<=sizeLine by decide),[v1,v2],ϛ ru$ ϛ a4 Ϟ,G⟩
  ·rw[ud$ Aa$ La (a3 b e) hT];exact(hf b e).1
 done:=by
  intro X hP hw hK hc i Z s σ H E I hf st hg;subst hP hw hK;obtain⟨xs,ys,hq,B,hx⟩:=hg;obtain⟨f,rv,p,V⟩:=I.list hq;obtain⟨d,ό,Y,a2⟩:=I.list B;obtain⟨s1,s2,⟨a,c,n⟩,r,t⟩:=st;have hl:=rv.length;have a6:=ό.length;have ei:i=min f.toArray.size d.toArray.size:=by simp;lia
  subst ei;have C:∀ b,b ∉ [z,TI,TO,g,j]->b ∉ [z,TO,g,j]:=λb e ϋ=>e (by simp at ϋ ⊢;rcases ϋ with h|h|h|h<;>simp[h]);exact(JB (prog:=X.prog) (w:=X.w) (A:=X.A) (I.ok.hd hc) z TI TO g j l m (aV d1 d2 p.isList Y.isList s1 s2 n r t) f.toArray d.toArray).done s _ E ⟨s1,s2,⟨a,c,n⟩,r,t,p.isList,Y.isList⟩ λh' tk hk=>⟨rfl,I.Yu (t':=tk) (λb o e q=>hk b o (C b e) q) hf⟩
 self:=λA i s Q E st h=>tG st.1 h
abbrev NX:=Nat->Ea->Option (Option D)
def Vy(T:Tb)(c:b')(f:Hp)(nx:NX)(ό:It):Prop:=∀ a H e i,qd c f a H->Yc T a H e->match nx i e with
 |none=>True
 |some A5=>ό.stop i H
 |some (BD d)=>ό.go i H/\∀ x b,ό.eD i H x b->qd a H a b/\Yc T a b e/\Na T a b d x
def ø(T:Tb)(X:Cx)(f:Ev->M NX):TI:=λb H R=>∃ a c d,eh T a H c b/\Yc T a H d/\Pb T (XE X b) (Vy T) a H (f c d) R
abbrev Fq(T:Tb)(X:Cx)(b a:Ia)(f:Ev->M NX):Prop:=PI X b a$ ø T X f
def mo(nx:NX)(e:D->Ev->Option Ev)(a:Ev->M Fl):Nat->Nat->Ev->M Fl
 |0,_,_=>Ab
 |k+1,i,f=>λc=>match nx i c with
  |none=>ϕ
  |some A5=>J (Ϙ f) c
  |some (BD d)=>match e d f with
   |none=>ϕ
   |some b=>Kc (a b) (fw$ mo nx e a k$ i+1) c
def JH(b:D->Ev->Option Ev)(a:Ev->M Fl)(c:Ev)(nx:NX):M Fl:=mo nx b a 1001 0 c
def Am(b:Ev->M NX)(d:D->Ev->Option Ev)(a:Ev->M Fl):Ev->M Fl:=λc=>xs c (b c)$ JH d a c
section
variable{tgt iter:Ia}{body:List Stmt}{src:Ev->M NX}{t:D->Ev->Option Ev}{g:Ev->M Fl}{pos:Td}
def yz(M:Co (model X.prog X.w) X.A X.env X.xe)(hc:X.de=E8)(hi:Fq T X tgt iter src)(hg:FG T X tgt t)(hb:Ek T X body g)
  (hs:∀ x,oe iter X.env x=pure x:=by intro _;rfl):FS T X (.For tgt iter body [] pos)$ Am src t g:=by
 intro v s st H D I hq;refine xZ M hc hi hg hb hs v s st H D I ?_;obtain⟨b,p,r,F,hr,M⟩:=hq;refine⟨b,p,r,F,hr,M.xs F λnx Q l ό S J Y r1 q1 p1=>?_⟩;refine⟨λi m j q=>∃ b p r,qd l S b q/\eh T b q p j/\Yc T b q r/\Pb T EN _ b q (mo nx t g m i p r) _,⟨1001,l,p,Q,ϭ _ _,F.mono Y,r1,p1⟩,?_⟩;rintro i m j q ⟨n,z,c,ex,u,ϊ,a⟩;cases m with
 |zero=>exact a.elim
 |succ m=>
  unfold mo at a;have C:=q1 n q c i ex ϊ;cases E:nx i c with
  |none=>simp only[E]at a;exact a.elim
  |some o=>
   cases o with
   |none=>
    simp only[E]at a C;exact ϐ ⟨C,Pb.here (g:=ϸ j) a ϊ u⟩
   |some d=>
    simp only[E]at a C;obtain⟨L,hy⟩:=C;refine ϓ ⟨L,λk e=>∃ b p r,qd l S b e/\eh T b e p k/\Yc T b e r/\Pb T EN _ b e _ (Rp X D),λk e h=>⟨m,Lb _,h⟩,λx e y=>?_⟩;obtain⟨f,V,hx⟩:=hy x e y;cases N:t d z with
    |none=>simp only[N]at a;exact a.elim
    |some B=>
     simp only[N]at a;exact⟨n,c,z,d,B,u.mono f,V,hx,N,λk G=>⟨n,B,c,G,V,(Pb.mono f a).bind λfl R ϋ gl H4 J Z W q4 p4=>BP W q4 p4 λP a0 K p5=>⟨ϋ,P,R,(ex.trans f).trans Z,K,W,p5⟩⟩⟩
end
def Hu(a:D):NX:=λi b=>match jf b a with
 |some xs=>(match xs[i]? with
  |some x=>BD (BD$ ϑ [U (i:Int),x])
  |none=>if i=xs.length then BD A5 else A5)
 |none=>A5
def AE(a b:D):NX:=λi d=>match jf d a with
 |some xs=>(match jf d b with
  |some c=>(match xs[i]? with
   |some x=>(match c[i]? with
    |some y=>BD (BD$ ϑ [x,y])
    |none=>if i=min xs.length c.length then BD A5 else A5)
   |none=>if i=min xs.length c.length then BD A5 else A5)
  |none=>A5)
 |none=>A5
def wB(d:D):M NX:=λa=>match jf a d with
 |some _=>J (Hu d) a
 |none=>ϕ
def uH(f:Ev->M D):Ev->M NX:=λa=>Kc (f a) wB
def GX(a b:D):M NX:=λc=>match jf c a with
 |some _=>(match jf c b with
  |some _=>J (AE a b) c
  |none=>ϕ)
 |none=>ϕ
def YR(m:M D)(a:D):M NX:=Kc m$ GX a
def FN(f g:Ev->M D):Ev->M NX:=λa=>Kc (f a)$ YR$ g a
section
variable{elts:List Ia}{kk:Nat}{p0 p pos:Td}{f g:Ev->M D}
def M3:bootBuiltins "enumerate" = BD (Vh "enumerate"):=by decide +kernel
def M9:bootBuiltins "zip" = BD (Vh "zip"):=by decide +kernel
def Ċ(K:ϗ)(b:TA):TI:=λd H R=>b d H λc a=>∃ l xs,c=[ϖ l]/\Te K a l xs/\R (zU K l) a
def F1(o:Gl X "enumerate")(t:X.mg "enumerate" = A5)(n:PA X [a] j)(v:wa [a] X.env=[(J8,Qb a X.env)]:=by rfl):PI X (ϱ elts kk p0) (Ϡ (ϝ "enumerate" p) [a] [] pos)$ Ċ X.K j:=by
 intro d s A H R I h;refine Call_$ Ny I o t M3$ we (Bd (n pos d s A H _ I h) λus s1 ſ=>?_) v rfl;obtain⟨vs,H1,f,y,x⟩:=ſ;obtain⟨l,xs,e,u,q⟩:=x;subst e;cases y with
 |cons r z=>
  cases z;cases r;obtain⟨w,D,pl,C⟩:=f.list u;refine call_enumerate_list pl.isList λh' g k B m=>UD g ⟨s1.heap.objs.size+1,[s1.heap.objs.size+1,s1.heap.objs.size],_,_,H1,rfl,f.kept m,Ε l _ _,⟨⟨_,g⟩,k⟩,λb i=>?_,q⟩;have c:s1.heap.objs.size<=b:=by simp at i;rcases i with rfl|rfl<;>lia
  exact f.Jm c$ f.Cc.fresh c
def i9(ϋ:Gl X "enumerate")(P:X.mg "enumerate" = A5)(h:FE T X e f)(A:wa [e] X.env=[(J8,Qb e X.env)]:=by rfl):Fq T X (ϱ elts kk p0) (Ϡ (ϝ "enumerate" p) [e] [] pos)$ uH f:=by
 intro k s st H R I ϊ;refine F1 ϋ P (vu h Nx A) A k s st H R I ?_;obtain⟨W,ρ,σ,N,S,Q⟩:=ϊ;refine⟨W,ρ,σ,N,S,Q.bind λd r Y v H1 z e1 D C j=>?_⟩;unfold wB at j;cases n:jf r d with
 |none=>rw[n]at j;exact j.elim
 |some ds=>
  rw[n]at j;obtain⟨l,vs,rfl,L,h2⟩:=D.ls C n;refine⟨l,vs,rfl,Te.of L,Pb.here j D λZ F t i ex E=>?_⟩;unfold Hu;cases o:jf t d with
  |none=>trivial
  |some xs=>
   obtain⟨l',m,G,M,u⟩:=E.ls (Na.mono ex _ _ C) o;cases G;have b:Te X.K F l m:=Te.of M;dsimp only;cases ό:xs[i]? with
   |none=>
    by_cases w:i=xs.length
    ·rw[ja w];exact⟨m,b,by rw[w];exact u.length⟩
    simp_all
   |some d'=>
    obtain⟨x,B,V⟩:=u.get ό;refine⟨⟨m,x,b,B⟩,λz H' y=>?_⟩;obtain⟨q,x',a,rfl,c,rfl⟩:=y;have g:=c m b;rw[B]at g;cases g;exact⟨mj a,E.fresh a,⟨q,_,rfl,bf,pb.cons (by rw[Na])$ pb.cons (Na.mono (mj a) _ _ V) pb.nil⟩⟩
def C4(K:ϗ)(b:TA):TI:=λe H R=>b e H λc a=>∃ l m xs d,c=[ϖ l,ϖ m]/\Te K a l xs/\Te K a m d/\R (bS K l m) a
def Œ(A:Gl X "zip")(B:X.mg "zip" = A5)(z:PA X [a,b] t)(ϋ:wa [a,b] X.env=[(J8,Qb a X.env),(J8,Qb b X.env)]:=by rfl)(g:wa [b] X.env=[(J8,Qb b X.env)]:=by rfl):PI X (ϱ elts kk p0) (Ϡ (ϝ "zip" p) [a,b] [] pos)$ C4 X.K t:=by
 intro e s M H R I h;refine Call_$ Ny I A B M9$ we (Bd (z pos e s M H _ I h) λus s1 ⟨vs,H1,c,ό,F⟩=>?_) ⋯ (by rw[g];rfl);obtain⟨l,m,xs,S,rfl,C,f,q⟩:=F;cases ό with
 |cons r j=>
  cases j with
  |cons G j=>
   cases j;cases r;cases G;obtain⟨E,Q,pl,P⟩:=c.list C;obtain⟨o,L,i,D⟩:=c.list f;refine call_zip_2 pl.isList i.isList λh' k u v w x N y=>tG k ⟨s1.heap.objs.size+4,[s1.heap.objs.size+4,s1.heap.objs.size+2,s1.heap.objs.size+3,s1.heap.objs.size,s1.heap.objs.size+1],_,_,H1,rfl,c.kept y,zqb l m (s1.heap.objs.size+4) _ _ s1.heap.objs.size (s1.heap.objs.size+1) (show (s1.heap.objs.size+2)≠s1.heap.objs.size+3 by omega) (show s1.heap.objs.size≠s1.heap.objs.size+1 by lia),⟨k,u,⟨_,_,v⟩,w,x⟩,λb n=>?_,q⟩;have d:s1.heap.objs.size<=b:=by simp at n;rcases n with rfl|rfl|rfl|rfl|rfl<;>lia
   exact c.Jm d$ c.Cc.fresh d
def Í(hg:Gl X "zip")(hm:X.mg "zip" = A5)(h:FE T X e f)(h':FE T X b g)(hs:wa [e,b] X.env=[(J8,Qb e X.env),(J8,Qb b X.env)]:=by rfl)(w:wa [b] X.env=[(J8,Qb b X.env)]:=by rfl) :
  Fq T X (ϱ elts kk p0) (Ϡ (ϝ "zip" p) [e,b] [] pos)$ FN f g:=by
 intro C s st H R I hw;refine Œ hg hm (vu h (vu h' Nx w)$ by simp_all) hs w C s st H R I ?_;obtain⟨μ,ρ,σ,Y,hr,hp⟩:=hw;refine⟨μ,ρ,σ,Y,hr,hp.bind λd Q P v H1 z e1 r1 q1 p1=>⟨P,ρ,Q,Y.mono e1,r1,p1.bind λϊ F a2 v2 H2 z e2 N q2 n=>?_⟩⟩;unfold GX at n;cases L:jf F d with
 |none=>rw[L]at n;exact n.elim
 |some ds=>
  rw[L]at n;cases o:jf F ϊ with
  |none=>rw[o]at n;exact n.elim
  |some a1=>
   rw[o]at n;have D:=Na.mono e2 _ _ q1;obtain⟨l,vs,rfl,h1,h2⟩:=N.ls D L;obtain⟨m,ws,rfl,h3,h4⟩:=N.ls q2 o;refine⟨l,m,vs,ws,rfl,Te.of h1,Te.of h3,Pb.here n N λa3 S G i ex ϋ=>?_⟩;unfold AE;cases fl:jf G d with
   |none=>trivial
   |some xs=>
    obtain⟨l',E,b,h5,V⟩:=ϋ.ls (Na.mono ex _ _ D) fl;cases b;cases M:jf G ϊ with
    |none=>trivial
    |some ys=>
     obtain⟨m',a,b,h7,W⟩:=ϋ.ls (Na.mono ex _ _ q2) M;cases b;have j:Te X.K S l E:=Te.of h5;have k:Te X.K S m a:=Te.of h7;have l1:=V.length;have l2:=W.length;dsimp only;cases ei:xs[i]? with
     |none=>
      by_cases u:i=min xs.length ys.length
      ·rw[ja u];exact⟨E,a,j,k,by rw[u,l1,l2]⟩
      simp_all
     |some d'=>
      cases ό:ys[i]? with
      |none=>
       by_cases u:i=min xs.length ys.length
       ·rw[ja u];exact⟨E,a,j,k,by rw[u,l1,l2]⟩
       all_goals simp_all
      |some a0=>
       obtain⟨x,Z,rx⟩:=V.get ei;obtain⟨y,hy,ry⟩:=W.get ό;refine⟨⟨E,a,x,y,j,k,Z,hy⟩,λz H' yy=>?_⟩;obtain⟨q,x',y',c,rfl,t,r,rfl⟩:=yy;have A:=t E j;rw[Z]at A;cases A;have B:=r a k;rw[hy]at B;cases B;exact⟨mj c,ϋ.fresh c,⟨q,_,rfl,bf,pb.cons (Na.mono (mj c) _ _ rx)$ pb.cons (Na.mono (mj c) _ _ ry) pb.nil⟩⟩
end
open PySem.Builtin.Str (occurrences partsBetween subAt)
end L4
namespace L4
open Spec L2
def yI(h:Ev)(c:Nat)(f:Str)(x:D)(a:Int)(y:D):M Fl:=λe=>match y with
 | U b=>(match x with
  | O n=>(match e[n]? with
   |some (ϔ g d)=>if (g == c && decide (d.length<1000))=E8 then J (Ϙ h) (e.set n$ ϔ c$ Tj f (U$ a+b) d)else ϕ
   |_=>ϕ)
  |_=>ϕ)
 |_=>ϕ
def sA(b:Ev)(e:h8)(f:Str)(h:Ev->M D)(x:D):M Fl:=λd=>match Sj d x with
 |some (c,g)=>if e.contains c=E8 then (match g.lookup f with
  |some (U a)=>xs b (h b) (yI b c f x a) d
  |_=>ϕ)else ϕ
 |none=>ϕ
def WI(b:h8)(f:Str)(d c:Ev->M D):Ev->M Fl:=λa=>xs a (c a)$ sA a b f d
def wN{W V}(hK:T.K=X.K)(hc:RH T F f)(ho:FE T X o V)(hv:FE T X e W):FS T X (.AugAssign (ϟ o f v) .Add e N)$ WI F f W V:=by
 intro u s st H D I hq;refine ŷ ho hv x6 u s st H D I ?_;obtain⟨μ,ρ,σ,t,hr,hp⟩:=hq;refine⟨μ,ρ,σ,t,hr,hp.xs t λx C Q vo H1 J G r1 q1 d=>?_⟩;unfold sA at d;cases ό:Sj C x with
 |none=>rw[ό]at d;exact d.elim
 |some p=>
  obtain⟨c,fs⟩:=p;rw[ό]at d;dsimp only at d;by_cases l:F.contains c=E8
  ·rw[ja l]at d;obtain⟨a,dx,vs,rfl,h1,h2⟩:=Vz r1 q1 ό;cases L:fs.lookup f with
   |none=>rw[L]at d;exact d.elim
   |some y=>
    rw[L]at d;cases y with
    |int i=>
     obtain⟨w,h3,h4⟩:=(TC h2).1 _ L;obtain⟨Z,k2⟩:=hc c l;rw[hK]at Z k2;refine⟨a,_,dx,vs,w,rfl,h1,Z,k2,h3,Q,ρ,C,t.mono G,r1,d.xs (t.mono G) λz R B vz S J ϊ r2 q2 b=>?_⟩;unfold yI at b;cases z with
     |int j=>
      refine⟨i,j,Wq h4,Wq q2,?_⟩;have ϋ:=Na.mono ϊ _ _ q1;cases x with
      |ref n=>
       dsimp only at b;cases k:R[n]? with
       |none=>rw[k]at b;exact b.elim
       |some ob=>
        rw[k]at b;cases ob with
        |qa _=>exact b.elim
        |Ga _=>exact b.elim
        |Yb _=>exact b.elim
        |ue _=>exact b.elim
        |yb E m=>
         dsimp only at b;by_cases g:(E == c && decide (m.length<1000))=E8
         ·rw[ja g]at b;rw[Fa,Rb,Bf]at g;obtain⟨rfl,hl⟩:=g;obtain⟨a',ea,Y,h,A,q,r⟩:=r2.at ϋ k;cases ea;have ex:qd B S B$ Sb S a$ .yb (T.ca E) h$ Mm f (Ϣ$ i+j) A:=Aq (za Y) q (λJ z=>by cases z) (λJ J z=>by cases z);have P:=r2.write (ob:=ϔ E$ Tj f (U _) m) Y ⟨h,_,bf,GN (by rw[Na])$ Ms.mono ex r⟩;exact⟨h,A,q,by rw[<-r.length];exact hl,b _ (ϸ st) _ P.1 P.2$ (t.mono G).mono ϊ |>.mono P.1⟩
         ·rw[pa g]at b;exact b.elim
      |_=>exact b.elim
     |_=>exact b.elim
    |_=>exact d.elim
  ·rw[pa l]at d;exact d.elim
def ot(y x:D):M D:=λb=>match tj y with
 |some k=>(match ig b x with
  |some a=>J (ϒ$ !(Cj a k).isSome) b
  |none=>ϕ)
 |none=>ϕ
noncomputable def BY:R2:=λy x H Q=>∃ a o,x=ϖ a/\kl H a y o/\Q (Ϫ$ !o.isSome) H
def OQ(f:X.A.units+9<cLine):wh X (Jb .NotIn) BY:=by
 rintro b s j H y x h u Q I e d ⟨a,o,rfl,g,q⟩;obtain rfl:u=Db a:=d;exact Ŭ ⋯ I g e λi c=>⟨Ϫ _,H,c,rfl,q⟩
theorem HX:ak T BY ot:=by
 intro E n H l y x u v Q r q p h;unfold ot at h;cases c:tj y with
 |none=>rw[c]at h;exact h.elim
 |some k=>
  rw[c]at h;cases b:ig l x with
  |none=>rw[b]at h;exact h.elim
  |some j=>
   rw[b]at h;obtain⟨a,vs,rfl,g,i⟩:=tw r p b;obtain rfl:=ED q c;refine⟨a,wm vs k,rfl,kl.kr g,Pb.here h r ?_⟩;rcases xC i k with⟨e,f⟩|⟨d,w,e,f,m⟩
   ·rw[e,f];rfl
   ·rw[e,f];rfl
def bu(T:Tb)(P:Ba)(w:Ra)(e:Str->Option Value)(a:Heap)(k:Nat)(f:Addr)(ps:ab)(c:em)(d:lv->M D):Prop:=
 ∃ b,vr T.K b ps []/\vr T.K b ps c/\gh P w T.K e a (Kk P w) k f b ps (Ro T ps.length d)
structure Bp(K:ϗ)(C:Addr)(x qual:Str)(st:Stmt)(ps:ab)(dv:em)(f:Addr):Prop where
 ex:∃ fd,(∃ (oc:Value) (od:Option Addr) (dV kV doc pm:Value) (an:Option Addr) (cdv ct:Value) (osl:Array (Option Value)),
  fd=Ϯ x qual (xl st) (Nj st) (Kf st) dV kV doc pm an cdv ct/\K.lookup f=BD ⟨oc,od,.func fd,osl⟩/\ϻ K cdv qual=E8)/\vr K fd ps []/\vr K fd ps dv
section
variable{P:Ba}{w:Ra}{K:ϗ}{mg:Str->Option Value}{base:Heap}{ca:Nat->Addr}{tx:Tx}
def RM{st}(h:Bp K C x a st ps e f)(S:Ec N ps$ Kf st)
  (m:∀ b A c s H E,Md k (A.deeper$ rg a (Kf st) s.heap.objs.size f b)->Ek ⟨K,ca,tx⟩ (vp (Kk P w) P w K mg base N a (Kf st) f b A c s H E) (Nj st) g) :
  bu ⟨K,ca,tx⟩ P w mg base (k+1) f ps e$ Ch N.length g:=by
 obtain⟨q,⟨r,t,p,kV,l,u,o,b,ct,n,rfl,lk,d⟩,i,j⟩:=h.ex;exact⟨_,i,j,GC lk d S$ m b⟩
def bu.Yd(h:bu T P w mg base k f ps a b):bu T P w mg base k f ps a$ L4.Yd b:=by rw[Ur];exact h
def uN{st}{kV e i a ct}
  (w:∀ t kV e i h a ct s o n g,s.heap.get? t=BD o->o.data=Ϩ j.toArray n->((g++[]).length=ps.length->Qe s (Ϯ x b (xl st) (Nj st) (Kf st) (Db t) kV e i h a ct) ⟨g,[]⟩ (ps.zip$ g++[]))/\
   ((g++j).length=ps.length->Qe s (Ϯ x b (xl st) (Nj st) (Kf st) (Db t) kV e i h a ct) ⟨g,[]⟩ (ps.zip$ g++j)))
  (l:K.lookup f=BD ⟨y,z,.func$ Ϯ x b (xl st) (Nj st) (Kf st) (Db t) kV e i h a ct,k⟩)
  (c:ϻ K a b=E8) (d:K.lookup t=BD ⟨r,u,Ϩ j.toArray q,v⟩):Bp K C x b st ps j f:=
 ⟨⟨_,⟨y,z,_,kV,e,i,h,a,ct,k,rfl,l,c⟩,λs g m p=>(w t kV e i h a ct s _ q g (m _ _ d) rfl).1 p,λs g m p=>(w t kV e i h a ct s _ q g (m _ _ d) rfl).2 p⟩⟩
end
noncomputable def DF(a:h8)(b:Ev):Ev:=A5::A5::a.map λi=>(b[i]?).getD A5
noncomputable def BA(a:h8)(st:St):St:=A5::A5::a.map λi=>(st[i]?).getD A5
def Ĩ{st} a(h:eh T b H c st):eh T b H (DF a c)$ BA a st:=by
 refine⟨by simp[DF,BA],λi d e=>?_⟩;cases i with
 |zero=>cases e
 |succ j=>exact(mX a h).2 j d e
section
variable{pins:List$ Addr × Obj}{st:St}{H:Hp}{s:Shared}{x z0:Str}{M':ab}{ix:h8}{scope:Scope}{fp:b'}
def zd9(I:Xa X pins st H s)(L:Wj X x M' ix scope)(g:∀ b∈fp,Nk X pins H b/\b<s.heap.objs.size)(M:h'.Ns s.heap.objs.size m)
  (D:∀ b o,s.heap.get? b=BD o->h'.get? b=BD o) :
  Xa (Po X (x::z0::M') scope (Si X.env scope.names []) s.heap.objs.size s H fp) [] (BA ix st) H { s with heap:=h',toks:=t' }:=by
 have d:∀ n c,(Si X.env scope.names []).lookup n=BD c->X.env.cells.lookup n=BD c:=λn c e=>rN X.env scope.names [] n c (λJ J q=>by simp at q) e;have t:H s.heap.objs.size=A5:=I.Cc.fresh$ va _;refine⟨⟨I.ok.mod,L.kind,I.ok.glob,I.ok.blt,va _,λa b c A r=>I.ok.inj a b c (d a c A)$ d b c r,λa ha=>?_,λa c h=>(by cases h),I.ok.hd,I.ok.frames,ϐ rfl,λb w=>⟨Aa (g b w).2,λa c e=>?_⟩,λb o e=>I.bs b o e,lb I.ok.Au I.sz,λb o e w=>?_,λb w z=>?_,I.stack,I.Dl⟩,
  rfl,I.bare,Un.kept D,⟨m,M,λi y v V F e3=>?_⟩,λa c e=>?_,t,λa c e=>I.bg a c$ d a c e,λp hp=>absurd (show p∈[]from hp) ⋯,I.Cc.kept D,?_⟩
 ·
  have G:(scope.names.map λ(n,k)=>if (k == xb && X.env.scope.kind == Ϥ && X.env.kindOf n == BD Gc)then (n,Gc)else (n,k)).lookup a=BD Gc\/(scope.names.map λ(n,k)=>if (k == xb && X.env.scope.kind == Ϥ && X.env.kindOf n == BD Gc)then (n,Gc)else (n,k)).lookup a=BD xb:=ha;have T:scope.names.lookup a=BD xb:=by
   rcases G with z|z
   ·obtain⟨k0,A,r⟩:=lN z;rcases r with r|⟨r,_⟩
    ·subst r;exact absurd rfl$ aG L _$ ew A
    ·rw[r]at A;exact A
   ·obtain⟨k0,A,r⟩:=lN z;all_goals simp_all
  exact gG X.env scope.names [] a (ew T)$ lB I L _ (ew T) rfl
 ·exact(g b w).1.2.2.2.2.1 a c$ d a c e
 ·rcases(g b w).1.2.2.2.1 with z|z
  ·exact I.ok.Os b o e z
  ·exact absurd (La (xa e)$ lb I.ok.Au z)$ Qd _
 ·rcases Da.mp (I.Kq b z)with q|q
  ·exact(g b w).1.2.1 q
  ·exact(g b w).1.2.2.1 q
 ·
  cases i with
  |zero=>simp[BA]at F
  |succ i=>
  cases i with
  |zero=>simp[BA]at F
  |succ j=>
   have E:M'[j]?=BD y:=V;have f:(ix.map λi=>(st[i]?).getD A5)[j]?=BD _:=F;rw[Ta]at f;cases S:ix[j]? with
   |none=>rw[S]at f;cases f
   |some C=>
    rw[S]at f;have Q:(st[C]?).getD A5=BD v:=Zb f;have W:st[C]?=BD (BD v):=by
     cases q:st[C]? with
     |none=>rw[q]at Q;cases Q
     |some o=>simp_all
    have Y:X.N[C]?=BD y:=by
     have z:=Eb (λl=>l[j]?) L.at_
     simp_all
    have q:=Vb.mp L.QV y$ za E;simp only[Fa,zf]at q;have kx:X.env.scope.names.lookup y=BD Gc\/X.env.scope.names.lookup y=BD xb:=by
     all_goals simp_all
    have P:scope.names.lookup y=BD xb:=eq_of_beq q.2;obtain⟨m0,a0,K⟩:=I.loc;obtain⟨u,ru,lu⟩:=K C y v Y W (by rcases kx with z|z;exact ϓ$ ϐ z;exact ϓ$ ϓ z);refine⟨u,ru,ϓ ⟨zS (env:=X.env) P,?_⟩⟩;rcases lu with⟨z,_⟩|⟨_,c,Z,zc⟩
    ·rcases kx with k|k
     ·rw[show X.env.kindOf y=X.env.scope.names.lookup y from rfl,k]at z;cases z
     ·rw[show X.env.kindOf y=X.env.scope.names.lookup y from rfl,k]at z;cases z
    ·obtain⟨ϊ,B⟩:=gG X.env scope.names [] y (ew P) (lB I L _ (ew P) rfl);have R:=d y ϊ B;rw[Z]at R;cases R;obtain⟨o,ϋ,ό⟩:=zc;exact⟨c,B,o,D _ _ ϋ,ό⟩
 ·obtain⟨v,o,ϋ,ό⟩:=I.cell a c (d a c e);exact⟨v,o,D _ _ ϋ,ό⟩
 ·simp[BA,Po];simpa using (Eb List.length L.at_)
end
noncomputable def Op(l:gV):gV:=l.mergeSort λa b=>decide$ a<=b
def bv l:(Op l).Perm l:=List.mergeSort_perm l _
def LI l:(Op l).Pairwise (·<=·):=by
 have:=List.pairwise_mergeSort (le:=λa b:Int=>decide$ a<=b) (λa b c d e=>by simp at *;lia) (λa b=>by simp;lia) l;exact this.imp λh=>by simpa using h
theorem WE:∀ {l m:gV},l.Perm m->l.Pairwise (·<=·)->m.Pairwise (·<=·)->l=m
 |[],m,h,_,_=>by rw[List.nil_perm]at h;exact h.symm
 |a::l,[],h,_,_=>by have:=h.length_eq;simp at this
 |a::l,b::m,h,c,d=>by
  rw[List.pairwise_cons]at c d;have f:=h.subset ua;have g:=h.symm.subset ua;have e:a=b:=by
   rcases Da.mp f with e|f
   ·exact e
   ·rcases Da.mp g with e|g
    ·exact e.symm
    ·have:=c.1 b g;have:=d.1 a f;lia
  subst e;rw[WE (zaE h) c.2 d.2]
def IK(K:ϗ):kv->Hp->VK->Prop:=λxs H Q=>∃ (p:Addr) (is:gV),xs=[ϖ p]/\Te K H p (is.map Ϣ)/\is.length<64/\∀ l,H l=A5->Q (ϖ l) (Sb H l$ ϰ$ (Op is).map Ϣ)
def O4:To X (ϡ "sorted")$ IK X.K:=by
 rintro g s x H xs v Q I r ⟨p,d,rfl,n,c,q⟩;obtain⟨u,rfl,rfl⟩:=vt r;obtain⟨f,h,pl,t⟩:=I.list n;have a:=h.length;rw[Oa]at a;refine sorted_ints pl.isList (zK h) ⋯ λb o i j k=>?_;obtain⟨e,m⟩:=sortedAll_at s.heap f b;have l:=WE (j.trans (bv d).symm) k$ LI d;subst l;exact⟨ϖ _,_,I.laid (λy y=>sortedAll_old) (zg _) (show uk X.prog X.w _ _ _ (ϰ _)from⟨by rw[Oa,((bv d).length_eq)];exact lb (Od c) ⋯,b.toList,e,UF i,by rw[Li];exact m⟩),rfl,q _$ I.Cc.fresh$ zg _⟩
def cP(xs:lv):M D:=λa=>match xs with
 |[x]=>(match jf a x with
  |some b=>(match Jp b with
   |some is=>if is.length<64 then xA ((Op is).map U) a else ϕ
   |none=>ϕ)
  |none=>ϕ)
 |_=>ϕ
theorem xO{b:b'}{H:Hp}:∀ a:gV,pb T b H (a.map U) (a.map Ϣ)
 |[]=>pb.nil
 |i::a=>pb.cons (by rw[Na]) (xO a)
def zy9(n:T.K=X.K):Us T (IK X.K) cP:=by
 intro E q H m xs vs Q r p h
 match xs with
 |[]=>trivial
 |[x]=>
  obtain⟨v,w,rfl,j,d⟩:=p;rw[pb]at d;subst d;unfold cP at h;cases e:jf m x with
  |none=>simp[e]at h;exact h.elim
  |some k=>
   simp[e]at h;cases a:Jp k with
   |none=>simp[a]at h;exact h.elim
   |some is=>
    simp[a]at h;by_cases c:is.length<64
    ·rw[ja c]at h;obtain⟨b,o,rfl,f,g⟩:=r.ls j e;obtain rfl:=vD g a;exact⟨b,is,rfl,Te.of f,c,λl i=>AC h r (xO _) i⟩
    ·rw[pa c]at h;exact h.elim
 |_::_::_=>cases h
def vv(c a:List$ wc × V):List$ wc × V:=a.foldl (λb d=>Sl b d.1 d.2) c
def Sx(c a:List$ wc × D):List$ wc × D:=a.foldl (λb d=>Zi b d.1 d.2) c
def e8:∀ {a} {d} {b} {vs},KV a d->KV b vs->KV (vv b a) (merged vs d):=by
 intro a;induction a with
 |nil=>intro d b vs c e;cases c;exact e
 |cons p a f=>
  intro d b vs c e;cases c with
  |cons q c=>
   obtain⟨g,h⟩:=q;have:=f c$ e.put p.1 h;simpa [vv,merged,g]using this
def W1:∀ a b,(vv b a).length<=b.length+a.length:=by
 intro a;induction a with
 |nil=>intro b;simp[vv]
 |cons p a d=>
  intro b;have e:=d$ Sl b p.1 p.2;have f:=vE b p.1 p.2;have c:vv b (p::a)=vv _ a:=rfl;rw[c,gb]
  lia
def aU:V->kv->Hp->VK->Prop:=λx e H Q=>∃ a b d c,x=ϖ a/\e=[ϖ b]/\a≠b/\H a=BD (Ϛ d)/\Rd H b (Ϛ c)/\d.length+c.length<=sizeLine/\Q .ec (Sb H a$ Ϛ$ vv d c)
def Ψ:qw X "dict.update" aU:=by
 intro p s L H x vs v M Q I D C h;obtain⟨a,b,g,d,rfl,rfl,l,o,k,ό,q⟩:=h;cases D;obtain⟨u,rfl,rfl⟩:=vt C;obtain⟨z,t,r,e,n⟩:=kC I.Cc o;obtain⟨N,m,i,c,j⟩:=Qr I.Cc k;have E:g.length=r.length:=by unfold KV at e;exact Paired.length e
 have G:d.length=i.length:=by unfold KV at c;exact Paired.length c
 refine nh Um n.typeIs PySem.F.entry_dict_update (PySem.F.args_dict_update_2 _ _) (meets_dict_update (jj X.prog X.w) a b l m) ⟨r,i,n,j,by lia,λh' f J B=>?_⟩;have y:∃ q,h'.get? a=BD q:=let ⟨q,_,_,A,_⟩:=f;⟨q,A⟩;have K:=W1 d g;exact⟨.ec,_,qB I (by rw[o];exact ϯ) B y$ MA ⋯ t (e8 c e) f,rfl,q⟩
noncomputable def apart(n:Nat):D->Bool
 | O m=>!(m == n)
 |_=>E8
def DA(x:D)(xs:lv):M D:=λb=>match x,xs with
 | O n,[y]=>(match b[n]? with
  |some (ώ a)=>(match ig b y with
   |some more=>if (apart n y && decide (a.length+more.length<=Og))=E8 then J Ϝ (b.set n$ ώ$ Sx a more)else ϕ
   |none=>ϕ)
  |_=>ϕ)
 |_,_=>ϕ
def jR:∀ {a} {d} {b} {vs},jg T f H a d->jg T f H b vs->jg T f H (Sx b a) (vv vs d):=by
 intro a;induction a with
 |nil=>intro d b vs c e;unfold jg at c;cases c;exact e
 |cons p a g=>
  intro d b vs c e;cases c with
  |cons q c=>
   have:=g c$ vL e p.1 q.2;simpa [Sx,vv,q.1]using this
def n0:My T aU DA:=by
 intro E F H G x xs v N Q r p q h;cases x with
 |ref n=>
  match xs with
  |[]=>exact h.elim
  |[y]=>
   obtain⟨w,z,rfl,s,C⟩:=q;rw[pb]at C;subst C;unfold DA at h;cases d:G[n]? with
   |none=>simp[d]at h;exact h.elim
   |some ob=>
    cases ob with
    |Ga g=>
     simp only[d]at h;cases i:ig G y with
     |none=>simp[i]at h;exact h.elim
     |some more=>
      simp only[i]at h;by_cases f:(apart n y && decide (g.length+more.length<=Og))=E8
      ·rw[ja f]at h;simp[Fa,Rb]at f;obtain⟨a,rfl,j,t,A,k⟩:=r.at p d;obtain⟨b,u,rfl,ό,l⟩:=tw r s i;have l1:t.length=g.length:=by unfold jg at k;exact(Paired.length k).symm
       have l2:u.length=more.length:=by unfold jg at l;exact(Paired.length l).symm
       have o:a≠b:=by
        cases y with
        |ref m=>
         obtain⟨I,e,L⟩:=s;cases e;intro e;subst e;have:=f.1;simp[apart,(IG r.nd L j)]at this
        |Ga ks ds=>
         obtain⟨I,B,e,K,_⟩:=s;cases e;intro e;subst e;exact K$ za j
        |_=>cases i
       refine⟨a,b,t,u,rfl,rfl,o,A,ό,by rw[l1,l2];exact lb f.2 ⋯,?_⟩;have D:=r.write (ob:=ώ _) j ⟨_,bf,by
        have ex:qd F H F$ Sb H a$ Ϛ$ vv t u:=Aq (za j) A (λJ z=>by cases z) (λJ J z=>by cases z);exact jR (jg.mono ex l)$ jg.mono ex k⟩
       exact h _ _ _ D.1 D.2 (by rw[Na])
      ·rw[pa f]at h;exact h.elim
    |qa ϋ=>simp only[d]at h;exact h.elim
    |yb c M=>simp[d]at h;exact h.elim
    |Yb _=>simp only[d]at h;exact h.elim
    |ue _=>simp only[d]at h;exact h.elim
  |_::_::_=>exact h.elim
 |_=>exact h.elim
def zQ:bootBuiltins "sorted" = BD (ϡ "sorted"):=by decide +kernel
theorem fQ:∀ {ks:List wc} {vs:em},vs.length=ks.length->(∀ (j:Nat) (v:Value) (k:wc),vs[j]?=BD v->ks[j]?=BD k->Zc (kV k) v)->ce (ks.map kV) vs
 |[],[],_,_=>Ϟ
 |[],_::_,h,_=>by simp at h
 |_::_,[],h,_=>by simp at h
 |k::ks,v::vs,h,a=>ϛ (a 0 v k rfl rfl) (fQ ⋯ λj v k b c=>a (j+1) v k b c)
def zud(h:(jj P w).is k v=E8):Zc (kV k) v:=by
 rcases Qq h with⟨i,t,rfl,rfl⟩|⟨x,t,rfl,rfl⟩<;>exact⟨t,rfl⟩
theorem vT:∀ {a:List$ wc × V} {ws:List$ wc × Value},KV a ws->ws.map (·.1)=a.map (·.1)
 |[],_,h=>by cases h;rfl
 |p::a,_,h=>by
  cases h with
  |cons q h=>simp only[Sa];rw[vT h,q.1]
noncomputable def Ut:wc->D
 | .inl i=>U i
 | .inr x=>ϙ x
end L4
namespace L4
open Spec Calls W PyProof.V
def E2
  (K:KdlSrc k w C r d n P B) (D:A.handled=A5) (p:B s.heap) (G:n<=sizeLine)
  (u:∀ h j a,(∀ b o,s.heap.get? b=BD o->h.get? b=BD o)->s.heap.objs.size<=h.objs.size->gn P a n->R a.toList { s with heap:=h,toks:=j }) :
  wpAny (model k w) A (collect$ Db r) R E s:=by
 have lt:=K.there _ p;let S:Addr:=s.heap.objs.size;let Z:Do->Shared->Prop:=λq v=>∃ (h:Heap) (j:Nat) (a:Array Value) (c:Nat),q=.ok (.ret$ Db S)/\v={ s with heap:=h,toks:=j }/\(∀ b o,s.heap.get? b=BD o->h.get? b=BD o)/\
  h.get? S=BD { cls:=Vh "list",dict:=A5,data:=Ϩ a c,slots:=#[] }/\gn P a n
 have i:∀ {h:Heap} {j c:Nat} {a:Array Value},(∀ b o,s.heap.get? b=BD o->h.get? b=BD o)->h.get? S=BD { cls:=Vh "list",dict:=A5,data:=Ϩ a c,slots:=#[] }->gn P a n->R a.toList { s with heap:=h,toks:=j }:=
  λm g l=>u _ _ _ m (Od$ xa g) l
 have t:(s.heap.push { cls:=Vh "list",data:=Ϩ ([]:em).toArray }).get? S=BD { cls:=Vh "list",data:=Ϩ #[] }:=Ca _ rfl;have Ch:=kdl_extend (A:=A) (s:={ s with heap:=s.heap.push { cls:=Vh "list",data:=Ϩ ([]:em).toArray } }) (R:=Z) K D (K.keep _ _ p λb F o e=>da _ e) S (Pd lt.1) (Pd lt.2) (Db S) 0 t
  (λh j a c m g l=>⟨h,j,a,c,rfl,rfl,λb o e=>m b o (Aa$ xa e)$ da _ e,g,l⟩) G
 refine aa$ dr$ Lc vy$ aa$ ic$ ga ⟨ae Pn _,Lc uG$ gc Ch (λf v x=>?_) (λe v x=>by obtain⟨_,_,_,_,z,_⟩:=x;cases z)⟩;cases f with
 |done f=>
  obtain⟨h,j,a,c,e,rfl,m,g,l⟩:=x;cases e;exact aa$ km g$ ga$ i m g l
 |again H=>
  refine⟨x.1,xf x.2 λq s2 y=>?_⟩;obtain⟨h,j,a,c,rfl,rfl,m,g,l⟩:=y;exact aa$ km g$ ga$ i m g l
end L4
namespace L4
open Spec L2
def iK:kv->Hp->VK->Prop:=λxs H Q=>∃ (a:Addr) (b:List (wc × V)) (is:gV),xs=[ϖ a]/\Rd H a (Ϛ b)/\b.map (·.1)=is.map Sum.inl/\is.length<64/\∀ l,H l=A5->Q (ϖ l) (Sb H l$ ϰ$ (Op is).map Ϣ)
theorem sS:∀ {a:gV} {b:em},ce ((a.map (Sum.inl:Int->wc)).map kV) b->rh b a
 |[],_,h=>by cases h;exact .nil
 |i::a,_,h=>by
  cases h with
  |cons q h=>
   obtain⟨t,rfl⟩:=q;exact .cons i t$ sS h
def R7(Z:X.de=E8):To X (ϡ "sorted") iK:=by
 rintro ϋ s σ H xs us Q I r ⟨a,g,n,rfl,Y,i,t,q⟩;obtain⟨u,rfl,rfl⟩:=vt r;obtain⟨z,hd,p,D,T⟩:=Qr I.Cc Y;obtain⟨G,y⟩:=T.dictAt;have ό:=vT D;have a4:p.length=g.length:=by have:=Eb List.length ό;simpa using this
 have a0:g.length=n.length:=by have:=Eb List.length i;simpa using this
 have L:p.length<=sizeLine:=by lia
 refine Qn kind_sorted plain_sorted entry_sorted (args_sorted1 _) ?_;unfold ci.«sorted»;refine aa (m:=checkCount "sorted" 1 1 _)$ ga$ aa (E2 (A:=X.A.in1) (W.kdl_dict (knd:=jj X.prog X.w) (kvs:=p) (ep:=G) hd) (I.ok.hd Z) y L λh' tk d N l c=>?_);have K:d.toList.length=p.length:=by rw[Ib];exact c.1
 have M:ce ((p.map (·.1)).map kV) d.toList:=fQ (by rw[Oa];exact K) λj v k ϊ E=>by
  obtain⟨k',x,hx,B⟩:=c.2 j v (by rw[<-Xd];exact ϊ);rw[Ta,hx]at E;cases E;exact zud B
 rw[ό,i]at M;refine aa$ Ft ?_ (by rw[K];exact L);have f:(h'.push _).get? h'.objs.size=BD (rm "list" d.toList.toArray 0):=Ca _ rfl;refine aa$ cc$ Hc HP ⟨_,f,rfl⟩ NJ (IP f (sS M) ⋯ λh C P R S=>⟨_,rfl,(ga ⟨_,rfl,?_⟩)⟩)$ JP _;have V:C=Op n:=WE (R.trans (bv n).symm) S$ LI n;subst V;obtain⟨e,he⟩:=RZ (out:=h) f;exact⟨ϖ h'.objs.size,_,I.laid (t':=tk) (λb o F=>by
  have lt:b<h'.objs.size:=xa$ N b o F;rw[KP (Aa lt) (by rw[LB];exact Mb lt)];exact da _$ N b o F) l (show uk X.prog X.w _ _ _ (ϰ _)from⟨by rw[Oa,((bv n).length_eq)];exact lb (Od t) ⋯,h.toList,e,UF P,by rw[Li];exact he⟩),rfl,q _$ I.Cc.fresh l⟩
noncomputable def jx:List (wc × D)->Option (gV)
 |[]=>BD []
 |(.inl i,_)::r=>(jx r).map (i::·)
 |_::_=>A5
theorem BU{c:b'}{H:Hp}:∀ {a:List$ wc × D} {us:List$ wc × V} {is:gV},jg T c H a us->jx a=BD is->us.map (·.1)=is.map Sum.inl
 |[],_,is,h,e=>by unfold jg at h;cases h;cases e;rfl
 |(k,d)::a,_,is,h,e=>by
  cases h with
  |cons q h=>
   cases k with
   |inr x=>cases e
   |inl i=>
    unfold jx at e;cases b:jx a with
    |none=>simp_all
    |some f=>
     rw[b]at e;cases e;simp only[Sa];rw[BU h b,<-q.1]
def iE(xs:lv):M D:=λb=>match xs with
 |[x]=>(match ig b x with
  |some a=>(match jx a with
   |some is=>if is.length<64 then xA ((Op is).map U) b else ϕ
   |none=>ϕ)
  |none=>ϕ)
 |_=>ϕ
def Ω:Us T iK iE:=by
 intro E q H n xs o Q r p h
 match xs with
 |[]=>trivial
 |[x]=>
  obtain⟨v,w,rfl,k,f⟩:=p;rw[pb]at f;subst f;unfold iE at h;cases e:ig n x with
  |none=>simp only[e]at h;exact h.elim
  |some d=>
   simp only[e]at h;cases b:jx d with
   |none=>simp[b]at h;exact h.elim
   |some is=>
    simp only[b]at h;by_cases c:is.length<64
    ·rw[ja c]at h;obtain⟨a,m,rfl,g,i⟩:=tw r k e;exact⟨a,m,is,rfl,g,BU i b,c,λl j=>AC h r (xO _) j⟩
    ·rw[pa c]at h;exact h.elim
 |_::_::_=>exact h.elim
def rX(K:ϗ):kv->Hp->VK->Prop:=λxs H Q=>IK K xs H Q\/iK xs H Q
def zgf(d:X.de=E8):To X (ϡ "sorted")$ rX X.K:=by
 intro a s c H xs b Q I r h;rcases h with h|h
 ·exact O4 a s c H xs b Q I r h
 ·exact R7 d a s c H xs b Q I r h
def xx(xs:lv):M D:=λa=>match xs with
 |[x]=>(match jf a x with
  |some _=>cP [x] a
  |none=>iE [x] a)
 |_=>ϕ
def zpt(d:T.K=X.K):Us T (rX X.K) xx:=by
 intro E c H a xs b Q r p h
 match xs with
 |[]=>trivial
 |[x]=>
  unfold xx at h;cases e:jf a x with
  |some f=>simp[e]at h;exact ϐ$ zy9 d E c H a [x] b Q r p h
  |none=>simp[e]at h;exact ϓ$ Ω E c H a [x] b Q r p h
 |_::_::_=>trivial
def x4{pl}(hK:T.K=X.K)(he:FE T X o f)(hC:zr T.K$ T.ca c)(P:Su T.K (T.ca c) m fa)
  (h:bu T X.prog X.w X.mg X.base k fa ps dv t) (hv:ce dvs dv) (S:∀ μ H,pb T μ H dds dvs) (hn:n+dds.length=ps.length) (hr:Md k X.A) (ha:FA T X (e::p) ϋ)
  (Z:wa (e::p) X.env=(J8,Qb e X.env)::wa p X.env:=by rfl) (ϊ:(Dc b$ wa p X.env).any (·.1)=J8:=by rfl)
  (ht:Qb (Ϡ (ϟ o m i) (e::p) [] b) X.env=(do
   let ov <-Qb o X.env
   ai i.atName
   let (f,first) <-Pe [ov] (Ni ov m pl)
   qr b f first (Dc b$ wa (e::p) X.env) (Lh b$ pf [] X.env)):=by rfl) :
  FE T X (Ϡ (ϟ o m i) (e::p) [] b)$ vf [(c,λj=>t$ j++dds)] n m f ϋ:=by
 rintro l s st H Q I ⟨μ,ρ,σ,hE,Y,hp⟩;refine W.methodCall_KW (Bd (he l s st H (λx B=>∃ a G vs,x=ϖ a/\B a=BD (.yb (T.ca c) G vs)/\vs.lookup m=A5/\tL T X ϋ st B λus L=>Ro T ps.length t (x::(us++dvs)) L Q$ XE X st) I ⟨μ,ρ,σ,hE,Y,hp.bind λd F a0 v B D e1 r1 q1 g=>?_⟩) λu s1 ⟨x,B,I1,rx,a,G,vs,ex,ea,C,q⟩=>?_) ht
 ·unfold Kj at g;cases N:Sj F d with
  |none=>rw[N]at g;exact g.elim
  |some z=>
   obtain⟨c',gs⟩:=z;rw[N]at g;dsimp only at g;by_cases R:c=c'
   ·subst R;have ό:Er [(c,λj=>t$ j++dds)] c=BD (λj=>t$ j++dds):=by unfold Er;rw[ja$ QZ c]
    cases C:gs.lookup m with
    |some y=>rw[ό,C]at g;exact g.elim
    |none=>
     rw[ό,C]at g;dsimp only at g;obtain⟨a,G,vs,rfl,h1,h2⟩:=Vz r1 q1 N;refine⟨a,G,vs,rfl,h1,(TC h2).2 C,a0,ρ,F,hE.mono e1,r1,g.bind λj a2 a1 us L D e2 r2 q2 E=>?_⟩;unfold Fi at E;by_cases hl:j.length+1=n
     ·rw[ja hl]at E;exact⟨a1,a2,d::(j++dds),pb.cons (Na.mono e2 _ _ q1)$ pb.append q2$ S _ _,by rw[gb,Nb];lia,r2,E⟩
     ·rw[pa hl]at E;exact E.elim
   ·have ό:Er [(c,λj=>t$ j++dds)] c'=A5:=by unfold Er;rw[pa ⋯];rfl
    rw[ό]at g;exact g.elim
 ·subst ex;obtain rfl:u=Db a:=rx;obtain⟨fd,_,hb,hF⟩:=h;rw[hK]at hC P hF hb;exact HK I1 ea hC P C$ Ϲ I.ok.mod.dz P.kp (Bd (ha b l s1 st B _ I1 q) λus s2 ⟨vs,L,I2,r,q2⟩=>⟨I2.Ki,(nJ (vs:=ϖ a::vs) hF hr hb hv I2 (ϛ rfl r) q2)⟩) Z ϊ
end L4
namespace L2
open Spec
def rH:List (TE × TE)->St->Hp->(List (V × V)->Hp->Prop)->Prop
 |[],_,H,Q=>Q [] H
 |(d,e)::r,σ,H,Q=>d σ H λx a=>e σ a λy b=>rH r σ b λps c=>Q ((x,y)::ps) c
abbrev VV:List (V × V)->List (Value × Value)->Prop:=Paired λp q=>Zc p.1 q.1/\Zc p.2 q.2
def ME(X:Cx)(d:Td)(c:List$ Option Ia)(a:List Ia)(e:List$ TE × TE):Prop:=
 ∀ b s σ H (Q:List (V × V)->Hp->Prop),Xa X b σ H s->rH e σ H Q->
  wpAny (model X.prog X.w) X.A (evalPairs$ pairTrees c a X.env d) (λi h=>∃ g f,Xa X b σ f h/\VV g i/\Q g f) X.xe s
def S2:ME X a [] [] []:=λb s c H Q I h=>pairTrees_nil_walk ⟨[],H,I,Ϟ,h⟩
def ı(n:PE X k e)(p:PE X v f)(o:ME X b ks vs c) :
  ME X b (BD k::ks) (v::vs)$ (e,f)::c:=λa s d H Q I h=>
 pairTrees_cons_walk (Bd (n a s d H _ I h) λu s1 ⟨x,H1,j,w,q⟩=>Bd (p a s1 d H1 _ j q) λA s2 ⟨y,g,l,z,r⟩=>
  Bd (o a s2 d g _ l r) λws s3 ⟨ps,i,m,rel,t⟩=>⟨(x,y)::ps,i,m,ϛ ⟨w,z⟩ rel,t⟩)
def rE(c a:List$ wc × V):List$ wc × V:=a.foldl (λb d=>Sl b d.1 d.2) c
def KV.merge:∀ {b} {d} {a} {c},KV b d->KV a c->KV (rE a b) (merged c d):=by
 intro b d a c r;unfold KV at r;induction r generalizing a c with
 |nil=>intro q;exact q
 |@cons p q g i h t f=>
  intro r0;have e:KV (Sl a p.1 p.2)$ stored c q.1 q.2:=by
   have:=r0.put p.1 h.2;rw[<-h.1];exact this
  exact f e
theorem JQ:∀ (b a:List$ wc × V),(rE a b).length<=a.length+b.length
 |[],a=>by show a.length<=a.length+0;omega
 |p::r,a=>by
  have c:=JQ r$ Sl a p.1 p.2;have d:=vE a p.1 p.2;show (rE (Sl a p.1 p.2) r).length<=_;rw[gb];omega
theorem aQ{P:Ba}{w:Ra}:∀ {d:List$ wc × V} {ws:List$ Value × Value},VV (d.map λf=>(kV f.1,f.2)) ws->∃ e,Carries (jj P w) ws e/\KV d e
 |[],_,r=>by rw[Ce]at r;cases r;exact⟨[],ϯ,Ϟ⟩
 |p::d,_,r=>by
  rw[Sa]at r;cases r with
  |@cons a b as bs h t=>
   obtain⟨e,c,q⟩:=aQ (P:=P) (w:=w) t;obtain⟨i,g⟩:=b;exact⟨(p.1,g)::e,⟨jw h.1,rfl,c⟩,ϛ ⟨rfl,h.2⟩ q⟩
def Y7(b:List$ TE × TE):TE:=λf H Q=>∀ p,H p=A5->rH b f (Sb H p$ Ϛ []) λe c=>c p=BD (Ϛ [])/\∃ a:List (wc × V),e=a.map (λd=>(kV d.1,d.2))/\a.length<=15/\Q (ϖ p) (Sb c p$ Ϛ$ rE [] a)
def Ê(h:ME X k b d l)(g:b.all (·.isSome)=E8)(A:b.length=d.length)(u:b≠[])
  (m:b.length<=15):PE X (.Dict b d k)$ Y7 l:=by
 intro j s L H Q I q;have B:=I.Cc.fresh$ va s.heap.objs.size;have p:=I.laid (a:=s.heap.objs.size) (o:=Ϛ []) (h':=s.heap.push { cls:=Vh "dict",data:=.dict #[] }) (t':=s.toks) (λJ J q=>da _ q) (va _)$ LV s.heap I.kJ;refine wpAny_Dict_walk (knd:=jj X.prog X.w) g A u m (Bd (h j _ L _ _ p$ q _ B) λws s2 ſ=>?_);obtain⟨ps,M,n,rel,e,i,t,lk,F⟩:=ſ;subst t;obtain⟨ό,c,G⟩:=aQ (P:=X.prog) (w:=X.w) rel;obtain⟨z,x,K,r0,r⟩:=kC n.Cc e;cases r0;refine⟨ό,c,r,λh' f D=>⟨ϖ s.heap.objs.size,_,?_,rfl,F⟩⟩;have E:(rE [] i).length<=sizeLine:=by
  have v:=JQ i [];rw[Dd]at v;rw[ky];omega
 have y:∃ q,h'.get? s.heap.objs.size=BD q:=let ⟨q,_,_,C,_⟩:=f;⟨q,C⟩;exact qB n (by rw[e];exact ϯ) D y$ MA E x (G.merge Ϟ) f
end L2
namespace L4
open Spec L2
def fN(n:Nat)(ks:List wc)(b:lv):M D:=λa=>match a[n]? with
 |some (ώ [])=>if ks.length<=15 then J (O n) (a.set n$ ώ$ Sx []$ ks.zip b)else ϕ
 |_=>ϕ
def wI(ks:List wc)(b:Ev->M (lv)):Ev->M D:=λc a=>Kc (b c) (fN a.length ks)$ a++[ώ []]
inductive kz(T:Tb)(X:Cx):List (Option Ia)->List Ia->List wc->(Ev->M (lv))->Prop
 |nil:kz T X [] [] [] zb
 |cons {k v:Ia} {kk:wc} {f:Ev->M D} {ks:List (Option Ia)} {vs:List Ia} {kks:List wc} {fs:Ev->M (lv)} (hk:FE T X k (eC (Ut kk))) (hv:FE T X v f) (r:kz T X ks vs kks fs):kz T X (BD k::ks) (v::vs) (kk::kks) (Qa f fs)
def Ī(h:Na T b H (Ut a) v):v=kV a:=by
 cases a<;>(unfold Ut at h;rw[Na]at h;exact h)
def kz.Ĭ(h:kz T X ks vs a n) :
  ∃ b,ME X q ks vs b/\∀ e H Q i c j,eh T i H c e->Yc T i H j->Pb T (XE X e) (pb T) i H (n c j) (λw x=>Q ((a.map kV).zip w) x)->rH b e H Q:=by
 induction h with
 |nil=>exact⟨[],S2,λe H Q i c j l p o=>by
  have z:=Pb.here o p pb.nil;exact z⟩
 |@cons k v kk f ks vs a n F G r I=>
  obtain⟨b,C,E⟩:=I;refine⟨_,ı F G C,λe H Q i c j l p o=>⟨i,c,j,l,p,λs g Y m P L=>?_⟩⟩;obtain rfl:=Ī L;refine⟨s,c,j,l.mono m,P,(Pb.mono m o).bind λd u t v2 y d A R ό N=>?_⟩;exact E e y _ t c u (l.mono$ m.trans A) R (N.bind λds W ϊ w Z d B S K ϋ=>by
   have z:=Pb.here ϋ S$ pb.cons (Na.mono B _ _ ό) K;exact z)
theorem nR:∀ (ks:List wc) (us:kv),(ks.map kV).zip us=(ks.zip us).map λa=>(kV a.1,a.2)
 |[],_=>by simp
 |_::_,[]=>by simp
 |k::ks,u::us=>by simp[nR ks us]
theorem XU{a:b'}{H:Hp}:∀ {ks:List wc} {ds:lv} {us:kv},pb T a H ds us->jg T a H (ks.zip ds) (ks.zip us)
 |[],_,_,_=>by unfold jg;simp;exact Ϟ
 |k::ks,[],us,h=>by rw[pb]at h;subst h;unfold jg;simp;exact Ϟ
 |k::ks,d::ds,us,h=>by
  obtain⟨v,r,rfl,b,c⟩:=h;have:=XU (ks:=ks) c;exact ϛ ⟨rfl,b⟩ this
def K1(h:kz T X b d f r)(k:b.all (·.isSome)=E8)(S:b.length=d.length)(P:b≠[])(t:b.length<=15) :
  FE T X (.Dict b d x)$ wI f r:=by
 intro l s st H Q I W;obtain⟨a0,v,Y⟩:=h.Ĭ;refine Ê v k S P t l s st H Q I ?_;obtain⟨n,ρ,m,R,F,V⟩:=W;intro p E;have ex:qd n H (n++[p])$ Sb H p$ Ϛ []:=Vu E;have r1:Yc T _ (Sb H p$ Ϛ [])$ m++[ώ []]:=F.push E ⟨[],bf,by unfold jg;exact Ϟ⟩;have u:(n++[p])[m.length]?=BD p:=by rw[<-F.len];simp
 refine Y _ _ _ (n++[p]) ρ (m++[ώ []]) (R.mono ex) r1 ((Pb.mono ex V).bind λK A j y o D L G Z e=>?_);have g:=L.get u;unfold fN at e;cases i:A[m.length]? with
 |none=>simp only[i]at e;exact e.elim
 |some ob=>
  cases ob with
  |qa ys=>simp only[i]at e;exact e.elim
  |yb c r=>simp only[i]at e;exact e.elim
  |Yb _=>simp only[i]at e;exact e.elim
  |ue _=>simp only[i]at e;exact e.elim
  |Ga w=>
   cases w with
   |cons z zs=>simp only[i]at e;exact e.elim
   |nil=>
    simp only[i]at e;by_cases C:f.length<=15
    ·rw[ja C]at e;obtain⟨a,N,ϊ,ws,B,ϋ⟩:=G.at (show Na T j o (O m.length) (ϖ p) by rw[Na];exact⟨p,rfl,g⟩) i;cases N;cases ϋ;refine⟨B,f.zip y,nR f y,by rw[wy];lia,?_⟩;have ό:=G.write (ob:=ώ$ Sx []$ f.zip K) g ⟨_,bf,by
      have q:qd j o j$ Sb o p$ Ϛ$ vv []$ f.zip y:=Aq (za g) B (λD z=>by cases z) (λD D z=>by cases z);exact jR (XU$ Z.mono q) (by unfold jg;exact Ϟ)⟩
     exact e _ _ _ ό.1 ό.2 (by rw[Na];exact⟨p,rfl,g⟩)
    ·rw[pa C]at e;exact e.elim
end L4
namespace L4
open Spec Calls Builtin Builtin.ObjectAttr L2
noncomputable def TY:R2:=λx y H Q=>∃ a b c,x=ϖ a/\y=ϖ b/\Rd H a (Ϛ c)/\Rd H b (Ϛ c)/\(∀ p∈c,∃ i,p.2=Ϣ i)/\Q (Ϫ J8) H
theorem ygd(t:X.A.units+9<cLine):wh X (Jb .NotEq) TY:=by
 rintro d s z H x y v u Q I o p ⟨a,b,w,rfl,rfl,i,j,k,q⟩;obtain rfl:v=Db a:=o;obtain rfl:u=Db b:=p;obtain⟨_,na,r,e,h⟩:=Qr I.Cc i;obtain⟨_,m,g,f,c⟩:=Qr I.Cc j;have l:r.length=g.length:=by rw[<-e.length,f.length]
 obtain⟨_,_,_,_,_,_,_,_,n⟩:=id c;refine W.keq_ne na m h c ⋯ (λB=>rR e f k g$ JY n) ⟨Ϫ J8,H,I,?_,q⟩;rw[l];simp;exact rfl
def lF(x y:D):M D:=λa=>match ig a x with
 |some b=>(match ig a y with
  |some c=>if vx b c=E8 then J (ϒ J8) a else ϕ
  |none=>ϕ)
 |none=>ϕ
def t4:ak T TY lF:=by
 intro E t H f x y v u Q r p q h;unfold lF at h;cases c:ig f x with
 |none=>rw[c]at h;exact h.elim
 |some m=>
  rw[c]at h;cases d:ig f y with
  |none=>rw[d]at h;exact h.elim
  |some n=>
   rw[d]at h;dsimp only at h;by_cases e:vx m n=E8
   ·rw[ja e]at h;obtain⟨a,o,rfl,j,g⟩:=tw r p c;obtain⟨b,s,rfl,k,i⟩:=tw r q d;obtain⟨rfl,l⟩:=bV g i e;exact⟨a,b,o,rfl,rfl,j,k,l,Pb.here h r (by rw[Na])⟩
   ·rw[pa e]at h;exact h.elim
end L4
namespace L4
def Az(xs:Array Nat):Prop:=∀ i k:Nat,∀ a b:Nat,i<k->xs[i]?=BD a->xs[k]?=BD b->a<b
def Cut(xs:Array Nat)(j p:Nat):Prop:=p<=xs.size/\(∀ i a:Nat,i<p->xs[i]?=BD a->a<j)/\∀ i a:Nat,p<=i->xs[i]?=BD a->j<=a
def X5{xs}(p:Az xs) j:∀ c lo b,b - lo<=c->lo<=b->b<=xs.size->(∀ i a:Nat,i<lo->xs[i]?=BD a->a<j)->(∀ i a:Nat,b<=i->xs[i]?=BD a->j<=a)->Cut xs j (jn xs j c lo b):=by
 intro c;induction c with
 |zero=>
  intro lo b t u h k l;have e:lo=b:=by lia
  subst e;exact⟨h,k,l⟩
 |succ f r=>
  intro lo b t u h k l;unfold jn;by_cases o:lo<b
  ·rw[ja o];dsimp only;have q:(lo+b) / 2<xs.size:=by lia
   have g:=Gb q;have s:xs.getD ((lo+b) / 2) j=xs[(lo+b) / 2]:=by simp[q]
   rw[s];by_cases m:xs[(lo+b) / 2]<j
   ·rw[ja m];refine r _ _ ⋯ ⋯ h (λi a n d=>?_) l;by_cases e:i=(lo+b) / 2
    ·subst e;rw[g]at d;cases d;exact m
    ·have:=p i _ a _ ⋯ d g;lia
   ·rw[pa m];refine r _ _ ⋯ ⋯ ⋯ k (λi a n d=>?_);by_cases e:i=(lo+b) / 2
    ·subst e;rw[g]at d;cases d;lia
    ·have:=p _ i _ a ⋯ g d;lia
  ·rw[pa o];have e:lo=b:=by lia
   subst e;exact⟨h,k,l⟩
def EV{xs}(c:Az xs) j:Cut xs j$ Je xs j:=by
 exact X5 c j _ _ _ ⋯ ⋯ (va _) (λi a h=>by lia) (λi a h b=>by
  have:=(Oc.mp b).1;lia)
def Ŷ{xs}(a:Cut xs j p)(b:Cut xs j q):p=q:=by
 rcases Mw p q with h|h|h
 ·have f:=La h b.1;have e:=Gb f;have c:=b.2.1 p _ h e;have d:=a.2.2 p _ (va _) e
  lia
 ·exact h
 ·have g:=La h a.1;have e:=Gb g;have c:=a.2.1 q _ h e;have d:=b.2.2 q _ (va _) e
  lia
def ï{xs:Array Nat}(d:p<=xs.size) i:(rj xs p x)[i]?=if i<p then xs[i]? else if i=p then BD x else xs[i - 1]?:=by
 unfold rj;have s1:(xs.extract 0 p).size=p:=by simp;lia
 rw[Array.getElem?_append,Array.size_push,s1];by_cases a:i<p
 ·rw[ja ⋯,ja a,Yr,pa (by rw[s1];lia),Xp];simp;lia
 ·rw[pa a];by_cases b:i=p
  ·subst b;rw[ja ⋯,ja rfl,Yr,ja (by rw[s1])]
  ·rw[pa ⋯,pa b,Xp];by_cases c:i - 1<xs.size
   ·rw[ja ⋯];congr 1;lia
   ·rw[pa ⋯,Yp ⋯]
def Å{xs}(m:Az xs)(l:Cut xs x p)(t:¬ xs[p]?=BD x):Az$ rj xs p x:=by
 have r:∀ i a:Nat,p<=i->xs[i]?=BD a->x<a:=λi a s c=>by
  have g:=l.2.2 i a s c;rcases Nat.lt_or_ge x a with h|h
  ·exact h
  ·have e:a=x:=by lia
   subst e;by_cases o:i=p
   ·subst o;exact absurd c t
   ·have v:=(Oc.mp c).1;have u:p<xs.size:=by lia
    have q:=Gb u;have:=m p i _ _ ⋯ q c;have:=l.2.2 p _ (va _) q
    lia
 intro i k a b n c d;rw[ï l.1]at c d;by_cases g:i<p
 ·rw[ja g]at c;by_cases j:k<p
  ·rw[ja j]at d;exact m i k a b n c d
  ·rw[pa j]at d;by_cases f:k=p
   ·rw[ja f]at d;cases d;exact l.2.1 i a g c
   ·rw[pa f]at d;exact m i _ a b ⋯ c d
 ·rw[pa g]at c;have j:¬ k<p:=by lia
  rw[pa j,pa ⋯]at d;by_cases f:i=p
  ·rw[ja f]at c;cases c;exact r _ b ⋯ d
  ·rw[pa f]at c;exact m (i - 1) (k - 1) a b ⋯ c d
structure uj(b:Bool)(t:Ud):Prop where
 led:t.led = !b
 PH:Az t.place
 GK:t.dummies=#[]
def yR j:Pw #[] j=J8:=by
 unfold Pw;simp
def ö(h:uj b t) j:t.slot j=.empty/\¬ t.place[Je t.place j]?=BD j\/∃ i,t.slot j=.live i:=by
 unfold SetTable.slot;by_cases e:(t.place[Je t.place j]? == BD j)=E8
 ·rw[ja e];exact ϓ ⟨_,rfl⟩
 ·rw[pa e,h.GK,yR]
  simp_all
def W5(h:uj b t) d l:∀ a p m,p.dummy=A5->ug t d l a p=BD m->(∃ j,m=.empty j A5/\¬ t.place[Je t.place j]?=BD j)\/∃ j i nx,m=.candidate j i nx:=by
 intro a;induction a with
 |zero=>intro p m _ e;unfold ug at e;cases e
 |succ f o=>
  intro p m k e;unfold ug at e;rcases ö h p.j with⟨c,n⟩|⟨i,c⟩
  ·rw[c]at e;dsimp only at e;cases e;rw[k];exact ϐ ⟨_,rfl,n⟩
  ·rw[c]at e;dsimp only at e;by_cases g:(d i == l)=E8
   ·rw[ja g]at e;cases e;exact ϓ ⟨_,_,_,rfl⟩
   ·rw[pa g]at e;refine o _ m ?_ e;unfold SetTable.advance;split<;>exact k
def zg6(h:uj b t)(e:t.freeSlot c=BD (j,f)):¬ t.place[Je t.place j]?=BD j:=by
 unfold SetTable.freeSlot SetTable.probe at e;cases a:ug t _ c _ _ with
 |none=>rw[a]at e;cases e
 |some m=>
  rcases W5 h _ _ _ _ m rfl a with⟨d,rfl,g⟩|⟨d,i,nx,rfl⟩;all_goals simp_all
theorem uj.put(h:uj b t)(a:¬ t.place[Je t.place j]?=BD j):uj b (t.put j).1:=by
 unfold SetTable.put;refine⟨h.led,Å h.PH (EV h.PH j) a,?_⟩;rw[h.GK,yR];rfl
def uj.plain(h:uj b t):uj b { t with plain:=p }:=⟨h.led,h.PH,h.GK⟩
def zi0 n:Az$ Array.range n:=by
 intro i k a c e b d;have l1:=(Oc.mp b).1;have l2:=(Oc.mp d).1
 simp_all
def uj.yr(h:uj b t) n:uj b$ t.standIn n:=⟨h.led,zi0 n,rfl⟩
def uj.or(h:uj b t) n:uj b$ t.orStandIn n:=by
 unfold SetTable.orStandIn;split
 ·exact h
 ·exact h.yr n
def uj.lay(h:uj b t) c a x:uj b (layNew t c a x).2.1:=by
 unfold layNew;cases e:t.freeSlot a with
 |none=>exact h.yr _
 |some q=>
  obtain⟨j,d⟩:=q;dsimp only;exact(h.put$ zg6 h e).or _
def Ť m(f:Nat->Option Nat):Az ((((List.range m).filterMap λj=>(f j).map (j,·)).map (·.1)).toArray):=by
 have p:List.Pairwise (·<·) (((List.range m).filterMap λj=>(f j).map (j,·)).map (·.1)):=by
  have n:List.Pairwise (·<·)$ List.range m:=List.pairwise_lt_range;have e:((List.range m).filterMap λj=>(f j).map (j,·)).map (·.1)=(List.range m).filter λj=>(f j).isSome:=by
   rw[List.map_filterMap];rw[<-List.filterMap_eq_filter];congr 1;funext j;cases o:f j<;>simp[Option.guard,o]
  rw[e];exact n.sublist List.filter_sublist
 intro i k a c b d g;rw[zi]at d g;obtain⟨l1,h⟩:=ba.mp d;obtain⟨l2,l⟩:=ba.mp g;rw[<-h,<-l];exact Bo.mp p i k l1 l2 b
def uj.iG(h:uj b t) d c:uj b (on t d c).2.1:=by
 unfold on;cases e:t.relaid _ c with
 |none=>exact h.yr _
 |some q=>
  obtain⟨g,f⟩:=q;dsimp only;split
  ·unfold SetTable.relaid SetTable.laid at e;cases a:SetTable.layClean _ _ with
   |none=>rw[a]at e;cases e
   |some ow=>
    rw[a]at e;cases e;exact⟨h.led,Ť _ _,rfl⟩
  ·exact h.yr _
def uj.fresh b:uj b$ su 0 0$ !b:=⟨rfl,λi k a c e d e=>by simp[su]at d,rfl⟩
end L4
namespace L4
open Spec
section
variable{prog:Ba}{w:Ra}{K:Type}[DecidableEq K][BEq K][LawfulBEq K]{knd:KeyKind prog w K}{A:Ma}{E:Value->Shared->Prop}{s:Shared}{b:Bool}{a:Addr}{k:K}{x:Value}
def Hq(knd:KeyKind prog w K)(b:Bool)(h:Heap)(a:Addr)(S:K->Bool)(n:Nat):Prop:=
 ∃ o c d t,h.get? a=BD o/\o.ExactSet/\o.data=.set c d t/\cE knd c.toList/\(∀ k,S k=E8 ↔ ∃ e∈c.toList,knd.is k e.2=E8)/\c.size<scanBound/\t.fits c.size=E8/\c.size=n/\uj b t
def DW{h:Heap}(q:h.get? a=BD o)(i:o.ExactSet)(r:o.data=.set p f t)(j:cE knd c.toList)
  (l:∀ k,S' k=E8 ↔ ∃ e∈c.toList,knd.is k e.2=E8) (m:c.size<scanBound) (n:d.fits c.size=E8) (s:uj b d) :
  (h.update a$ Tv c d).get? a=BD { o with data:=.set c (f+1) d }/\Hq knd b (h.update a$ Tv c d) a S' c.size:=by
 obtain⟨g,_⟩:=SetOf_store q i r j l m n;exact⟨g,_,c,f+1,d,g,i,rfl,j,l,m,n,rfl,s⟩
def aX{g:Bool->cn Unit}(M:∀ c s1 n,n () s1->wpAny (model prog w) A (g c) n E s1)
  (u:s.heap.get? a=BD o) (v:o.ExactSet) (x:o.data=.set ό I t) (B:cE knd d.toList) (C:∀ k,j k=E8 ↔ ∃ e∈d.toList,knd.is k e.2=E8) (D:d.size<scanBound) (L:f.fits d.size=E8) (F:uj b f)
  (q:∀ m,Rc a s.heap m->Hq knd b m a j d.size->R (BD E8) { s with heap:=m }) :
  wpAny (model prog w) A (do
    storeSet a d f
    if (!N && f.tooFull)=E8 then do
      g (on f d$ Df d.size).2.2
      storeSet a (on f d$ Df d.size).1 (on f d$ Df d.size).2.1
      pure (BD E8)
     else pure (BD E8)) R E s:=by
 refine aa$ VD u x ?_$ og D;obtain⟨r,T1⟩:=DW u v x B C D L F;have h:=Xb s.heap a$ Tv d f;split
 ·have i:=relayAll_perm f d$ Df d.size;have G:=relayAll_fits f d$ Df d.size;have H:=F.iG d$ Df d.size;generalize on f d _=Z at i G H ⊢;obtain⟨l,P,ϋ⟩:=Z;have z:l.size=d.size:=by rw[<-Ib,i.length_eq,Ib]
  refine aa$ M _ _ _$ aa$ VD r rfl ?_$ og ⋯;obtain⟨_,p⟩:=DW (S':=j) r v rfl (B.perm i) (λk=>(C k).trans ⟨λ⟨e,he,y⟩=>⟨e,i.mem_iff.mpr he,y⟩,λ⟨e,he,y⟩=>⟨e,i.mem_iff.mp he,y⟩⟩) ⋯ G H;rw[z]at p;exact ga$ q _ (h.trans$ Xb _ a _) p
 ·exact ga$ q _ h T1
def D3(M:knd.is k x=E8)(N:x.scannable=E8)(hS:Hq knd b s.heap a S n)(hn:n+1<scanBound)
  (q:∀ d,Rc a s.heap d->Hq knd b d a (λF=>S F || decide (F=k)) (if S k then n else n+1)->Q (!S k) { s with heap:=d }):wpAny (model prog w) A (setAddHashed a x$ knd.hash k) Q E s:=by
 obtain⟨o,f,Y,t,m,ό,r,C,D,T,L,ϊ,V⟩:=hS;refine cc$ aa$ af m r L ?_;dsimp only;rw[byScan_of N T C];refine aa$ aa$ jm$ aa$ wpAny_setScan_of M m r L C ?_;cases W:List.findIdx? (λe=>knd.is k e.2) f.toList with
 |some j=>
  obtain⟨hj,pj,_⟩:=List.findIdx?_eq_some_iff_getElem.mp W;have v:=(D k).mpr ⟨f.toList[j],gg hj,pj⟩;refine ga$ ga ?_;have z:=q s.heap (OJ a s.heap) ⟨o,f,Y,t,m,ό,r,C,λF=>by
   rw[zf,Rb,<-D F];exact⟨λy=>y.elim id λe=>e ▸ v,ϐ⟩,T,L,by rw[v];exact ϊ,V⟩
  rw[v]at z
  simp_all
 |none=>
  have v:S k=J8:=by
   cases y:S k with
   |false=>rfl
   |true=>obtain⟨e,he,p⟩:=(D k).mp y;have:=List.findIdx?_eq_none_iff.mp W e he;rw[p]at this;cases this
  have I:∀ c {s1:Shared} {i:Unit->Shared->Prop},i () s1->wpAny (model prog w) A (match c with|true=>rule "set.scan.the-table-gave-way" | false=>pure ()) i E s1:=λc s1 i y=>by
   cases c
   ·exact ga y
   ·exact jm y
  have u:=layNew_perm t f (knd.hash k) x;have G:=layNew_fits t f (knd.hash k) x;have H:=V.lay f (knd.hash k) x;generalize layNew t f _ x=Z at u G H ⊢;obtain⟨g,t1,wd,gv⟩:=Z;rw[Array.toList_push]at u;have ϋ:=(C.push M N).perm u;have P:=mem_push_iff M D u;have X:g.size=n+1:=by rw[<-Ib,u.length_eq,Nb,Ib,ϊ];rfl
  have R:g.size<scanBound:=by omega
  have l:∀ d,Rc a s.heap d->Hq knd b d a _ g.size->Q E8 { s with heap:=d }:=λd B h=>by
   have:=q d B;rw[v]at this;rw[X]at h;exact this h
  refine aa$ I _ ?_;split
  ·refine aa ?_;rw[hashByValue_scannable 8 N];refine ga$ aX (b:=b) ?_ m ό r ϋ P R ?_ ?_ ?_
   ·exact λc s1 i y=>I c y
   ·split
    ·exact G
    ·exact SetTable.fits_plain_off G
   ·split
    ·exact H
    ·exact H.plain
   ·exact λd B h=>ga$ l d B h
  ·refine aa$ ga ?_;refine aX ?_ m ό r ϋ P R G H ?_
   ·exact λc s1 i y=>I c y
   ·exact λd B h=>ga$ l d B h
end
noncomputable def bT(w:Ra):Bool:=w.params.followText "set-order"
section
variable{prog:Ba}{w:Ra}{A:Ma}
def z9(g:Hq (Pf prog w) b h a S n)(e:∀ k,S k=c k)(f:n=d):Hq (Pf prog w) b h a c d:=by
 obtain rfl:S=c:=funext e
 simp_all
def KN(f:Hq (Pf prog w) b h a S n)(k:∀ o,h.get? a=BD o->c.get? a=BD o):Hq (Pf prog w) b c a S n:=by
 obtain⟨o,e,d,t,g,r⟩:=f;exact⟨o,e,d,t,k o g,r⟩
def ă{St}(W:WalksS prog w A.in1 I u j G n P St) a(x:a ∉ u) f(H:∀ i v,P i v->∃ t,v=Jh (f i) t)(N:n+1<scanBound) :
  ∀ k i s,n - i=k->i<=n->St i s->Hq (Pf prog w) b s.heap a (λy=>(Lf f i).any (·== y)) (Lf f i).length->
   (∀ d,Moved (a::j) G s d->Hq (Pf prog w) b d.heap a (λy=>(Lf f n).any (·== y)) (Lf f n).length->R (.ok$ .ret Fc) d)->codeAny (model prog w) A (.builtin "set.update.loop" ⟨[Db a,Db I],[]⟩) R s:=by
 have r:a ∉ j:=λz=>x$ W.sub _ z;have h:∀ c∈j,c∈a::j:=λc g=>ra _ g;intro k;induction k with
 |zero=>
  intro i s K ό st l q;obtain rfl:i=n:=by lia
  exact Lc Zr$ aa (W.done s _ _ st λd m=>(ga$ q d (m.mono h)$ KN l λo e=>m.heap a _ r e))
 |succ k L=>
  intro i s K ό st l q;have lt:i<n:=by lia
  refine Lc Zr$ aa (W.item i s _ _ lt st λv d E p m=>?_);obtain⟨t,rfl⟩:=H i v E;refine aa$ cc$ cc$ aa$ (Pf prog w).pyHash (intKind_is _ _ _ _) ?_;refine D3 (intKind_is _ _ _ _) rfl (KN l λo e=>m.heap a _ r e) (by have:=MB f i;lia) λh' sb B=>?_;have C:Hq _ b h' a (λy=>(Lf f$ i+1).any (·== y)) (Lf f$ i+1).length:=z9 B (λy=>by rw[SZ,step_any]) (by rw[SZ,step_length]);refine ga ⟨ae F.plain_set_update_loop _,L (i+1) _ ⋯ lt (W.frame _ d _ _ p (zg _) λc g o e=>?_) C λs2 M D=>?_⟩
  ·rw[sb.2 c (λz:c=a=>x (by rw[<-z];exact g))];exact e
  ·refine q s2 (Moved.trans W.gtrans ((m.mono h).then_heap (zg _) λc o g e=>?_) M) D;rw[sb.2 c (λz:c=a=>g (by rw[z];exact ua))];exact e
variable{E:Value->Shared->Prop}{s:Shared}
def zpj x(q:Q (Db s.heap.objs.size) { s with heap:=s.heap.push { cls:=Vh "set",dict:=A5,data:=.set #[] 0 (.fresh 0 0$ !bT w) } }) :
  codeAny (model prog w) A (.call (ϡ "set.__new__") ⟨[Vh "set",x],[]⟩) (wants Q E) s:=by
 refine PJ$ aa$ xy (PySem.F.newCall_set_1 x)$ ga ⟨ae PySem.F.plain_set_new _,Lc PySem.F.entry_set_new ?_⟩;unfold ci.«set.__new__» Ay;have a:=sub_set_self;obtain⟨b,g,d,e,c⟩:=s
 wp_walk
 exact Kg$ ga$ aa$ wpAny_alloc$ ga$ ga q
end
section
variable{prog:Ba}{w:Ra}{A:Ma}{E:Value->Shared->Prop}{s:Shared}
abbrev Bx(w:Ra):Obj:={ cls:=Vh "set",dict:=A5,data:=.set #[] 0 (.fresh 0 0$ !bT w) }
set_option maxHeartbeats 3200000 in
def Ħ{l}{a}{h}{Q}(V:A.handled=A5)(X:s.heap.IsList l a)(W:rh a.toList h)(T:a.size+1<scanBound)
  (q:∀ d t,Hq (Pf prog w) (bT w) d s.heap.objs.size (λy=>(Lf (λi=>h.getD i 0) a.size).any (·== y)) (Lf (λi=>h.getD i 0) a.size).length->
   (∀ b o,b<s.heap.objs.size->s.heap.get? b=BD o->d.get? b=BD o)->Q (Db s.heap.objs.size) { s with heap:=d,toks:=t }) :
  wpAny (model prog w) A (call (Vh "set") [Db l]) Q E s:=by
 obtain⟨c,tl,K⟩:=md.mro;have f1:=md.made;have f2:=md.sub;refine fj$ PJ (show wpAny _ _ (callAny (Vh "set") _) _ _ _ from ga ⟨Code.quiet_builtin _ (by decide +kernel),Lc PySem.F.entry_type_call ?_⟩);rw[Around.under_plain (weight_type_call_type "set" [Db l] []) rfl];have f3:=md.notType;have f4:=md.canCreate;have f5:=PySem.F.typeCall_set_1$ Db l;repeat (any_goals (first|assumption|wp_step))
 refine xf (zpj (Db l) (E:=E) (Q:=λob s1=>ob=Db s.heap.objs.size/\s1={ s with heap:=s.heap.push (Bx w) }) ⟨rfl,rfl⟩) λr s1 C=>?_;cases r with
 |error e=>exact C
 |ok ϋ=>
  cases ϋ with
  |ret ob=>
   obtain⟨rfl,rfl⟩:=C;have I:(s.heap.push$ Bx w).get? s.heap.objs.size=BD (Bx w):=Ca _ rfl;have tS:Yn { s with heap:=s.heap.push (Bx w) } (Db s.heap.objs.size) "set":=⟨_,I,rfl⟩
   have i1:=md.init.lookup;have i2:=md.init.bind$ Db s.heap.objs.size;repeat (any_goals (first|assumption|wp_step))
   refine xf (ek (R:=wants (λr s2=>r=Fc/\∃ d t,s2={ s with heap:=d,toks:=t }/\Hq (Pf prog w) (bT w) d s.heap.objs.size (λy=>(Lf (λi=>h.getD i 0) a.size).any (·== y)) (Lf (λi=>h.getD i 0) a.size).length/\
     (∀ b o,b<s.heap.objs.size->s.heap.get? b=BD o->d.get? b=BD o)) E) md.init.plain PySem.F.entry_set_init$ check_set_init_1 tS ?_) λr2 s2 g=>?_
   ·obtain⟨⟨oc,od,a0,G⟩,ό,j,M,m⟩:=X;simp only at j m;subst j;subst m;have x:(s.heap.push$ Bx w).get? l=BD { cls:=Vh "list",dict:=od,data:=Ϩ a M,slots:=G }:=da _ ό;have g1:=PySem.F.sub_list_set;have g2:=PySem.F.sub_list_frozenset;have g3:(Vh "list" == Vh "dict")=J8:=by decide
    have n:(s.heap.push$ Bx w).IsList l a:=⟨_,x,rfl,M,rfl⟩
    unfold ci.«set.__init__» noKeywords By;generalize z:pyIter=PI
    wp_walk
    subst z;refine Zh n$ aa$ dr ?_;have L:l<s.heap.objs.size:=xa ό;have S:A.in1.in1.in1.handled=A5:=by simp[V]
    have Z:l≠(s.heap.push$ Bx w).objs.size:=by rw[Qc];exact Aa$ Mb L
    have nf:s.heap.objs.size ∉ [(s.heap.push$ Bx w).objs.size,l]:=by
     rw[Qc];simp only[Da,Ze,bp,not_or];exact⟨Aa$ Lb _,Pd L⟩
    refine ă (b:=bT w) ((Ij S _ l Z a).toS) s.heap.objs.size nf (λi=>h.getD i 0) (λi v Y=>IntsAre.int_at W i v (by rw[Xd];exact Y)) T (a.size - 0) 0 _ ⋯ (xh _) ⟨⟨_,Ca _ rfl,rfl,rfl⟩,(n.push _)⟩ ?S0 ?RR;case S0=>
     exact⟨Bx w,#[],0,_,da _ I,⟨rfl,rfl,rfl⟩,rfl,λe ϊ=>by simp at ϊ,λk=>by simp[TZ],by decide,by rfl,by simp[TZ],uj.fresh _⟩
    case RR=>
     intro s' p f;obtain⟨d,P,N,H,D⟩:=s';obtain rfl:P=s.gens:=p.gens;obtain rfl:N=s.drawn:=p.drawn;obtain rfl:D=s.os:=p.os;refine ga$ ga ⟨rfl,d,H,rfl,f,λb o lt e=>?_⟩;refine p.heap b o ?_$ da _$ da _ e;rw[Qc];simp only[Da,Ze,bp,not_or];exact⟨Aa lt,Aa$ Mb lt⟩
   ·cases r2 with
    |error e=>exact g
    |ok u=>
     cases u with
     |ret r=>
      obtain⟨rfl,d,t,rfl,f,B⟩:=g;repeat (any_goals (first|assumption|wp_step))
      exact q _ _ f B
     |_=>exact g
  |_=>exact C
end
def Ju:VP "set_iterator" "__next__" "set_iterator.__next__":=.of (owner:="set_iterator") (n:="__next__") (by rw[QJ,Nw];kernel_rfl) (by decide +kernel) (by decide +kernel) (by decide +kernel) (ϐ$ by decide +kernel) (by rw[ir];kernel_rfl)
def gH:YP table "set_iterator.__next__" = BD ci.«set_iterator.__next__»:=entryFor_of_tree (by kernel_rfl)
def LH a:ur "set_iterator.__next__" ⟨[a],[]⟩:=by unfold ur;kernel_rfl
def Î:YP table "set.__iter__" = BD ci.«frozenset.__iter__»:=MP (id':="frozenset.__iter__") (by kernel_rfl) (by first|rfl|decide +kernel) (by decide +kernel) (by kernel_rfl)
def Mp(h:Heap)(a:Addr)(c:Array$ Int × Value)(b:Nat)(t:Ud):Prop:=∃ o,h.get? a=BD o/\o.ExactSet/\o.data=.set c b t
def iq(h:Heap)(I a:Addr)(first:Value)(i n b:Nat):Prop:=∃ o,h.get? I=BD o/\o.cls=Vh "set_iterator"/\o.data=ϩ #[first,Bc i,Db a,Bc n,Bc b]
section
variable{prog:Ba}{w:Ra}{A:Ma}{E:Value->Shared->Prop}{s:Shared}{I a:Addr}{es:Array$ Int × Value}{ep:Nat}{t:Ud}{i:Nat}
def iq.ty(h:iq s.heap I a first i n ep):s.TypeIs (Db I) "set_iterator":=let ⟨o,b,c,_⟩:=h;⟨o,b,c⟩
def Φ{f:Nat}(g:iq s.heap I a (Bc f) i es.size ep)(m:Mp s.heap a es ep t)(p:t.fits es.size=E8)(u:a≠I)
  (r:∀ A E (Q:Option (Value × Nat)->Shared->Prop),Q (BD (v,b)) s->wpAny (model prog w) A (Uv a f i ep) Q E s)
  (q:∀ e,iq e I a (Bc b) (i+1) es.size ep->Rc I s.heap e->Q (BD v) { s with heap:=e }):wpAny (model prog w) A (pyNext$ Db I) Q E s:=by
 obtain⟨o,h,n,c⟩:=id g;obtain⟨x,l,y,k⟩:=id m;refine aa$ Nl$ Jd g.ty Ju$ Hc Ju g.ty gH ?_$ LH _;refine aa$ ga$ aa$ fk h c$ aa$ Jf l k p ?_;rw[pa ⋯];refine aa$ r _ _ _$ aa$ qg h c ⋯ ?_;have j:=Ic (bq (·.setIfInBounds 0$ Jh b 0)) h$ Me$ kc c _;have d:=kc c (·.setIfInBounds 0$ Jh b 0);refine aa$ qg j d ⋯$ ga ⟨_,rfl,ga$ q _ ⟨_,(Ic _ j$ Me$ kc d _),?_,?_⟩$ (Xb ..).trans$ Xb ..⟩
 ·rw[ul,ul];exact n
 ·rw[kc d];simp[Bc]
def FQ{Q}{first:Value}{n:Nat}{f}(g:A.handled=A5)(sb:Rc I s.heap f)(q:∀ d,sm I s.heap d->Q A5 { s with heap:=d }) :
  wpAny (model prog w) A.in1 (do let e <-newExc (Vh "StopIteration") [];raiseNew e:cn PySem.Fin) (λa b=>∃ v,a=Fin.done (Flow.ret v)/\wpAny (model prog w) A (pure$ BD v) Q E b)
   (λe b=>wpAny (model prog w) A (do let c <-RB e (Vh "StopIteration");if c=E8 then pure A5 else throw e) Q E b) { s with heap:=f }:=by
 refine aa$ aa$ ic (aa$ xy (by rfl)$ ic (aa$ wpAny_handled ?_)$ by size_fits) (by size_fits);rw[g];refine aa$ ga$ wpAny_throw ?_;refine aa$ zo ⟨_,Ca _ rfl,rfl⟩ isSubtype_stop ?_;exact ga$ q _$ (sb.extBut.push _).push _
def zkx{f:Nat}(l:A.handled=A5)(b:iq s.heap I a (Bc f) i es.size ep)(j:Mp s.heap a es ep t)(k:t.fits es.size=E8)
  (m:∀ A E Q,Q A5 s->wpAny (model prog w) A (Uv a f i ep) Q E s)
  (q:∀ c,sm I s.heap c->Q A5 { s with heap:=c }):wpAny (model prog w) A (pyNext$ Db I) Q E s:=by
 obtain⟨o,e,p,d⟩:=id b;obtain⟨r,h,u,g⟩:=id j;refine aa$ Nl$ Jd b.ty Ju$ Hc Ju b.ty gH ?_$ LH _;refine aa$ ga$ aa$ fk e d$ aa$ Jf h g k ?_;rw[pa ⋯];exact aa$ m _ _ _$ aa$ qg e d ⋯$ FQ (first:=Fc) (n:=0) l (Xb ..) q
end
theorem aL{a:Type}:∀ (l:List a) (i:Nat) (h:i<l.length),(l[i]::l.eraseIdx i).Perm l
 |x::l,0,_=>.refl _
 |x::l,i+1,h=>by
  have:=aL l i ⋯;exact(List.Perm.swap _ _ _).trans$ this.cons x
theorem iU{d:Type}(nx:Nat->Nat):∀ (a k:Nat) (left:List d) (out:Array d),left.length=a->∃ b:List d,(vn nx a k left out).toList=out.toList++b/\b.Perm left
 |0,k,left,out,h=>by
  obtain rfl:=Zp.mp h;exact⟨[],by unfold vn;simp,.refl _⟩
 |a+1,k,left,out,h=>by
  have c:nx k % left.length<left.length:=OP _ ⋯;unfold vn;rw[Bb c];obtain⟨b,e,p⟩:=iU nx a (k+1) _ (out.push left[nx k % left.length]) (by rw[Tn c];lia);exact⟨left[nx k % left.length]::b,by rw[e];simp,((p.cons _).trans$ aL left _ c)⟩
def hV nx(xs:Array a):(Ho nx xs).toList.Perm xs.toList:=by
 obtain⟨b,e,p⟩:=iU nx xs.size 0 xs.toList #[] ⋯;unfold Ho
 simp_all
noncomputable def fB(pl:Array Nat)(i:Nat):Nat:=if i=0 then 0 else pl.getD (i - 1) 0+1
def Ģ{pl}(d:Az pl)(k:i<=pl.size):Je pl (fB pl i)=i:=by
 refine Ŷ (EV d _) ⟨k,λj a l b=>?_,λj a l b=>?_⟩
 ·unfold fB;rw[pa ⋯];have c:i - 1<pl.size:=by lia
  have f:=Gb c;have h:pl.getD (i - 1) 0=pl[i - 1]:=by simp[c]
  by_cases e:j=i - 1
  ·subst e;rw[f]at b;cases b;lia
  ·have:=d j _ a _ ⋯ b f;lia
 ·unfold fB;by_cases g:i=0
  ·rw[ja g];lia
  ·rw[pa g];have c:i - 1<pl.size:=by lia
   have h:pl.getD (i - 1) 0=pl[i - 1]:=by simp[c]
   have:=d _ j _ a ⋯ (Gb c) b;lia
section
variable{prog:Ba}{w:Ra}{A:Ma}{E:Value->Shared->Prop}{s:Shared}{a:Addr}{es:Array$ Int × Value}{ep:Nat}{t:Ud}{i:Nat}
def aJ(q:Q (bT w) s):wpAny (model prog w) A setsByText Q E s:=by
 exact aa$ Kg$ ga q
def t7(b:bT w=E8)(f:Mp s.heap a es ep t)(c:t.fits es.size=E8)(q:Q (((Ho (w.params.setOrder a ep) es)[i]?).map λe=>(e.2,0)) s):wpAny (model prog w) A (Uv a 0 i ep) Q E s:=by
 obtain⟨o,g,x,d⟩:=f;refine aa$ af g d c$ aa$ aJ ?_;rw[b];simp;refine aa$ aa$ af g d c$ aa$ aJ ?_;rw[b];exact aa$ Kg$ ga$ ga q
def yn8(j:bT w=J8)(h:uj (bT w) t)(u:(!t.plain && decide (es.size > 1))=J8)(r:i<=es.size)(p:Mp s.heap a es ep t)(c:t.fits es.size=E8)(q:Q ((es[i]?).map λe=>(e.2,fB t.place (i+1))) s):wpAny (model prog w) A (Uv a (fB t.place i) i ep) Q E s:=by
 obtain⟨o,g,x,d⟩:=p;have l:t.place.size=es.size:=by simp[SetTable.fits,Fa]at c;exact c.1
 refine aa$ af g d c$ aa$ aJ ?_;rw[j];simp;refine Of (λz=>?_) (λv=>?_)
 ·have:(!t.plain && decide (es.size > 1))=E8:=z;rw[u]at this;cases this
 ·refine aa ?_;refine Of (λz=>?_) (λv=>ga ?_)
  ·have:=z;rw[h.led,j]at this;cases this
  ·rw[Ģ h.PH (by rw[l];exact r)];refine ga ?_;by_cases k:i<es.size
   ·have f:es[i]?=BD es[i]:=Gb k;have b:i<t.place.size:=by rw[l];exact k
    have m:t.place[i]?=BD t.place[i]:=Gb b;rw[f]at q ⊢;rw[m];have n:fB t.place (i+1)=t.place[i]+1:=by unfold fB;simp[b]
    rwa [n]at q
   ·have f:es[i]?=A5:=Yp ⋯
    simp_all
end
section
variable{prog:Ba}{w:Ra}{A:Ma}{E:Value->Shared->Prop}{s:Shared}{I a p:Addr}{es:Array$ Int × Value}{ep:Nat}{t:Ud}{i:Nat}
def Α{M}{a}(b:n≠0)(q:∀ i,i<n->∀ c,Q i { s with drawn:=c }):wpAny M A (choose a n) Q E s:=λd ps d=>⟨b,q _ (OP _$ Nat.pos_of_ne_zero b) _⟩
theorem YS{M:Mi}{d:Type}:∀ (n:Nat) (xs:List d) (s:Shared) (Q:List d->Shared->Prop),xs.length=n->(∀ b c,b.Perm xs->Q b { s with drawn:=c })->wpAny M A (drawOrder n xs) Q E s
 |0,xs,s,Q,h,q=>by
  obtain rfl:=Zp.mp h;exact ga$ q [] s.drawn$ .refl _
 |n+1,[],s,Q,h,q=>by cases h
 |n+1,x::xs,s,Q,h,q=>by
  refine aa (Α ⋯ λi a c=>?_);rw[Bb a];exact aa (YS n _ _ _ (by rw[Tn a];simpa using h) λb e p=>ga$ q _ e$ (p.cons _).trans$ aL _ i a)
def pB(h:Heap)(p:Addr)(ps:h8):Prop:=∃ o n,h.get? p=BD o/\o.data=Ϩ (ps.map λ(i:Nat)=>Bc i).toArray n
def Ì(d:iq s.heap I a (Db p) i es.size ep)(m:Mp s.heap a es ep t)(k:t.fits es.size=E8)(n:pB s.heap p ps)(u:ps[i]?=BD j)(x:es[j]?=BD v)
  (q:∀ c,iq c I a (Db p) (i+1) es.size ep->Rc I s.heap c->Q (BD v.2) { s with heap:=c }):wpAny (model prog w) A (pyNext$ Db I) Q E s:=by
 obtain⟨o,f,r,b⟩:=id d;obtain⟨z,h,C,g⟩:=id m;obtain⟨B,y,l,dT⟩:=n;refine aa$ Nl$ Jd d.ty Ju$ Hc Ju d.ty gH ?_$ LH _;refine aa$ ga$ aa$ fk f b$ aa$ Jf h g k ?_;rw[pa ⋯];refine aa$ ng l dT ?_;dsimp only;have e:(ps.map λ(i:Nat)=>Bc i).toArray[(i:Int).toNat]?=BD (Jh j 0):=by
  rw[Int.toNat_natCast,zi,Ta,u];rfl
 rw[e];simp;refine aa$ aa$ af h g k ?_;dsimp only;rw[pa ⋯];rw[x];refine ga$ aa$ qg f b ⋯$ ga ⟨_,rfl,ga$ q _ ⟨_,(Ic _ f$ Me$ kc b _),?_,?_⟩$ Xb ..⟩
 ·rw[ul];exact r
 ·rw[kc b];simp
def S5(r:A.handled=A5)(c:iq s.heap I a (Db p) i es.size ep)(k:Mp s.heap a es ep t)(m:t.fits es.size=E8)(l:pB s.heap p ps)(v:ps[i]?=A5)
  (q:∀ f,sm I s.heap f->Q A5 { s with heap:=f }):wpAny (model prog w) A (pyNext$ Db I) Q E s:=by
 obtain⟨o,d,u,b⟩:=id c;obtain⟨y,h,B,g⟩:=id k;obtain⟨z,x,j,dT⟩:=l;refine aa$ Nl$ Jd c.ty Ju$ Hc Ju c.ty gH ?_$ LH _;refine aa$ ga$ aa$ fk d b$ aa$ Jf h g m ?_;rw[pa ⋯];refine aa$ ng j dT ?_;dsimp only;have e:(ps.map λ(i:Nat)=>Bc i).toArray[(i:Int).toNat]?=A5:=by
  simp_all
 rw[e];refine aa (qg d b ⋯ (aa (qg (Ic _ d$ Me$ kc b _) (kc b (·.setIfInBounds 0 _)) ⋯ ?_)));exact FQ (s:=s) (first:=Fc) (n:=0) r ((Xb ..).trans$ Xb ..) q
noncomputable abbrev AA(a:Addr)(first:Value)(n ep:Nat):Obj:={ cls:=Vh "set_iterator",data:=ϩ #[first,Bc 0,Db a,Bc n,Bc ep] }
noncomputable abbrev bL(ps:h8):Obj:={ cls:=Vh "tuple",data:=Ϩ (ps.map λ(i:Nat)=>Bc i).toArray }
def D9(l:Mp s.heap a es ep t)(c:t.fits es.size=E8)(n:es.size<scanBound)
  (j:(!bT w && (!t.plain && decide (es.size > 1)))=J8->Q (Db s.heap.objs.size) { s with heap:=s.heap.push (AA a (Bc 0) es.size ep) })
  (k:(!bT w && (!t.plain && decide (es.size > 1)))=E8->∀ b e,b.Perm (List.range es.size)->Q (Db$ s.heap.objs.size+1) { s with heap:=(s.heap.push$ bL b).push (AA a (Db s.heap.objs.size) es.size ep),drawn:=e }) :
  wpAny (model prog w) A (pyIter$ Db a) Q E s:=by
 obtain⟨o,g,x,d⟩:=id l;have h:s.TypeIs (Db a) "set":=⟨o,g,x.1⟩
 refine XD h cp$ Hc cp h Î (aa$ ga$ aa$ aa$ Jf g d c$ ga$ aa$ aa$ af g d c$ aa$ aJ$ ga$ Of (λz=>?_)$ λz=>?_)$ PySem.F.args_set_iter_1 _
 ·have f:=z;refine aa (YS _ _ _ _ ⋯ λb e i=>?_);have m:b.length=es.size:=by rw[i.length_eq,oh]
  refine aa$ wpAny_newTuple (aa$ YD (da _ g) d c ?_) (by rw[Oa,m];exact og n);refine aa$ ic (ga ⟨_,rfl, "set_iterator",_,⟨_,Ca _ rfl,rfl⟩,Ju.lookup,?_⟩) (by size_fits);have:=k f b e i;rw[<-Qc s.heap _]at this;omega
 ·have f:(!bT w && (!t.plain && decide (es.size > 1)))=J8:=by
   cases y:(!bT w && (!t.plain && decide (es.size > 1)))with
   |false=>rfl
   |true=>exact absurd y z
  refine aa$ ga$ aa$ YD g d c$ aa$ ic (ga ⟨_,rfl, "set_iterator",_,⟨_,Ca _ rfl,rfl⟩,Ju.lookup,?_⟩) (by size_fits);exact j f
end
def PY:VP "set_iterator" "__iter__" "set_iterator.__iter__":=.of (owner:="set_iterator") (n:="__iter__") (by rw[QJ,Nw];kernel_rfl) (by decide +kernel) (by decide +kernel) (by decide +kernel) (by first|exact ϐ (by decide +kernel)|exact .inr _) (by rw[ir];kernel_rfl)
def θ:YP table "set_iterator.__iter__" = BD ci.«dict_keyiterator.__iter__»:=MP (id':="dict_keyiterator.__iter__") (by kernel_rfl) (by first|rfl|decide +kernel) (by decide +kernel) (by kernel_rfl)
def S3 a:ur "set_iterator.__iter__" ⟨[a],[]⟩:=by unfold ur;kernel_rfl
section
variable{prog:Ba}{w:Ra}{A:Ma}{I a p:Addr}{es:Array$ Int × Value}{ep:Nat}{t:Ud}
def LX(h:iq s.heap I a first i n ep)(q:Q (Db I) s):wpAny (model prog w) A (pyIter$ Db I) Q E s:=by
 exact XD h.ty PY$ Hc PY h.ty θ (ga ⟨_,rfl, "set_iterator",_,h.ty,Ju.lookup,q⟩)$ S3 _
def iq.keep(x:iq h I a first i n ep)(k:∀ o,h.get? I=BD o->b.get? I=BD o):iq b I a first i n ep:=let ⟨o,e,r⟩:=x;⟨o,k o e,r⟩
def Mp.keep(x:Mp h a es ep t)(k:∀ o,h.get? a=BD o->b.get? a=BD o):Mp b a es ep t:=let ⟨o,e,r⟩:=x;⟨o,k o e,r⟩
def pB.keep{h a}(x:pB h p ps)(k:∀ o,h.get? p=BD o->a.get? p=BD o):pB a p ps:=let ⟨o,n,e,r⟩:=x;⟨o,n,k o e,r⟩
def BW{f:Nat->Nat}{ord:List$ Int × Value}(D:A.handled=A5)(p:t.fits es.size=E8)(g:a≠I)(F:ord.length=es.size)
  (u:∀ (s:Shared) (i:Nat),Mp s.heap a es ep t->i<=es.size->∀ (A:Ma) (E:Value->Shared->Prop) (Q:Option (Value × Nat)->Shared->Prop),Q ((ord[i]?).map λe=>(e.2,f (i+1))) s->wpAny (model prog w) A (Uv a (f i) i ep) Q E s) :
  Walks prog w A I [I,a] [I] es.size (λi v=>(ord[i]?).map (·.2)=BD v) (λi h=>iq h I a (Bc$ f i) i es.size ep/\Mp h a es ep t) where
 sub:=λb c=>by simp at c;simp[c]
 frame:=λG G G st r=>⟨st.1.keep λo e=>r I ⋯ o e,st.2.keep λo e=>r a ⋯ o e⟩
 item:=λi s Q E q st d=>by
  have n:i<ord.length:=by rw[F];exact q
  have y:=Bb n;exact Φ st.1 st.2 p g (λj k l x=>u s i st.2 (Od q) j k l (by rw[y];exact x)) λm B sb=>(d _ m s.toks ⋯ ⟨B,st.2.keep λo e=>by rw[sb.2 a g];exact e⟩ λb o c e=>by rw[sb.2 b (λz=>c (by simp[z]))];exact e)
 done:=λs Q E st d=>by
  exact zkx D st.1 st.2 p (λj k l x=>u s es.size st.2 (va _) j k l ⋯) λm C=>d m s.toks λb o c e=>C b o (λz=>c (by simp[z])) e
 self:=λG G G G st d=>LX st.1 d
def é{ps:h8}(C:A.handled=A5)(x:t.fits es.size=E8)(n:a≠I)(r:p≠I)(q:ps.Perm$ List.range es.size) :
  Walks prog w A I [I,a,p] [I] es.size (λi v=>((ps[i]?).bind λj=>es[j]?).map (·.2)=BD v) (λi h=>(iq h I a (Db p) i es.size ep/\Mp h a es ep t)/\pB h p ps) where
 sub:=λb c=>by simp at c;simp[c]
 frame:=λF F F st l=>⟨⟨st.1.1.keep λo e=>l I ⋯ o e,st.1.2.keep λo e=>l a ⋯ o e⟩,st.2.keep λo e=>l p ⋯ o e⟩
 item:=λi s Q E D st d=>by
  have m:ps.length=es.size:=by rw[q.length_eq,oh]
  have f:i<ps.length:=by rw[m];exact D
  have g:=Bb f;have u:=Gb$ Wi.mp$ q.mem_iff.mp$ gg f;exact Ì st.1.1 st.1.2 x st.2 g u λk y sb=>(d _ k s.toks (by rw[g,Gk,u];rfl) ⟨⟨y,st.1.2.keep λo e=>by rw[sb.2 a n];exact e⟩,st.2.keep λo e=>by rw[sb.2 p r];exact e⟩ λb o c e=>by rw[sb.2 b (λz=>c (by simp[z]))];exact e)
 done:=λs Q E st d=>by
  have m:ps.length=es.size:=by rw[q.length_eq,oh]
  have g:ps[es.size]?=A5:=by rw[<-m];simp
  exact S5 C st.1.1 st.1.2 x st.2 g λk B=>d k s.toks λb o c e=>B b o (λz=>c (by simp[z])) e
 self:=λF F F F st d=>LX st.1.1 d
def Ę(d:s.TypeIs (Db a) "set")(h:Q J8 s):wpAny (model prog w) A (Jj$ Db a) Q E s:=by
 refine aa$ Xg d PySem.F.slot_set_len.lookup ?_;generalize e:("set.__len__")=f;subst e;exact aa$ zo (b:=E8) d (by rw[ir];kernel_rfl)$ Of (λc=>absurd c ⋯) (λg=>(Of (λg=>(aa$ ej d$ ga h))$ λc=>absurd (by decide +kernel) c))
end
end L4
namespace L4
open Spec Calls W PyProof.V
section
variable{prog:Ba}{w:Ra}{A:Ma}{E:Value->Shared->Prop}{s:Shared}{a:Addr}{es:Array$ Int × Value}{ep:Nat}{t:Ud}
def kP{D}{St}(W:Walks prog w A.in1 I y [I] n P St)(M:n<=sizeLine)(k:S ∉ y)(ό:s.TypeIs (Db a) "set")(st:St 0 s.heap)
  (u:s.heap.get? S=BD { cls:=Vh "list",data:=Ϩ #[] c0 })
  (H:∀ h' q g c,(∀ b o,b≠S->b≠I->s.heap.get? b=BD o->h'.get? b=BD o)->h'.get? S=BD { cls:=Vh "list",dict:=A5,data:=Ϩ g c,slots:=#[] }->gn P g n->R (.ok$ .ret d) { s with heap:=h',toks:=q }) :
  wpAny (model prog w) A.in1 (do
    let p <-Pe [Db I] (Jj$ Db a)
    if (p || D)=E8 then do
     rule "list.extend.makes-room"
     WJ (Db S)
     again (.builtin "list.extend.loop" ⟨[Db S,Db I,d],[]⟩)
    else again (.builtin "list.extend.loop" ⟨[Db S,Db I,d],[]⟩))
   (λt j=>match t with | .done f=>R (.ok f) j | .again x=>x.quiet=E8/\codeAny (model prog w) A x R j) (λe j=>R (.error e) j) s:=by
 have l:∀ h r q,St 0 h->(∀ b o,b≠S->s.heap.get? b=BD o->h.get? b=BD o)->h.get? S=BD { cls:=Vh "list",data:=Ϩ #[] r }->codeAny (model prog w) A (.builtin "list.extend.loop" ⟨[Db S,Db I,d],[]⟩) R { s with heap:=h,toks:=q }:=by
  intro h r q v L E;refine codeAny_extend_loopS W.toS M S k d n 0 _ #[] r rfl (xh _) v E (ItemsOf.nil _) λj g c C g' K=>?_;rw[Moved.eq_with C];refine H j.heap j.toks g c (λb o i G e=>C.heap b o (λz=>?_)$ L b o i e) g' K;rcases Da.mp z with z|z
  ·exact i z
  ·exact G$ Wa.mp z
 refine aa$ cc$ Ę ό$ Of (λF=>(aa$ jm$ aa ?_)) (λF=>ga ⟨ae Em _,l _ c0 _ st (λb o F e=>e) u⟩);refine aa$ ah u rfl ?_;have B:=Ic (Ge (·.push Fc)) u rfl;refine ah B rfl ?_;have m:∀ b o,b≠S->s.heap.get? b=BD o->((s.heap.update S (Ge (·.push Fc))).update S (Ge (·.pop))).get? b=BD o:=λb o i e=>(De _ _$ Gd i).trans$ (De _ _$ Gd i).trans e;exact ga ⟨ae Em _,l _ _ _ (W.frame 0 _ _ st λb i o e=>m b o (λz=>k$ z ▸ i) e) (λb o i e=>m b o i e) (Ic (Ge (·.pop)) B rfl)⟩
theorem NO{a b:Type}{f:a->Option b}{g:a->b}:∀ {l:List a},(∀ j∈l,f j=BD (g j))->l.filterMap f=l.map g
 |[],_=>rfl
 |x::l,h=>by rw[ff,h x ua,Sa,NO λj c=>h j$ ra _ c]
def Ţ{a}{b:List$ Int × Value}(c:b.length=n)(h:gn (λi v=>(b[i]?).map (·.2)=BD v) a n):a.toList=b.map (·.2):=by
 apply Nf;intro i;rw[Xd,Ta];cases e:a[i]? with
 |none=>
  have:n<=i:=by have:=Vm.mp e;rw[h.1]at this;exact this
  simp_all
 |some v=>exact(h.2 i v e).symm
def Ý(es:Array$ Int × Value):(List.range es.size).filterMap (λj=>(es[j]?).map (·.2))=es.toList.map (·.2):=by
 apply Nf;intro i;have e:(List.range es.size).filterMap (λj=>(es[j]?).map (·.2))=(List.range es.size).map (λj=>((es[j]?).map (·.2)).getD Fc):=by
  refine NO λj b=>?_
  simp_all
 rw[e,Ta,Ta];by_cases a:i<es.size<;>simp[a]
def zdr{a}{ps:h8}(b:ps.Perm$ List.range es.size)(h:gn (λi v=>((ps[i]?).bind λj=>es[j]?).map (·.2)=BD v) a es.size):a.toList.Perm (es.toList.map (·.2)):=by
 have k:ps.length=es.size:=by rw[b.length_eq,oh]
 have e:a.toList=ps.filterMap (λj=>(es[j]?).map (·.2)):=by
  have d:ps.filterMap (λj=>(es[j]?).map (·.2))=ps.map (λj=>((es[j]?).map (·.2)).getD Fc):=by
   refine NO λj g=>?_;have:=Wi.mp$ b.mem_iff.mp g
   simp_all
  rw[d];apply Nf;intro i;rw[Xd,Ta];cases c:a[i]? with
  |none=>
   have:es.size<=i:=by have:=Vm.mp c;rw[h.1]at this;exact this
   simp_all
  |some v=>
   have this:((ps[i]?).bind λj=>es[j]?).map (·.2)=BD v:=h.2 i v c;cases f:ps[i]? with
   |none=>simp_all
   |some j=>rw[f]at this;simp only[Gk]at this;rw[Option.map_some,this];rfl
 rw[e,<-Ý];exact b.filterMap _
def Υ(hh:A.handled=A5)(hA:Mp s.heap a es ep t)(K:t.fits es.size=E8)(hk:uj (bT w) t)(hz:es.size<scanBound)
  (G:∀ h m r (d:Array Value),(∀ b o,s.heap.get? b=BD o->h.get? b=BD o)->s.heap.objs.size<=h.objs.size->d.toList.Perm (es.toList.map (·.2))->R d.toList { s with heap:=h,toks:=m,drawn:=r }) :
  wpAny (model prog w) A (collect$ Db a) R E s:=by
 have hn:es.size<=sizeLine:=og hz;have Q:a<s.heap.objs.size:=let ⟨_,g,_⟩:=hA;xa g;let S:Addr:=s.heap.objs.size;let Z:Do->Shared->Prop:=λq u=>∃ (h:Heap) (m:Nat) (r:jp) (d:Array Value) (c:Nat),q=.ok (.ret$ Db S)/\u={ s with heap:=h,toks:=m,drawn:=r }/\(∀ b o,s.heap.get? b=BD o->h.get? b=BD o)/\
  h.get? S=BD { cls:=Vh "list",dict:=A5,data:=Ϩ d c,slots:=#[] }/\d.toList.Perm (es.toList.map (·.2))
 let s1:Shared:={ s with heap:=s.heap.push { cls:=Vh "list",data:=Ϩ ([]:em).toArray } }
 have X:s1.heap.get? S=BD { cls:=Vh "list",data:=Ϩ #[] }:=Ca _ rfl;have B:Mp s1.heap a es ep t:=hA.keep λo e=>da _ e;have M:s1.heap.objs.size=S+1:=Qc ..;have Ch:wpAny (model prog w) A.in1 (XJ (Db S) (Db a)$ Db S) (λG u=>match G with | .done f=>Z (.ok f) u | .again c'=>c'.quiet=E8/\codeAny (model prog w) A c' Z u) (λe u=>Z (.error e) u) s1:=by
  have Y:s1.TypeIs (Db a) "set":=let ⟨o,g,x,_⟩:=B;⟨o,g,x.1⟩;refine aa$ ej (T:="set") Y ?_;have ns:Jk (Db S) (Db a)=J8:=by simp only[Jk,vd];exact Pd Q
  have n1:(Vh "set" == Vh "list")=J8:=by decide
  simp only[ns];refine aa$ D9 B K hz (λhc=>?_) (λhc ps r L=>?_)
  ·have W:iq (s1.heap.push$ AA a (Bc 0) es.size ep) s1.heap.objs.size a (Bc 0) 0 es.size ep:=⟨_,Ca _ rfl,rfl,rfl⟩
   have j:Mp (s1.heap.push$ AA a (Bc 0) es.size ep) a es ep t:=B.keep λo e=>da _ e;have C:Yn { s1 with heap:=s1.heap.push (AA a (Bc 0) es.size ep) } (Db a) "set":=let ⟨o,g,x,_⟩:=j;⟨o,g,x.1⟩;have ϋ:a≠s1.heap.objs.size:=by rw[M];exact Aa$ Mb Q
   have N:S ∉ [s1.heap.objs.size,a]:=by rw[M];simp only[Da,Ze,bp,not_or];exact⟨Aa$ Lb _,Pd Q⟩
   have V:∀ (l:List$ Int × Value),l.length=es.size->l.Perm es.toList->∀ h m d c,(∀ b o,b≠S->b≠s1.heap.objs.size->(s1.heap.push$ AA a (Bc 0) es.size ep).get? b=BD o->h.get? b=BD o)->h.get? S=BD { cls:=Vh "list",dict:=A5,data:=Ϩ d c,slots:=#[] }->
     gn (λi v=>(l[i]?).map (·.2)=BD v) d es.size->Z _ { s1 with heap:=h,toks:=m }:=λl I L h m d c k g D=>⟨h,m,s.drawn,d,c,rfl,rfl,λb o e=>by
      have ϊ:=xa e;exact k b o (Aa ϊ) (by rw[M];exact Aa$ Mb ϊ)$ da _$ da _ e,g,by rw[Ţ I D];exact L.map _⟩
   cases hb:bT w with
   |true=>
    have I:(Ho (w.params.setOrder a ep) es).toList.length=es.size:=by rw[(hV _ _).length_eq,Ib]
    exact kP (BW (f:=λF=>0) (ord:=(Ho (w.params.setOrder a ep) es).toList) hh K ϋ I λu i H F A' E' Q' q'=>t7 hb H K (by rw[<-Xd];exact q')) hn N C ⟨W,j⟩ (da _ X)$ V _ I$ hV _ _
   |false=>
    have L:(!t.plain && decide (es.size > 1))=J8:=by rw[hb]at hc;simpa using hc
    have I:es.toList.length=es.size:=Ib;exact kP (BW (f:=fB t.place) (ord:=es.toList) hh K ϋ I λu i H hi A' E' Q' q'=>yn8 hb hk L hi H K (by rw[<-Xd];exact q')) hn N C ⟨W,j⟩ (da _ X)$ V _ I$ .refl _
  ·let ό:Heap:=(s1.heap.push$ bL ps).push$ AA a (Db s1.heap.objs.size) es.size ep;have k2:∀ b o,s1.heap.get? b=BD o->ό.get? b=BD o:=λb o e=>da _$ da _ e;have z2:(s1.heap.push$ bL ps).objs.size=s1.heap.objs.size+1:=Qc ..;have W:iq ό (s1.heap.objs.size+1) a (Db s1.heap.objs.size) 0 es.size ep:=⟨_,by rw[<-z2];exact Ca _ rfl,rfl,rfl⟩
   have j:Mp ό a es ep t:=B.keep λo e=>k2 a o e;have a0:pB ό s1.heap.objs.size ps:=⟨_,_,da _$ Ca _ rfl,rfl⟩
   have C:Yn { s1 with heap:=ό,drawn:=r } (Db a) "set":=let ⟨o,g,x,_⟩:=j;⟨o,g,x.1⟩;refine kP (s:={ s1 with heap:=ό,drawn:=r }) (é (p:=s1.heap.objs.size) hh K (by rw[M];exact Aa$ Mb$ Mb Q) (Aa$ Lb _) L) hn (by rw[M];simp only[Da,Ze,bp,not_or];exact⟨Aa$ Mb$ Lb _,Pd Q,Aa$ Lb _⟩) C ⟨⟨W,j⟩,a0⟩ (k2 _ _ X) λh m d c k g D=>⟨h,m,r,d,c,rfl,rfl,λb o e=>?_,g,zdr L D⟩
   have ϊ:=xa e;exact k b o (Aa ϊ) (by rw[M];exact Aa$ Mb$ Mb ϊ)$ k2 b o$ da _ e
 have n:∀ {h:Heap} {m c:Nat} {r:jp} {d:Array Value},(∀ b o,s.heap.get? b=BD o->h.get? b=BD o)->h.get? S=BD { cls:=Vh "list",dict:=A5,data:=Ϩ d c,slots:=#[] }->d.toList.Perm (es.toList.map (·.2))->R d.toList { s with heap:=h,toks:=m,drawn:=r }:=λP g D=>G _ _ _ _ P (Od$ xa g) D;refine aa$ dr$ Lc vy$ aa$ ic$ ga ⟨ae Pn _,Lc uG$ gc Ch (λf u x=>?_) (λe u x=>by obtain⟨_,_,_,_,_,z,_⟩:=x;cases z)⟩;cases f with
 |done f=>
  obtain⟨h,m,r,d,c,e,rfl,P,g,D⟩:=x;cases e;exact aa$ km g$ ga$ n P g D
 |again c1=>
  refine⟨x.1,xf x.2 λq s2 y=>?_⟩;obtain⟨h,m,r,d,c,rfl,rfl,P,g,D⟩:=y;exact aa$ km g$ ga$ n P g D
end
end L4
namespace L4
open Spec L2
set_option tactic.hygienic true in
def zgr d:(Km d).Nodup:=by
 have h:∀ (l c:gV),c.Nodup->(l.foldl QB c).Nodup:=by
  intro l;induction l with
  |nil=>simp_all
  |cons x l f=>
   intro c h;refine f _ ?_;unfold QB;split
   ·exact h
   ·rename_i j
    rw[Jv];refine⟨h,by simp,λa g b i=>?_⟩;intro e
    simp_all
 exact h d [] On
theorem UV{c:Type}[DecidableEq c]:∀ {l1 l2:List c},l1.Nodup->(∀ x∈l1,x∈l2)->l2.length<=l1.length->l1.Perm l2
 |[],l2,_,_,h=>by
  simp_all
 |x::l1,l2,a,b,f=>by
  rw[Wc]at a;exact((UV a.2 (λy d=>(List.mem_erase_of_ne$ show y≠x from λe=>a.1 ⋯).mpr$ b y$ ra _ d)$ by simp_all).cons x).trans (List.perm_cons_erase$ b x ua).symm
theorem nZ:∀ {a:Ba} {w:Ra} {l:List$ Int × Value},cE (Pf a w) l->∃ d,rh (l.map (·.2)) d/\d.length=l.length/\∀ k,k∈d ↔ ∃ e∈l,(Pf a w).is k e.2=E8
 |a,w,[],_=>⟨[],.nil,rfl,λk=>by simp⟩
 |a,w,e::l,h=>by
  obtain⟨d,i,j,m⟩:=nZ (λx b=>h x$ .tail _ b);obtain⟨⟨k,f,_⟩,_⟩:=h e (.head _);have c:=f;obtain⟨t,g⟩:=iu f;refine⟨k::d,by rw[Sa,g];exact .cons k t i,by simp[j],λn=>?_⟩;rw[Da,m n];constructor
  ·rintro (rfl|⟨x,b,q⟩)
   ·exact⟨e,.head _,c⟩
   ·exact⟨x,.tail _ b,q⟩
  ·rintro ⟨x,b,q⟩;rcases Da.mp b with rfl|b
   ·exact ϐ$ (Pf a w).inj _ _ _ q c
   ·exact ϓ ⟨x,b,q⟩
def Ŀ(p:c.Perm l):∀ {b},rh l b->∃ a,rh c a/\a.Perm b:=by
 induction p with
 |nil=>intro b h;exact⟨b,h,.refl _⟩
 |cons x p f=>
  intro b h;cases h with
  |cons n t h=>obtain⟨a,d,e⟩:=f h;exact⟨n::a,.cons n t d,e.cons n⟩
 |swap x y l=>
  intro b h;cases h with
  |cons n t h=>
   cases h with
   |cons m u h=>exact⟨m::n::_,.cons m u$ .cons n t h,.swap _ _ _⟩
 |trans j k g i=>grind
def MG(P:Ba)(w:Ra)(b:gV)(a:Addr):Heap->Prop:=λh=>Hq (Pf P w) (bT w) h a (λk=>(Km b).any (·== k)) (Km b).length
def C5:∀ b c:Heap,MG P w d a b->(∀ u,b.get? a=BD u->c.get? a=BD u)->MG P w d a c:=λb c x k=>KN x k
def õ(X:Cx):kv->Hp->VK->Prop:=λxs H Q=>∃ (p:Addr) (ns:gV),xs=[ϖ p]/\Te X.K H p (ns.map Ϣ)/\ns.length<64/\∀ l,H l=A5->Q (ϖ l) (Sb H l$ Ϧ$ MG X.prog X.w ns l)
def Ū(j:X.de=E8):To X (Vh "set")$ õ X:=by
 rintro h s v H xs x Q I r ⟨p,f,rfl,m,l,q⟩;obtain⟨u,rfl,n⟩:=vt r;cases n;obtain⟨a,i,pl,t⟩:=I.list m;have d:a.length=f.length:=by rw[<-i.length,Oa]
 refine Ħ (I.ok.hd j) pl.isList (zK i) (by rw[Ua,d];exact HV$ lb (Od l) ⋯) λh' w c k=>?_;rw[show a.toArray.size=f.length by rw[Ua,d],gM]at c;refine⟨ϖ s.heap.objs.size,_,I.laid (λb o e=>k b o (xa e) e) (va _) ?_,rfl,q _$ I.Cc.fresh$ va _⟩;exact⟨c,let ⟨o,_,_,_,g,_⟩:=c;⟨o,g⟩,C5⟩
def Ĺ(I:Xa X a b H s) d':Xa X a b H { s with drawn:=d' }:=⟨I.ok,I.os,I.bare,I.base,I.loc,I.cell,I.free,I.bg,I.pin,I.Cc,I.len⟩
def ë(X:Cx):kv->Hp->VK->Prop:=λxs H Q=>∃ (a:Addr) (ns:gV),xs=[ϖ a]/\H a=BD (Ϧ$ MG X.prog X.w ns a)/\ns.length<64/\(Km ns).length<=ns.length/\∀ l,H l=A5->Q (ϖ l) (Sb H l$ ϰ$ (Op$ Km ns).map Ϣ)
def o8(ϊ:X.de=E8):To X (ϡ "sorted")$ ë X:=by
 intro C s σ H xs us Q I r h;obtain⟨a,i,rfl,S,R,W,q⟩:=h;obtain⟨u,rfl,rfl⟩:=vt r;obtain⟨⟨o,l,ep,t,ό,K,L,M,N,y,g7,ϋ,P⟩,_,_⟩:=I.Cc a _ S;obtain⟨is,i1,i2,i3⟩:=nZ M;have hp:is.Perm$ Km i:=(UV (zgr i) (λx hx=>(i3 x).mpr$ (N x).mp$ Sd.mpr ⟨x,hx,by simp⟩)$ by rw[i2,Ib,ϋ];exact va _).symm;have j:l.size<64:=by lia
 have Z:l.size<=sizeLine:=og y;refine Qn kind_sorted plain_sorted entry_sorted (args_sorted1 _)$ aa (m:=checkCount "sorted" 1 1 _)$ ga$ aa (Υ (A:=X.A.in1) (I.ok.hd ϊ) ⟨o,ό,K,L⟩ g7 P y λh' tk d' d B k c=>?_);obtain⟨a0,T,n⟩:=Ŀ c i1;have z:d.toList.length=l.size:=by rw[c.length_eq,Oa,Ib]
 refine aa$ Ft ?_ (by rw[z];exact Z);have f:(h'.push$ rm "list" d.toList.toArray 0).get? h'.objs.size=BD (rm "list" d.toList.toArray 0):=Ca _ rfl;refine aa$ cc$ Hc HP ⟨_,f,rfl⟩ NJ (IP f T (by rw[z];exact j) λg p D E F=>⟨_,rfl,(ga ⟨_,rfl,?_⟩)⟩)$ JP _;have G:p=Op (Km i):=WE (E.trans$ n.trans$ hp.trans (bv _).symm) F$ LI _;subst G;obtain⟨e,Y⟩:=RZ (out:=g) f;exact⟨ϖ h'.objs.size,_,(Ĺ I d').laid (t':=tk) (λb o v=>by
  have lt:b<h'.objs.size:=xa$ B b o v;rw[KP (Aa lt) (by rw[LB];exact Mb lt)];exact da _$ B b o v) k (show uk X.prog X.w _ _ _ (ϰ$ (Op$ Km i).map Ϣ)from⟨by rw[Oa,((bv$ Km i).length_eq)];exact lb (show (Km i).length<=1000 by lia) ⋯,g.toList,e,UF D,by rw[Li];exact Y⟩),rfl,q _$ I.Cc.fresh k⟩
def pC(x:D):M D:=λa=>match (jf a x).bind Jp with
 |some ns=>if ns.length<64 then xA ((Op$ Km ns).map U) a else ϕ
 |none=>ϕ
def Ξ a:(Km a).length<=a.length:=by rw[<-gM];exact MB _ _
theorem QY{b:b'}{H:Hp}:∀ (a:gV),pb T b H (a.map U) (a.map Ϣ)
 |[]=>pb.nil
 |i::a=>pb.cons (by rw[Na]) (QY a)
def Y1(hK:T.K=X.K)(y:X.de=E8)(ϋ:Gl X "sorted")(P:X.mg "sorted" = A5)(q:Gl X "set")(r:X.mg "set" = A5)(N:FE T X e f)
  (A:wa [e] X.env=(J8,Qb e X.env)::wa [] X.env:=by rfl) (u:(Dc b$ wa [] X.env).any (·.1)=J8:=by rfl)
  (i:wa [Ϡ (ϝ "set" w) [e] [] b] X.env=(J8,Qb (Ϡ (ϝ "set" w) [e] [] b) X.env)::wa [] X.env:=by rfl) (g:(Dc k$ wa [] X.env).any (·.1)=J8:=by rfl) :
  FE T X (Ϡ (ϝ "sorted" p) [Ϡ (ϝ "set" w) [e] [] b] [] k)$ Vd pC f:=by
 intro j s V H Q I h;refine GH (o8 y) ϋ P L4.zQ (vu (bK (Ū y) q r rfl (vu N Nx A) ⋯ ⋯ A u) Nx i) ⋯ ⋯ i g j s V H Q I ?_;obtain⟨W,Z,σ,L,S,R⟩:=h;refine⟨W,Z,σ,L,S,R.bind λd x Y v H1 D e1 B ϊ c=>?_⟩;unfold pC at c;cases n:(jf x d).bind Jp with
 |none=>rw[n]at c;exact c.elim
 |some ns=>
  rw[n]at c;dsimp only at c;by_cases m:ns.length<64
  ·rw[ja m]at c;obtain⟨ys,C,E⟩:=yf.mp n;obtain⟨a,vs,rfl,G,ό⟩:=B.ls ϊ C;have F:=vD ό E;subst F;exact⟨a,ns,rfl,Te.of G,m,λl z=>⟨l,ns,rfl,bf,m,Ξ ns,λl2 t=>(AC (Pb.mono (mj (o:=Ϧ _) z) c) (B.fresh z) (QY _) t)⟩⟩
  ·rw[pa m]at c;exact c.elim
noncomputable def yfl(x:D)(xs:lv):M D:=λa=>match x,xs with
 | O n,[]=>(match a[n]? with
  |some (ώ _)=>J Ϝ (a.set n$ ώ [])
  |_=>ϕ)
 |_,_=>ϕ
def oC(c:lv):M D:=λb=>match c with
 |[x]=>(match ig b x with
  |some a=>J (O b.length) (b++[ώ a])
  |none=>ϕ)
 |_=>ϕ
def Ρ:Us T LK oC:=by
 intro E n H k e vs Q r p h
 match e with
 |[]=>cases h
 |[x]=>
  unfold oC at h;dsimp only at h;cases b:ig k x with
  |none=>rw[b]at h;exact h.elim
  |some i=>
   rw[b]at h;obtain⟨v,m,rfl,j,rfl⟩:=p;obtain⟨a,d,rfl,f,g⟩:=tw r j b;exact⟨a,d,rfl,f,λl c=>(h _ _ _ (Vu c) (r.push c ⟨d,bf,Paired.Dp g λl l z=>⟨z.1,Na.mono (Vu c) _ _ z.2⟩⟩)$ MD r)⟩
 |_::_::_=>trivial
section
variable{pins:List$ Addr × Obj}{σ:St}{H:Hp}{s:Shared}
def _root_.L2.Xa.freeze(I:Xa X pins σ H s)(g:H a=BD (Ϛ d))(e:s.heap.get? a=BD i):Xa X pins σ (Sb H a$ ϧ i$ Ϛ d) s:=by
 have f:∀ b u,H b=BD u->u≠ Ϛ d->b≠a:=λb u q n z=>by rw[z,g]at q;exact n (Zb q).symm
 refine I.step (ch:=[]) (λk z=>nomatch z) (λb o k k k q k=>q) (λb o k k k q k=>⟨o.slots,q⟩) (λb o k q n=>?_) (λb o k q=>⟨o,q⟩)
  (λb xs q=>by rw[ud$ f b _ q (λz=>by cases z)];exact q) (λb u xs q=>by rw[ud$ f b _ q (λz=>by cases z)];exact q) (λb ps q=>⟨#[],by rw[ud$ f b _ q (λz=>by cases z),q];simp⟩) (λm j=>j) (λb u q=>?_) I.bare
 ·rw[ud (λz=>by rw[z,g]at n;cases n)];exact n
 ·by_cases h:b=a
  ·subst h;rw[bf]at q;cases q;exact⟨e,I.Cc b _ g⟩
  ·rw[ud h]at q;exact(I.Cc b u q).Aj (λc v k z=>z) (λc z=>by rw[ud$ f c _ z (λy=>by cases y)];exact z) λc xs z=>by rw[ud$ f c _ z (λy=>by cases y)];exact z
def kg(I:Xa X pins σ H s)(k:H a=BD (ϧ g$ Ϛ b)):∃ f d c,KV b f/\g.data=.dict d c/\s.heap.DictAt (jj X.prog X.w) a f c:=by
 obtain⟨e,_,_,f,h,o,d,c,j,ex,i,r⟩:=I.Cc a _ k;rw[e]at j;cases j;exact⟨f,d,c,h,i,g,d,e,ex,i,r⟩
end
noncomputable def Itm(d:Addr)(b:Obj)(a:List$ wc × V):It:=
 ⟨λi H=>H d=BD (ϧ b$ Ϛ a)/\∃ x,a[i]?=BD x,λi H v c=>∃ p k x,H p=A5/\v=ϖ p/\a[i]?=BD (k,x)/\c=Sb H p (.db [kV k,x]),λi H=>H d=BD (ϧ b$ Ϛ a)/\i=a.length⟩
theorem QG{d:Type}:∀ {c:List$ d × V} {g:List$ d × Value} (r:KV c g) (i:Nat) {k:d} {x:V},c[i]?=BD (k,x)->∃ u,g[i]?=BD (k,u)/\Zc x u
 |_,_,Ϟ,i,_,_,h=>by simp at h
 |_,_,ϛ (b:=q) a b,0,k,x,h=>by
  simp at h;obtain⟨e,f⟩:=a;rw[h]at e f;exact⟨q.2,by simp[List.getElem?_cons_zero];exact Iz e.symm rfl,f⟩
 |_,_,ϛ a b,i+1,k,x,h=>by
  exact QG b i h
def hW(h:(jj P w).is k v=E8):Zc (kV k) v:=by
 rcases Qq h with⟨i,t,rfl,rfl⟩|⟨x,t,rfl,rfl⟩<;>exact⟨t,rfl⟩
def W6{P:Ba}{w:Ra}{K:ϗ}{j:List Ia}{kk:Nat}{ϋ:Td}(d f:Addr)(ϊ:Obj)(t:List$ wc × V)(a0:d≠f){Z:Array tu}{R:Nat}(n:ϊ.data=.dict Z R) :
  Rm P w K (ϱ j kk ϋ) (Itm d ϊ t) [f] f (λi h=>∃ ok e,IsItemIter h f d i t.length R ok e) where
 mem:=by simp
 obj:=λi h st b c=>by
  obtain⟨ok,e,s1⟩:=st
  simp_all
 keep:=λi h h' st k=>by
  obtain⟨ok,e,s1⟩:=st;exact⟨ok,e,k f ⋯ _ s1⟩
 item:=by
  intro X F N D S i v s σ H E I y st ό;subst F N D;obtain⟨G,⟨k,x⟩,T⟩:=ό;obtain⟨vs,C,B,a,g,M⟩:=kg I G;rw[n]at g;cases g;obtain⟨u,hu,ru⟩:=QG a i T;obtain⟨ok,e,s1⟩:=st;rw[a.length]at s1;refine wpAny_pyNext_items_item s1 M hu λr h' m ho hT a1 hk=>?_;have l:=Pd$ xa s1;refine⟨Db s.heap.objs.size,rfl,wpAny_letOwnedTupleGo_items ho λh2 L p=>⟨ϖ s.heap.objs.size,Sb H s.heap.objs.size _,I.Ku (λb o c q=>p.extBut b o (λz=>c (by simp[z]))$ hk b o (λz=>c (by simp[z])) q) y (va _) ?_,rfl,⟨_,k,x,(I.Cc.fresh$ va _),rfl,T,rfl⟩,⟨r,u,by rw[a.length];exact L⟩,λb c=>?_⟩⟩
  ·exact⟨(show 2<=sizeLine by decide),[r,u],ϛ (hW m)$ ϛ ru Ϟ,⟨_,(p.extBut _ _ l hT),rfl,_,rfl⟩⟩
  ·obtain rfl:b=f:=by simpa using c
   rw[ud (λz=>l z.symm)];exact(y b c).1
 done:=by
  intro X F N D S i v s σ H E I y st ό;subst F N D;obtain⟨G,hi⟩:=ό;obtain⟨vs,C,B,a,g,M⟩:=kg I G;rw[n]at g;cases g;obtain⟨ok,e,s1⟩:=st;rw[a.length]at s1 hi;exact wpAny_pyNext_items_end (I.ok.hd S) s1 M ⋯ λh' Y=>⟨rfl,I.Yu (λb o c q=>Y b o (λz=>c (by simp[z])) q) y⟩
 self:=λA i s Q E st h=>by
  obtain⟨ok,e,s1⟩:=st;exact W.kcp_self s1 h
def Sq(l a:Addr):Heap->Prop:=λh=>h.IsItemsView l a
def yhh:V->kv->Hp->VK->Prop:=λx xs H Q=>∃ a b,x=ϖ a/\xs=[]/\Rd H a (Ϛ b)/\∀ l,H l=A5->Q (ϖ l) (Sb H l$ Ϧ$ Sq l a)
def ax(h:H a=BD o):Sb H a o=H:=by
 funext b;unfold Sb;split;all_goals simp_all
def iA(h:Heap) o(a:o.data≠.freed):(h.push o).get? h.objs.size=BD o:=by
 obtain⟨c,d,x,b⟩:=o;simp[Heap.get?,Heap.push]
 simp_all
section
variable{elts:List Ia}{kk:Nat}{p0:Td}
def xT:qw X "dict.items" yhh:=by
 rintro f s st H x vs v u Q I m l ⟨a,i,rfl,rfl,g,q⟩;cases m;cases l;obtain⟨z,h,n,j,d⟩:=Qr I.Cc g;refine nh ph d.typeIs PySem.F.entry_dict_items (PySem.F.args_dict_items_1 _) (meets_dict_items _ a h) ⟨⟨n,d⟩,⟨ϖ s.heap.objs.size,_,I.laid (λb o e=>da _ e) (va _) ?_,rfl,q _$ I.Cc.fresh$ va _⟩⟩;refine⟨⟨_,iA _ _ (λz=>by cases z),rfl,rfl⟩,⟨_,iA _ _ (λz=>by cases z)⟩,λr t p k=>?_⟩;obtain⟨o,e,c⟩:=p;exact⟨o,k o e,c⟩
def ydz(e:TE):TI:=λf H R=>e f H λv c=>∃ l a b,v=ϖ l/\c l=BD (Ϧ$ Sq l a)/\Rd c a (Ϛ b)/\∀ d,c a=BD (Ϛ b)\/c a=BD (ϧ d$ Ϛ b)->R (Itm a d b) (Sb c a$ ϧ d$ Ϛ b)
def WT(B:PE X d r):PI X (ϱ elts kk p0) d$ ydz r:=by
 intro g s t H R I h;refine Bd (B g s t H _ I h) λv s1 ſ=>?_;obtain⟨x,H1,k,E,D⟩:=ſ;obtain⟨l,a,i,rfl,C,c,q⟩:=D;cases E;obtain⟨f,n,m⟩:∃ f,(H1 a=BD _\/H1 a=BD (ϧ f _))/\Xa X g t (Sb H1 a$ ϧ f _) s1:=by
  rcases c with c|⟨f,c⟩
  ·obtain⟨_,_,vs,j,o,y,w,e,_⟩:=k.Cc a _ c;exact⟨o,ϐ c,k.freeze c e⟩
  ·exact⟨f,ϓ c,by rw[ax c];exact k⟩
 obtain⟨vs,y,w,j,u,p⟩:=kg m bf;refine wpAny_pyIter_items ((k.Cc l _ C).1) p ⟨s1.heap.objs.size,[s1.heap.objs.size],_,Itm a f i,_,rfl,m.kept (λb o e=>da _ e),W6 a _ f i (Aa p.lt_size) u,⟨Fc,Fc,by rw[j.length];exact iA _ _ (λz=>by cases z)⟩,λb A=>?_,q f n⟩;obtain rfl:b=s1.heap.objs.size:=by simpa using A
 exact m.Jm (va _)$ m.Cc.fresh$ va _
noncomputable def Sr(a:List$ wc × D):NX:=λi b=>match a[i]? with
 |some p=>BD (BD$ ϑ [Ut p.1,p.2])
 |none=>if i=a.length then BD A5 else A5
def dJ(d:D):M NX:=λa=>match d with
 | Ϭ ks xs=>if ks.length=xs.length then J (Sr$ ks.zip xs) a else ϕ
 |_=>ϕ
def Wu(f:Ev->M D):Ev->M NX:=λa=>Kc (f a) dJ
def DN k:Na T a H (Ut k)$ kV k:=by
 cases k<;>(unfold Ut kV;rw[Na])
def vP(d:H a=BD (Ϛ c)):qd μ H μ$ Sb H a$ ϧ od$ Ϛ c:=by
 have f:∀ b u,H b=BD u->u≠ Ϛ c->b≠a:=λb u q n z=>by rw[z,d]at q;exact n (Zb q).symm
 refine⟨⟨[],by simp⟩,λp xs h=>by rw[ud$ f p _ h (λz=>by cases z)];exact h,λp o u h=>by rw[ud$ f p _ h (λz=>by cases z)];exact h,λp o h n=>⟨?_,n⟩⟩;by_cases e:p=a
 ·subst e;rw[d]at h;cases h;exact⟨_,bf,ϓ$ ϐ ⟨od,c,rfl,rfl⟩⟩
 ·exact⟨o,by rw[ud e];exact h,ϐ rfl⟩
theorem ZF{c e:Type}{R:c->e->Prop}:∀ {xs:List c} {d:List e},Paired R xs d->∀ (i:Nat) {x:c},xs[i]?=BD x->∃ y,d[i]?=BD y/\R x y:=by
 intro _ _ h;induction h with
 |nil=>intro i _ h;simp at h
 |cons a _ k=>
  intro i x h;cases i with
  |zero=>clear k;simp_all
  |succ i=>exact k i h
def aO(h:FE T X e f)(m:Xc e "items" X.env (Qb e X.env)=Qb e X.env:=by rfl)(o:(j.endLine == k.line)=E8:=by rfl) :
  Fq T X (ϱ elts kk p0) (Ϡ (ϟ e "items" j) [] [] k)$ Wu f:=by
 intro G s st H R I hw;refine WT (iL zd ph Vn xT h m o) G s st H R I ?_;obtain⟨μ,ρ,σ,hE,hr,hp⟩:=hw;refine⟨μ,ρ,σ,hE,hr,hp.bind λd ό c v A b e1 r1 q1 w=>?_⟩;unfold dJ at w;cases d with
 |Ga ks xs=>
  dsimp only at w;by_cases Y:ks.length=xs.length
  ·rw[ja Y]at w;obtain⟨a,g,rfl,hn,n,ϋ,Q⟩:=q1;refine⟨⟨a,g,rfl,n⟩,a,g,rfl,rfl,n,λl t=>?_⟩;have S:a≠l:=by rcases n with n|⟨_,n⟩<;>exact zm n t
   have N:Rd (Sb A l$ Ϧ$ Sq l a) a$ Ϛ g:=by unfold Rd;rw[ud S];exact n
   refine⟨l,a,g,rfl,bf,N,λϊ B=>?_⟩;have x1:qd c A c$ Sb A l$ Ϧ$ Sq l a:=mj t;have x:Yc T c (Sb A l$ Ϧ$ Sq l a) ό:=r1.fresh t;obtain⟨x2,V⟩:qd c A c _/\Yc T c _ ό:=by
    rcases B with B|B
    ·have y:=vP (μ:=c) (od:=ϊ) B;exact⟨x1.trans y,x.keep y (λb K=>ud (λz=>hn (by rw[<-z];exact K)))$ x.tb.out (λb K=>ud K)$ ϓ ⟨_,B⟩⟩
    ·rw[ax B];exact⟨x1,x⟩
   have h3:Sb (Sb A l$ Ϧ$ Sq l a) a _ a=BD (ϧ ϊ$ Ϛ g):=bf;refine Pb.here (Pb.mono x2 w) V λa0 H2 a1 i ex r2=>?_;have W:=ex.Uc _ _ _ h3;have E:=jg.mono (x2.trans ex)$ CF ϋ Q;unfold Sr;cases ei:(ks.zip xs)[i]? with
   |none=>
    by_cases L:i=(ks.zip xs).length
    ·rw[ja L];exact⟨W,by rw[L];exact Paired.length E⟩
    ·rw[pa L];trivial
   |some p=>
    obtain⟨q,Z,P,rx⟩:=ZF E i ei;refine⟨⟨W,q,Z⟩,λz H' y=>?_⟩;obtain⟨r,k',x',u,rfl,C,rfl⟩:=y;rw[Z]at C;cases C;refine⟨mj u,r2.fresh u,?_⟩;rw[Na,P];exact⟨r,_,rfl,bf,pb.cons (DN _)$ pb.cons (Na.mono (mj u) _ _ rx) pb.nil⟩
  ·rw[pa Y]at w;exact w.elim
 |_=>exact w.elim
end
def Ci(nx:NX)(n:Nat)(e:D->Ev->Option Ev)(fi:Ev->M Bool)(b:Ev->M D):Nat->Nat->Ev->M Unit
 |0,_,_=>Ab
 |k+1,i,g=>λf=>match nx i f with
  |none=>ϕ
  |some A5=>J () f
  |some (BD d)=>match e d g with
   |none=>ϕ
   |some a=>Kc (Vt$ fi a) (λc=>if c=E8 then Kc (Vt$ b a) λy=>Kc (Xj (O n) [y]) λh=>Ci nx n e fi b k (i+1) a else Ci nx n e fi b k (i+1) a) f
def ð(d:D->Ev->Option Ev)(c:Ev->M Bool)(b:Ev->M D)(e:Ev)(nx:NX):M D:=λa=>
 Kc (Ci nx a.length d c b 1001 0 e) (λf=>ret$ O a.length)$ a++[Ϗ []]
def Uk(a:Ev->M NX)(e:h8)(f:D->Ev->Option Ev)(d:Ev->M Bool)(c:Ev->M D):Ev->M D:=λb=>Kc (a b)$ ð f d c$ DF e b
def dW {st}
  (hc:X.de=E8) (L:Wj X x M' ix a)
  (d7:∀ cl C ϋ G ex,FG T (Po X (x::z0::M') a cl C ϋ G ex) a9 S)
  (d4:∀ cl C ϋ G ex,iy T (Po X (x::z0::M') a cl C ϋ G ex) b2 fi)
  (c6:∀ cl C ϋ G ex,FE T (Po X (x::z0::M') a cl C ϋ G ex) b1 H)
  (I3:Xa X b6 st H3 s3) (c7:∀ b∈fp,Nk X b6 H3 b/\b<s3.heap.objs.size) (d6:I.Ns s3.heap.objs.size m) (kp:∀ b o,s3.heap.get? b=BD o->I.get? b=BD o)
  (TT:Rm X.prog X.w X.K a9 ό fp it tn) (b5:tn 0 I) (so:Vy T P H3 nx ό) (hE:eh T P H3 ρ st) (r3:Yc T P H3 c3) (hn:P[n]?=BD D0)
  (p3:Pb T E (Na T) P H3 (Kc (Ci nx n S fi H 1001 0$ DF ix ρ) (λr=>ret$ O n) c3) Q)
  (d2:∀ s6 q m6,s6.heap.Ns s3.heap.objs.size m6->q s3.heap.objs.size=A5->Un (yk X.stack) fp H3 q s3.heap s6.heap->s6.os=s3.os->Ph X.prog X.w q s6.heap->qh s6.gens->Q (ϖ D0) q->RR (.ok .next) s6) :
  codeAny (model X.prog X.w) X.A (.compStart (ϴ b1 [⟨a9,a4,b2,0⟩] a b9) 0 (Db it) (Db D0)$ compEnvC a (Si X.env a.names []) s3.heap.objs.size X.env)
   RR { s3 with heap:=I,toks:=t' }:=by
 have I4:=zd9 (z0:=z0) (t':=t') I3 L c7 d6 kp;let Y:Cx:=Po X (x::z0::M') a (Si X.env a.names []) s3.heap.objs.size s3 H3 fp;have a8:∀ {q:Hp},(∀ b∈fp,q b=A5)->∀ b∈fp,Nk Y [] q b:=fun {q} hn b hb=>⟨hn b hb,(I4.ok.YE b hb).1,I4.ok.Ls b hb,ϐ hb,(I4.ok.YE b hb).2,λp hp=>absurd (show p∈([]:i')from hp) ⋯⟩
 have vm:codeAny (model X.prog X.w) X.A (.compLoop (ϴ b1 [⟨a9,a4,b2,0⟩] a b9) 0 (Db it) (Db D0) Y.env) RR { s3 with heap:=I,toks:=t' }:=by
  refine codeAny_loop rfl (λk s'=>∃ i g q h t F,Xa Y [] F q s'/\tn i s'.heap/\(∀ b∈fp,q b=A5)/\qd P H3 g q/\eh T g q t F/\Yc T g q h/\
   Pb T E (Na T) g q (Kc (Ci nx n S fi H k i t) (λr=>ret$ O n) h) Q) ?_ 1001 ⟨0,P,H3,c3,DF ix ρ,BA ix st,I4,b5,λb hb=>(c7 b hb).1.1,ϭ _ _,Ĩ ix hE,r3,p3⟩
  rintro k s' ⟨i,g,q,h,t,F,I',c9,c4,Z,b8,r',p'⟩;show wpAny _ X.A ((compTurn (ϴ b1 [⟨a9,a4,b2,0⟩] a b9) 0 _ (Db D0) Y.env).onRaise$ λx=>do yh x Y.env;theTreesLotGoes x) _ _ s';refine wpAny_noted$ gc (E:=λr r=>False) ?_ (λr r z=>z) (λr r z=>z.elim);refine aa$ Ct ?_;cases k with
  |zero=>exact p'.elim
  |succ k=>
   have b4:=so g q h i Z r';cases en:nx i h with
   |none=>
    have e1:Ci nx n S fi H (k+1) i t h=ϕ:=by unfold Ci;simp only[en]
    rw[MH (m':=Ab) e1]at p';exact p'.elim
   |some od=>
    rw[en]at b4;cases od with
    |none=>
     have e1:Ci nx n S fi H (k+1) i t h=J () h:=by unfold Ci;simp only[en]
     rw[MH (m':=ret ()) e1]at p';refine aa (Bd (TT.done Y rfl rfl rfl hc i [] s' F q (λr r=>False) I' (a8 c4) c9 b4) λr s6 ⟨er,I6⟩=>?_);subst er;refine ga ?_;obtain⟨m6,d5,_⟩:=I6.loc;exact d2 s6 q m6 d5 I6.free I6.base I6.os I6.Cc I6.bare$ Pb.here p' r' (by rw[Na];exact⟨_,rfl,Z.get hn⟩)
    |some d=>
     refine aa (Bd (TT.item Y rfl rfl rfl hc i [] s' F q (λr r=>False) I' (a8 c4) c9 b4.1) λr s6 ſ=>?_);obtain⟨u,er,h6⟩:=ſ;subst er;refine aa (Bd h6 λr s7 ſ=>?_);obtain⟨xv,H7,I7,r7,y7,c2,d3⟩:=ſ;obtain⟨b7,d8,hd⟩:=b4.2 xv H7 y7;replace p':=Pb.mono b7 p';replace b8:=b8.mono b7;replace Z:=Z.trans b7;replace r':=d8;cases et:S d t with
     |none=>
      have e1:Ci nx n S fi H (k+1) i t h=ϕ:=by unfold Ci;simp only[en,et]
      rw[MH (m':=Ab) e1]at p';exact p'.elim
     |some l=>
      have e1:Ci nx n S fi H (k+1) i t h=Kc (Vt$ fi l) (λc=>if c=E8 then Kc (Vt$ H l) λy=>Kc (Xj (O n) [y]) λr=>Ci nx n S fi H k (i+1) l else Ci nx n S fi H k (i+1) l) h:=by
       conv=>lhs;unfold Ci
       simp only[en,et]
      rw[MH e1,aN]at p';refine aa (Bd (d7 _ _ _ _ _ _ s7 F H7 xv u (λN H8=>H8=H7/\eh T g H7 l N) (I7.pinned (a8 d3)$ TT.obj _ _ c2) r7 ⟨g,h,t,d,l,b8,r',hd,et,λN a3=>⟨rfl,a3⟩⟩) λr s8 ſ=>?_);obtain⟨N,H8,I8,d1,a3⟩:=ſ;subst d1;refine aa (Bd (d4 _ _ _ _ _ _ s8 N H8 (λc H9=>∃ V a0,qd g H8 V H9/\Yc T V H9 a0/\Pb T E (Na T) V H9 (Kc (if c=E8 then Kc (Vt$ H l) λy=>Kc (Xj (O n) [y]) λr=>Ci nx n S fi H k (i+1) l else Ci nx n S fi H k (i+1) l) (λr=>ret$ O n) a0) Q) I8
       ⟨g,l,h,a3,r',p'.Iu λc a0 V c' H9 r e9 r9 q9 p9=>by cases q9;exact⟨V,a0,e9,r9,p9⟩⟩) λc s9 ⟨H9,I9,V,a0,e9,r9,p9⟩=>?_)
      have a2:∀ {a7:Shared} {s:Hp} {f:b'} {j:Ea},Xa Y ([]++VE fp s7.heap) N s a7->qd g H8 f s->Yc T f s j->Pb T E (Na T) f s (Kc (Ci nx n S fi H k (i+1) l) (λr=>ret$ O n) j) Q->
        ∃ m,m<k+1/\∃ i g q h t F,Xa Y [] F q a7/\tn i a7.heap/\(∀ b∈fp,q b=A5)/\qd P H3 g q/\eh T g q t F/\Yc T g q h/\Pb T E (Na T) g q (Kc (Ci nx n S fi H m i t) (λr=>ret$ O n) h) Q:=by
       intro a7 s f j a1 W a6 a5;refine⟨k,Lb _,i+1,f,s,j,l,N,a1.zj,TT.keep _ _ _ c2 (λb hb o e=>(a1.pin (b,o)$ Va _$ Va _$ WG hb e).1),λb hb=>?_,Z.trans W,a3.mono W,a6,a5⟩;obtain⟨o,e,_⟩:=TT.obj _ _ c2 b hb;exact(a1.pin (b,o)$ Va _$ Va _$ WG hb e).2.1
      cases c with
      |false=>
       exact ga ⟨rfl,a2 I9 e9 r9 p9⟩
      |true=>
       rw[ja rfl,aN]at p9;refine aa$ aa (Bd (c6 _ _ _ _ _ _ s9 N H9 (λv ϊ=>∃ y B R,qd g H8 B ϊ/\Yc T B ϊ R/\Na T B ϊ y v/\Pb T E (Na T) B ϊ (Kc (Xj (O n) [y]) (λr=>Kc (Ci nx n S fi H k (i+1) l) (λr=>ret$ O n)) R) Q) I9
        ⟨V,l,a0,a3.mono e9,r9,p9.Iu λy R B v ϊ r b0 c1 c0 b3=>⟨y,B,R,e9.trans b0,c1,c0,by rw[aN]at b3;exact b3⟩⟩) λw d9 ⟨v,ϊ,d0,c8,y,B,R,b0,c1,c0,b3⟩=>?_)
       have c5:=ψ (Q:=λr s=>∃ f j,qd g H8 f s/\Yc T f s j/\Pb T E (Na T) f s (Kc (Ci nx n S fi H k (i+1) l) (λr=>ret$ O n) j) Q) c1 ((Z.trans b0).get hn) c0
        (b3.bind λr j f e0 s r W a6 e2 a5=>⟨f,j,b0.trans W,a6,a5⟩)
       refine aa (Bd (DM (X:=Y) _ d9 N ϊ (ϖ D0) [v] (Db D0) [w] _ d0 rfl (ϛ c8 Ϟ) c5) λr a7 ſ=>?_);obtain⟨e0,s,a1,_,f,j,W,a6,a5⟩:=ſ;exact ga$ ga ⟨rfl,a2 a1 W a6 a5⟩
 exact codeAny_compStart_list vm$ TT.self X.A 0 _ _ _ b5 vm
def ycp
  (hc:X.de=E8) (L:Wj X x R ix a) (G:Fq T X u h ϋ)
  (a2:∀ cl C d c ex,FG T (Po X (x::z0::R) a cl C d c ex) u tg)
  (Y:∀ cl C d c ex,iy T (Po X (x::z0::R) a cl C d c ex) N fi)
  (B:∀ cl C d c ex,FE T (Po X (x::z0::R) a cl C d c ex) z fe)
  (hs:∀ y,oe h X.env y=pure y:=by intro _;rfl) :
  FE T X (ϴ z [⟨u,h,N,0⟩] a a4)$ Uk ϋ ix tg fi fe:=by
 rintro p s st H Q I ⟨S,ρ,σ,hE,hr,hp⟩;refine Ht rfl hs (nO X.env a$ lB I L) L.kind (λy hy e=>?_) ?_
 ·have q:=Vb.mp L.names y hy;rw[e]at q;exact eq_of_beq q
 have h1:=G p s st H (λό j=>∃ nx f w,qd S H f j/\Yc T f j w/\Vy T f j nx ό/\Pb T _ _ f j _ Q) I
  ⟨S,ρ,σ,hE,hr,hp.bind λnx a6 a5 ό H1 v e1 r1 q1 p1=>⟨nx,a5,a6,e1,r1,q1,p1⟩⟩
 refine Bd h1 λv s1 h2=>Bd h2 λa7 s2 h3=>?_;obtain⟨it,fp,tn,ό,j,rfl,I2,TT,P,f2,nx,f,w,ϊ,r2,so,p2⟩:=h3;refine ic$ gk (aG L) (by intro y hy;simp at hy) (λK l m=>?_) L.kind;have I3:=I2.gB (t':=s2.toks) Ϟ ⋯;have A:j s2.heap.objs.size=A5:=I2.Cc.fresh$ va _;have t:qd f j _$ Sb j s2.heap.objs.size$ ϰ []:=Vu A;have a1:s2.heap.objs.size<(s2.heap.push { cls:=Vh "list",data:=Ϩ [].toArray }).objs.size:=by rw[Qc];exact Lb _
 have kp:∀ b o,(s2.heap.push { cls:=Vh "list",data:=Ϩ [].toArray }).get? b=BD o->K.get? b=BD o:=λb o e=>m.extBut b o (Aa$ xa e)$ da _ e;have g:∀ b∈fp,Nk X p (Sb j s2.heap.objs.size$ ϰ []) b/\b<(s2.heap.push { cls:=Vh "list",data:=Ϩ [].toArray }).objs.size:=λb k=>by
  obtain⟨o,e,_⟩:=TT.obj 0 _ P b k;have lt:=xa e;exact⟨⟨by rw[ud$ Aa lt];exact(f2 b k).1,(f2 b k).2⟩,cr lt a1⟩
 refine dW (n:=w.length) hc L a2 Y B I3 g l kp TT (TT.keep 0 _ _ P λb k o e=>kp b o$ da _ e)
  (λS H σ i ex r=>so S H σ i (t.trans ex) r) ((hE.mono ϊ).mono t) (r2.push (ob:=Ϗ []) A ⟨[],bf,pb.nil⟩) (by rw[<-r2.len];simp) (p2.mono t) (λs6 H' m6 Z V a3 a0 E W hq=>⟨m6,Z,λh7 F=>?_⟩)
 exact⟨ϖ s2.heap.objs.size,H',(L2.Xa.Ou (s':={ s6 with heap:=h7 }) (ch:=fp) I3 a0 (R1 a3 F$ va _) (zmf E F V) W$ λb k=>⟨(g b k).1.2.2.2.1,(g b k).1.2.1,(g b k).1.2.2.2.2.1,(g b k).1.2.2.2.2.2⟩),rfl,hq⟩
def yE(K:ϗ)(b:Str->Option Value)(x:Str)(c:ab):Prop:=∃ a,b x=BD (Db a)/\hD K a c
noncomputable def EA:em->ab->Bool
 |[],[]=>E8
 | .str y _::a,x::ss=>(y == x) && EA a ss
 |_,_=>J8
def OK(K:ϗ)(a:Addr)(c:ab):Bool:=match K.lookup a with
 |some o=>(o.cls == Vh "tuple") && (match o.data with
  | Ϩ b _=>decide (b.size<=sizeLine) && EA b.toList c
  |_=>J8)
 |none=>J8
theorem YX:∀ {a:em} {ss:ab},EA a ss=E8->ce (ss.map V.str) a
 |[],[],_=>Ϟ
 |[],_::_,h=>by simp[EA]at h
 |v::a,[],h=>by cases v<;>simp[EA]at h
 |v::a,x::ss,h=>by
  cases v with
  |str y t=>
   simp only[EA,Fa]at h;obtain rfl:=eq_of_beq h.1;exact ϛ ⟨t,rfl⟩$ YX h.2
  |_=>simp[EA]at h
def hD.of{K}(h:OK K a f=E8):hD K a f:=by
 unfold OK at h;cases e:K.lookup a with
 |none=>rw[e]at h;cases h
 |some o=>
  rw[e]at h;simp only[Fa]at h;obtain⟨g,b⟩:=h;cases d:o.data with
  |seq c n=>
   rw[d]at b;simp only[Fa,Rb]at b;exact⟨o,c,n,e,eq_of_beq g,d,b.1,YX b.2⟩
  |_=>simp_all
def AJ(a:Bool)(b:ab)(x:D):M D:=λc=>match x with
 | ϙ z=>J (ϒ$ if a then !TB (.str z) (b.map V.str)else TB (.str z) (b.map V.str)) c
 |_=>ϕ
section
variable{e:Ia}{f:Ev->M D}{x:Str}{p pos:Td}{ss:ab}
def j5(ss:ab):(ss.map V.str).all xi=E8:=by simp[xi]
def zz0(j:hD X.K a ss)(h:tF T X (Vd (AJ b ss) f) g H Q):HC (UO X.K b) (tF T X f) (tC$ ϖ a) g H Q:=by
 obtain⟨n,p,q,i,l,k⟩:=h;refine⟨n,p,q,i,l,k.bind λd r o v s u t m e c=>?_⟩;cases d with
 |str z=>rw[Na]at e;subst e;exact⟨a,ss.map V.str,rfl,ϓ$ ϓ j,rfl,j5 ss,Pb.here c m (by rw[Na])⟩
 |_=>exact c.elim
def ũ(m:Gl X x)(i:yE X.K X.mg x ss)(c:FE T X e f)(l:(x == ("__debug__" : Str))=J8:=by decide):FT T X (.Compare e [.In] [ϝ x p] pos)$ eT$ Vd (AJ J8 ss) f:=by
 obtain⟨a,n,j⟩:=i;intro b s st H Q I h;refine cK qP c (xN m n (v:=ϖ a) rfl l) rfl b s st H Q I$ zz0 j ?_;obtain⟨y,ρ,A,c,r,o⟩:=h;refine⟨y,ρ,A,c,r,o.bind λd B z v C d D w t u=>?_⟩;obtain⟨k,g,q⟩:=qM t u;exact⟨k,g,q.here w rfl⟩
end
noncomputable def uv(a:List$ wc × D)(k:wc):List$ wc × D:=a.filter λb=>decide$ b.1≠k
theorem XV{e:b'}{H:Hp}(k:wc):∀ {c:List$ wc × D} {us:List$ wc × V},jg T e H c us->jg T e H (uv c k) (sx us k)
 |[],_,h=>by unfold jg at h;cases h;exact Ϟ
 |p::c,_,h=>by
  cases h with
  |@cons _ q _ us a b=>
   have d:=XV k b;unfold uv sx at *;rw[Ye,Ye,a.1];split
   ·exact ϛ a d
   ·exact d
def cW:V->kv->Hp->VK->Prop:=λx c H Q=>∃ a b k v,x=ϖ a/\c=[kV k]/\H a=BD (Ϛ b)/\wm b k=BD v/\Q v (Sb H a$ Ϛ$ sx b k)
def x3:qw X "dict.pop" cW:=by
 rintro b s st H x vs v m Q I j i ⟨a,f,k,y,rfl,rfl,d,e,q⟩;cases j;obtain⟨u,rfl,h⟩:=i.one;exact ÿ I d h e (ϐ rfl) λn l c g=>⟨y,_,c,g,q⟩
def GA(x:D)(xs:lv):M D:=λb=>match x,xs with
 | O n,[y]=>(match tj y with
  |some k=>(match b[n]? with
   |some (ώ a)=>(match Cj a k with
    |some d=>J d (b.set n$ ώ$ uv a k)
    |none=>ϕ)
   |_=>ϕ)
  |none=>ϕ)
 |_,_=>ϕ
def Û:My T cW GA:=by
 intro E f H B x xs v vs Q r p q h;cases x with
 |ref n=>
  match xs with
  |[]=>exact h.elim
  |[y]=>
   unfold GA at h;cases b:tj y with
   |none=>simp[b]at h;exact h.elim
   |some k=>
    simp[b]at h;cases c:B[n]? with
    |none=>rw[c]at h;exact h.elim
    |some ob=>
     rw[c]at h;cases ob with
     |Ga s=>
      dsimp only at h;obtain⟨a,rfl,j,m,g,i⟩:=r.at p c;obtain⟨w,z,rfl,t,l⟩:=q;rw[pb]at l;subst l;obtain rfl:=ED t b;rcases xC i k with⟨e,_⟩|⟨C,o,e,u,A⟩
      ·rw[e]at h;exact h.elim
      ·rw[e]at h;have ex:qd f H f$ Sb H a$ Ϛ$ sx m k:=Aq (za j) g (λD z=>by cases z) (λD D z=>by cases z);have d:=r.write (ob:=ώ _) j ⟨_,bf,jg.mono ex$ XV k i⟩;exact⟨a,m,k,o,rfl,rfl,g,u,h f o _ d.1 d.2$ Na.mono d.1 _ _ A⟩
     |qa _=>exact h.elim
     |yb _ _=>exact h.elim
     |Yb _=>exact h.elim
     |ue _=>exact h.elim
  |_::_::_=>trivial
 |_=>trivial
def mkT{K:ϗ}(X:K.In h)(G:h.Ns mainGlobals c)(a:W.nsIn K mainGlobals x=BD (BD$ Db C))(b:OK K C d=E8):yE K c x d:=⟨C,W.mg_of X G a,hD.of b⟩
section
variable{prog:Ba}{w:Ra}{A:Ma}{E:Value->Shared->Prop}{l q I S:Addr}{n:Nat}{P:Nat->Value->Prop}{R:Do->Shared->Prop}{Q:Value->Shared->Prop}
def δ(G:Nat->Value->Int->Shared->Prop)(hh:A.handled=A5)(X:l≠I)(E:S≠I)(a6:l≠S)
  (hl:∀ j d a s,G j d a s->∃ vs:em,vs.length=n/\(∀ j v,vs[j]?=BD v->P j v)/\s.heap.IsList l vs.toArray)
  (u:∀ j d a s y tk,G j d a s->(∀ b o,b≠I->b≠S->s.heap.get? b=BD o->y.get? b=BD o)->G j d a { s with heap:=y,toks:=tk })
  (a3:∀ j d a s v oI oS,G j d a s->P j v->s.heap.get? I=BD oI->s.heap.get? S=BD oS->(∀ v,oI.data≠.cell v)->(∀ v,oS.data≠.cell v)->
   wpAny (model prog w) A.in1 (call (Db q) [v]) (λx s'=>∃ k t,x=Jh k t/\s'.heap.get? I=BD oI/\s'.heap.get? S=BD oS/\G (j+1) (if k<a then v else d) (if k<a then k else a) s') (λF F=>False) s)
  (hR:∀ d a s,G n d a s->R (.ok$ .ret d) s) :
  ∀ r j s d a tb c,n - j=r->j<=n->G j d a s->s.heap.get? S=BD (rm "list" #[d,Jh a tb] c)->s.heap.IsListIter I l j->
   codeAny (model prog w) A (.builtin "min.loop" ⟨[Db I,Db q,Db S],[]⟩) R s:=by
 have a5:(toString "min"++toString ".loop" : String) = "min.loop":=by decide
 intro r;induction r with
 |zero=>
  intro j s d a tb c hr hj g ϊ hit;have V:j=n:=by lia
  obtain⟨vs,N,a1,ό⟩:=hl j d a s g;have M:vs.toArray.size=n:=(Ua ..).trans N;refine Lc Ih ?_;rw[Around.under_plainId ye _];show wpAny _ A.in1 (seqItems? (Db S) >>= _) _ _ _;refine aa$ ng ϊ rfl ?_;show wpAny _ A.in1 (tryCatch (pyNext$ Db I) _ >>= _) _ _ _;refine aa$ Ee ((Ij (prog:=prog) (w:=w) (A:=A.in1) hh I l X vs.toArray).done _ _ _ ⟨by rw[M,<-V];exact hit,ό⟩ λy a2 H=>?_);have m:∀ b o,b≠I->s.heap.get? b=BD o->y.get? b=BD o:=λb o n e=>H b o (by simpa using n) e;have C:=m S _ E ϊ;have s1:=Xb y S (Ge λF=>(#[]:Array Value));refine aa$ ah C rfl$ aa$ gp$ ga ?_;subst V;exact hR d a _ (u _ _ _ s _ _ g λb o n1 n2 e=>by rw[s1.2 b n2];exact m b o n1 e)
 |succ r ih=>
  intro j s d a tb c hr hj g ϊ hit;have K:j<n:=by lia
  obtain⟨vs,N,a1,ό⟩:=hl j d a s g;have M:vs.toArray.size=n:=(Ua ..).trans N;refine Lc Ih ?_;refine aa$ ng ϊ rfl ?_;refine aa$ Ee ((Ij (prog:=prog) (w:=w) (A:=A.in1) hh I l X vs.toArray).item j _ _ _ (by rw[M];exact K) ⟨hit,ό⟩ λv y a2 hP a0 H=>?_);have m:∀ b o,b≠I->s.heap.get? b=BD o->y.get? b=BD o:=λb o n e=>H b o (by simpa using n) e;have hv:P j v:=a1 j v (by simpa using hP);obtain⟨ϋ,Y,Z,L⟩:=id a0.1;have C:=m S _ E ϊ;refine aa$ Ee$ cc (gc (a3 j d a _ v ϋ _ (u _ _ _ s y a2 g λb o n1 n2 e=>m b o n1 e) hv Y C (λv z=>by rw[L]at z;cases z)$ λv z=>by cases z) (λx p he=>?_) λF F hF=>hF.elim);obtain⟨B,Q,rfl,T,D,g2⟩:=he;have W:p.heap.IsListIter I l$ j+1:=⟨ϋ,T,Z,L⟩
  refine aa$ Ee$ cc$ aa$ Mz (prog:=prog) (w:=w) (A:=A.in1) (P:=λ(i:Nat) v=>∃ t,v=Jh (if i=0 then B else a) t) (λi=>if i=0 then B else a) (λi v h=>h) 0 1 _ _ _ _ _ ⟨Q,rfl⟩ ⟨tb,rfl⟩ ?_;refine aa$ cc$ jd ?_;refine aa$ gp$ ga ?_;by_cases f:B<a
  ·have s1:=Xb p.heap S (Ge λF=>#[v,Jh B Q]);obtain⟨c2,a4⟩:∃ c2,(p.heap.update S$ Ge λF=>#[v,Jh B Q]).get? S=BD (rm "list" #[v,Jh B Q] c2):=⟨_,RJ D λF=>#[v,Jh B Q]⟩
   rw[ja f,ja f]at g2;simp only[f,decide_true,Dg,Nz,Ml];refine aa ?_;refine ah D rfl$ aa$ gp$ ga ⟨ae ye _,ih (j+1) _ v B Q c2 ⋯ K (u _ _ _ p _ _ g2 λb o n1 n2 e=>by rw[s1.2 b n2];exact e) a4 ⟨ϋ,(s1.2 I E.symm).trans T,Z,L⟩⟩
  ·rw[pa f,pa f]at g2;simp only[f,decide_false,Cf,Ml,Dg,Nz];refine aa$ gp ?_;exact ga ⟨ae ye _,ih (j+1) _ d a tb c ⋯ K (u _ _ _ p _ _ g2 λb o F F e=>e) D W⟩
def ś(ϋ:Shared->Prop)(G:Addr->Addr->Nat->Value->Int->Shared->Prop)(hh:A.handled=A5)(g0:ϋ s){vs:em}(a4:vs.length=n)(a3:∀ j v,vs[j]?=BD v->P j v)(f:s.heap.IsList l vs.toArray)(H:0<n)
  (V:∀ s h' tk,ϋ s->(∀ b o,s.heap.get? b=BD o->h'.get? b=BD o)->ϋ { s with heap:=h',toks:=tk })
  (first:∀ I S s1 v oI h,s.heap.objs.size<=I->s.heap.objs.size<=S->S≠I->(∃ s0,ϋ s0/\(∀ b o,b≠I->s0.heap.get? b=BD o->s1.heap.get? b=BD o)/\(s1={ s0 with heap:=s1.heap,toks:=s1.toks }))->P 0 v->s1.heap.get? I=BD oI->s1.heap.get? S=BD h->(∀ v,oI.data≠.cell v)->(∀ v,h.data≠.cell v)->
   wpAny (model prog w) A.in1 (call (Db q) [v]) (λx i=>∃ k t,x=Jh k t/\i.heap.get? I=BD oI/\i.heap.get? S=BD h/\G I S 1 v k i) (λJ J=>False) s1)
  (hl:∀ I S j c a s,G I S j c a s->∃ vs:em,vs.length=n/\(∀ j v,vs[j]?=BD v->P j v)/\s.heap.IsList l vs.toArray)
  (D:∀ I S j c a s h' tk,G I S j c a s->(∀ b o,b≠I->b≠S->s.heap.get? b=BD o->h'.get? b=BD o)->G I S j c a { s with heap:=h',toks:=tk })
  (N:∀ I S j c a s v oI h,G I S j c a s->P j v->s.heap.get? I=BD oI->s.heap.get? S=BD h->(∀ v,oI.data≠.cell v)->(∀ v,h.data≠.cell v)->
   wpAny (model prog w) A.in1 (call (Db q) [v]) (λx i=>∃ k t,x=Jh k t/\i.heap.get? I=BD oI/\i.heap.get? S=BD h/\G I S (j+1) (if k<a then v else c) (if k<a then k else a) i) (λJ J=>False) s)
  (hQ:∀ I S c a s,G I S n c a s->Q c s) :
  wpAny (model prog w) A (call (ϡ "min") [Db l] [(pr "key",Db q)]) Q E s:=by
 obtain⟨ol,a2,_⟩:=id f;have C:=xa a2;refine kmk_tree PySem.F.kind_min PySem.F.plain_min PySem.F.entry_min (kmk_min_key _ _)$ aa$ xy (rfl)$ aa$ ga$ aa$ Zh f$ aa$ Ft ?_$ xh _;have X:(s.heap.push { cls:=Vh "list_iterator",data:=ϩ #[Db l,Jh 0 0] }).objs.size=s.heap.objs.size+1:=LB ..;have B:=Aa C;have d:(s.heap.push { cls:=Vh "list_iterator",data:=ϩ #[Db l,Jh 0 0] }).objs.size≠s.heap.objs.size:=by rw[X];exact Pd$ Lb _
 have a0:l≠(s.heap.push { cls:=Vh "list_iterator",data:=ϩ #[Db l,Jh 0 0] }).objs.size:=by rw[X];exact Aa$ Mb C
 have r:s.heap.objs.size<=(s.heap.push { cls:=Vh "list_iterator",data:=ϩ #[Db l,Jh 0 0] }).objs.size:=by rw[X];exact zg _
 refine ga ⟨ae ye _,?_⟩;have gI:((s.heap.push { cls:=Vh "list_iterator",data:=ϩ #[Db l,Jh 0 0] }).push$ rm "list" #[] 0).get? s.heap.objs.size=BD { cls:=Vh "list_iterator",data:=ϩ #[Db l,Jh 0 0] }:=
  da _$ Ca _ rfl
 have gS:((s.heap.push { cls:=Vh "list_iterator",data:=ϩ #[Db l,Jh 0 0] }).push _).get? (s.heap.push { cls:=Vh "list_iterator",data:=ϩ #[Db l,Jh 0 0] }).objs.size=BD (rm "list" #[] 0):=Ca _ rfl;have y:∀ b o,s.heap.get? b=BD o->((s.heap.push { cls:=Vh "list_iterator",data:=ϩ #[Db l,Jh 0 0] }).push$ rm "list" #[] 0).get? b=BD o:=λb o e=>da _$ da _ e;generalize (s.heap.push { cls:=Vh "list_iterator",data:=ϩ #[Db l,Jh 0 0] }).objs.size=S at *;generalize ((s.heap.push { cls:=Vh "list_iterator",data:=ϩ #[Db l,Jh 0 0] }).push _)=hp at *;refine Lc Ih$ aa$ ng gS rfl$ aa$ Ee ((Ij (prog:=prog) (w:=w) (A:=A.in1) hh s.heap.objs.size l B vs.toArray).item 0 _ _ _ (by rw[((Ua ..).trans a4)];exact H) ⟨⟨_,gI,rfl,rfl⟩,f.at λo e=>y _ _ e⟩ λv h' a5 hP L Z=>?_);have u:=λb o n e=>Z b o (by simpa using n) e;obtain⟨M,ό,a1,K⟩:=id L.1;refine aa$ Ee$ cc (gc (first s.heap.objs.size S _ v M _ (va _) r d ⟨{ s with heap:=hp,toks:=s.toks },V s hp _ g0 y,λb o n e=>u b o n e,rfl⟩ (a3 0 v$ by simpa using hP) ό (u S _ d gS) (λv z=>by rw[K]at z;cases z)$ λv z=>by cases z) (λx m he=>?_) λJ J hF=>hF.elim);obtain⟨R,T,rfl,W,p,g2⟩:=he;have s1:=Xb m.heap S (Ge λJ=>#[v,Jh R T]);obtain⟨ϊ,Y⟩:∃ ϊ,(m.heap.update S _).get? S=BD (rm "list" #[v,Jh R T] ϊ):=⟨_,RJ p λJ=>#[v,Jh R T]⟩
 exact aa$ ah p rfl$ ga ⟨ae ye _,δ (G _ _) hh B d a0 (hl _ _) (D _ _) (N _ _) (λc a s g=>hQ _ _ c a s g) _ 1 _ v R T ϊ rfl H (D _ _ _ _ _ m _ _ g2 λb o n1 n2 e=>by rw[s1.2 b n2];exact e) Y ⟨M,(s1.2 _ d.symm).trans W,a1,K⟩⟩
end
noncomputable def zF(X:Cx)(A:Ma)(d:ab)(b:Str)(a:Scope)(q:Addr)(c:Value)(cl:List$ Str × Addr)(s₀:Shared)(H₀:Hp):Cx:=
 { X with A:=A.deeper (W.envX b a s₀.heap.objs.size q c cl),N:=d,s₀:=s₀,H₀:=H₀,env:=W.envX b a s₀.heap.objs.size q c cl,outer:=X.stack,stack:=W.envX b a s₀.heap.objs.size q c cl::X.stack,ex:=[],fn:=λe=>J8,de:=E8,pn:=[],xe:=λe e=>False }
noncomputable def VM(a:h8)(d:D)(b:Ev):Ev:=BD d::a.map λi=>(b[i]?).getD A5
noncomputable def EJ(a:h8)(v:V)(st:St):St:=BD v::a.map λi=>(st[i]?).getD A5
def L7 a(h:eh T b H ρ c)(e:Na T b H d v):eh T b H (VM a d ρ)$ EJ a v c:=by
 exact((mX a h).set 0 e)
section
variable{pins:List$ Addr × Obj}{st:St}{H:Hp}{s:Shared}{x:Str}{M':ab}{ix:h8}{scope:Scope}{A:Ma}{qual:Str}{q:Addr}{cd:Value}{v:V}{u:Value}
def ĕ(I:Xa X pins st H s)(L:Wj X x M' ix scope)(hx:scope.names.lookup x=BD .local)(hA:A.frames=BD X.stack)(M:A.handled=A5)(rv:Zc v u)(P:h'.Ns s.heap.objs.size m)(hm:m x=BD u)
  (E:∀ b o,s.heap.get? b=BD o->h'.get? b=BD o) :
  Xa (zF X A (x::M') qual scope q cd (Si X.env scope.names []) s H) [] (EJ ix v st) H { s with heap:=h',toks:=t' }:=by
 have f:∀ n c,(Si X.env scope.names []).lookup n=BD c->X.env.cells.lookup n=BD c:=λn c e=>rN X.env scope.names [] n c (λJ J q=>by simp at q) e;have r:=I.Cc.fresh$ va _;have t:∀ b:Addr,b ∉ (zF X A (x::M') qual scope q cd (Si X.env scope.names []) s H).ex:=λb z=>absurd (show b∈[]from z) ⋯;refine⟨⟨I.ok.mod,L.kind,rfl,rfl,va _,λa b c h1 h2=>I.ok.inj a b c (f a c h1)$ f b c h2,λa ha=>?_,λa c h=>(by cases h),λJ=>M,uq hA,ϓ ⟨rfl,rfl⟩,λb ό=>absurd ό$ t b,λb o e=>I.bs b o e,lb I.ok.Au I.sz,λb o e=>t b,λb ό=>absurd ό$ t b,I.stack,I.Dl⟩,
  rfl,I.bare,Un.kept E,⟨m,P,λi y C S T e3=>?_⟩,λa c e=>?_,r,λa c e=>I.bg a c$ f a c e,λp hp=>absurd (show p∈[]from hp) ⋯,I.Cc.kept E,?_⟩
 ·have G:scope.names.lookup a=BD Gc\/scope.names.lookup a=BD xb:=ha;rcases G with z|z
  ·exact absurd rfl$ aG L _$ ew z
  ·exact gG X.env scope.names [] a (ew z)$ lB I L _ (ew z) rfl
 ·cases i with
  |zero=>
   have g:BD x=BD y:=S;have d:BD (BD v)=BD (BD C):=T;cases g;cases d;exact⟨u,rv,ϐ ⟨hx,hm⟩⟩
  |succ j=>
   have g:M'[j]?=BD y:=S;have d:(ix.map λi=>(st[i]?).getD A5)[j]?=BD (BD C):=T;rw[Ta]at d;cases F:ix[j]? with
   |none=>rw[F]at d;cases d
   |some B=>
    rw[F]at d;have D:(st[B]?).getD A5=BD C:=Zb d;have W:st[B]?=BD (BD C):=by
     cases q:st[B]? with
     |none=>rw[q]at D;cases D
     |some o=>rw[q]at D;exact Eb BD D
    have Y:X.N[B]?=BD y:=by
     have z:=Eb (λl=>l[j]?) L.at_;simp only[Ta,F,g]at z;exact Zb z
    have q:=Vb.mp L.QV y$ za g;simp only[Fa,zf]at q;have kx:X.env.scope.names.lookup y=BD Gc\/X.env.scope.names.lookup y=BD xb:=by
     all_goals simp_all
    have R:scope.names.lookup y=BD xb:=eq_of_beq q.2;obtain⟨m0,a0,ϋ⟩:=I.loc;obtain⟨u2,ru,lu⟩:=ϋ B y C Y W (by rcases kx with z|z;exact ϓ$ ϐ z;exact ϓ$ ϓ z);refine⟨u2,ru,ϓ ⟨ϓ R,?_⟩⟩;rcases lu with⟨z,_⟩|⟨_,c,Z,zc⟩
    ·rcases kx with k|k
     ·rw[show X.env.kindOf y=X.env.scope.names.lookup y from rfl,k]at z;cases z
     ·rw[show X.env.kindOf y=X.env.scope.names.lookup y from rfl,k]at z;cases z
    ·obtain⟨V,w⟩:=gG X.env scope.names [] y (ew R) (lB I L _ (ew R) rfl);have ϊ:=f y V w;rw[Z]at ϊ;cases ϊ;obtain⟨o,Q,K⟩:=zc;exact⟨c,w,o,E _ _ Q,K⟩
 ·obtain⟨v,o,Q,K⟩:=I.cell a c (f a c e);exact⟨v,o,E _ _ Q,K⟩
 ·have z:=Eb List.length L.at_;simp[EJ,zF];simpa using z
def v9(I:Xa X pins st H s)(L:Wj X x M' ix scope)(R:scope.names.lookup x=BD .local)(K:A.frames=BD X.stack)(p:A.handled=A5)(n:A.depth<recursionLimit)
  (N:s.heap.get? q=BD (ϳ d qual a c scope (Si X.env scope.names []) E k h)) (l:s.heap.CodeRec (Db k) qual)
  (f:bindArgs (W.kla_fn d qual a c scope (Si X.env scope.names []) E (Db k) h) ⟨[u],[]⟩=pure [(x,u)]) (m:scope.isCoroutine=J8) (i:scope.isGenerator=J8) (T:Zc v u)
  (M:PE (zF X A (x::M') qual scope q (Db k) (Si X.env scope.names []) s H) c t) (P:t (EJ ix v st) H Q) :
  wpAny (model X.prog X.w) A (call (Db q) [u]) (λr F=>CE X.stack X.prog X.w H s Q r F) (λD D=>False) s:=by
 refine fj$ W.kla_callFunE n N rfl m i rfl l ?_;rw[f];refine ga$ gk (aG L) (λy S=>?_) (λD B j=>⟨?_,?_⟩) L.kind
 ·have e:y=(x,u):=by simpa using S
  simp_all
 ·exact(I.nolimit).fresh _ j
 ·have g:=λb o e=>j.extBut b o (Aa$ xa e)$ da _ e;refine W.kla_codeExpr (gc (M [] _ _ H Q (ĕ I L R K p T B ⋯ g) P) (λV F z=>?_) λD D z=>z.elim);obtain⟨ϊ,G,ό,C,ϋ⟩:=z;exact⟨ϊ,G,ό.os,ό.bare,ό.base,ό.Cc,C,ϋ⟩
end
noncomputable def NF(K:ϗ)(c P:Addr):Bool:=match K.lookup c with
 |some o=>(match o.cls,o.data with
  | Vh n,ϩ a=>n == "code" && (match (a[11]?:Option Value)with|some (Db p)=>p == P|_=>J8) && (match a.getD 11 Fc with | Db p=>p == P|_=>J8) && (match a.getD 18 Fc with | .str _ _=>E8|_=>J8) &&
   (match a.getD 7 Fc with | Jh _ _=>E8|_=>J8) && (match a.getD 9 Fc with | Rg _=>E8|_=>J8) && (match a.getD 10 Fc with | Jh _ _=>E8|_=>J8) && (c != P)
  |_,_=>J8)
 |none=>J8
set_option tactic.hygienic true in
def A2{K:ϗ}(X:K.In h)(e:NF K c P=E8):W.CodeHd h c P:=by
 unfold NF at e;split at e
 ·next o v=>
  split at e
  ·next n vs t u=>
   simp only[Fa]at e;obtain⟨⟨⟨⟨⟨⟨⟨j,a⟩,b⟩,d⟩,f⟩,g⟩,i⟩,k⟩:=e;split at a;case h_2=>cases a
   next G l=>
   split at b;case h_2=>cases b
   next H m=>
   split at d;case h_2=>cases d
   next z D p=>
   split at f;case h_2=>cases f
   next A E q=>
   split at g;case h_2=>cases g
   next B r=>
   split at i;case h_2=>cases i
   next C F s=>
   have x:=eq_of_beq a;have y:=eq_of_beq b;subst x;subst y;have w:=eq_of_beq j;subst w;exact⟨o,vs,z,D,A,E,B,C,F,X _ _ v,t,u,l,m,p,q,r,s,by simpa using k⟩
  ·cases e
 ·cases e
def zt3{st}(I:Xa X i st H s)(h:H P=BD (.vl ps))(x:sm P s.heap h')(m:s.heap.objs.size<=f)(M:f<h'.objs.size)
  (p:wv d f h') (r:h'.get? P=BD (W.tabObj$ ps++a)) :
  Xa X i st (Sb (Sb H P$ .vl$ ps++a) f$ Ϧ$ wv d f) { s with heap:=h',toks:=tk }:=by
 have j:=I.Cc.fresh m;have B:f≠P:=λz=>by rw[z,h]at j;cases j
 have A:∀ b,H b=A5->b≠P:=λb n z=>by rw[z,h]at n;cases n
 have w:∀ b u,H b=BD u->b≠P->Sb (Sb H P$ .vl$ ps++a) f (Ϧ$ wv d f) b=BD u:=λb u e n=>by
  rw[ud$ zm e j,ud n];exact e
 have ϋ:Sb (Sb H P$ .vl$ ps++a) f (Ϧ$ wv d f) P=BD (.vl$ ps++a):=by rw[ud B.symm,bf]
 refine I.un ⟨λb o e n J J=>x b o (A b n) e,λb o e n J J=>⟨o.slots,x b o (A b n) e⟩,λb o e n J=>?_,λb o e J=>?_,λb xs e=>w b _ e (λz=>by rw[z,h]at e;cases e),λb o u e=>w b _ e (λz=>by rw[z,h]at e;cases e),λb Q e=>?_⟩ λb u e=>?_
 ·have:b≠f:=λz=>by subst z;exact absurd (xa e)$ FP.mpr m
  rw[ud this,ud$ A b n];exact n
 ·by_cases g:b=P
  ·subst g;exact⟨_,r⟩
  ·exact⟨o,x b o g e⟩
 ·by_cases g:b=P
  ·subst g;rw[h]at e;cases e;exact⟨a,ϋ⟩
  ·exact⟨#[],by rw[Array.append_empty];exact w b _ e g⟩
 ·by_cases l:b=f
  ·subst l;rw[bf]at e;cases e;obtain⟨o,vs,t,D,ό,K⟩:=p;exact⟨⟨o,vs,t,D,ό,K⟩,⟨o,D⟩,λa1 a2 ⟨N,C,t',E,F,G⟩ k=>⟨N,C,t',k _ E,F,G⟩⟩
  ·rw[ud l]at e;by_cases g:b=P
   ·subst g;rw[bf]at e;cases e;exact r
   ·rw[ud g]at e;refine(I.Cc b u e).Aj (λc v L q=>x c v ?_ q) (λc q=>w c _ q (λz=>by rw[z,h]at q;cases q)) λc xs q=>w c _ q (λz=>by rw[z,h]at q;cases q);rcases L with z|z
    ·rw[z];exact g
    ·intro y;rw[y,h]at z;cases z
section
variable{pins:List$ Addr × Obj}{st:St}{H:Hp}{s:Shared}{μ:b'}{σ:Ea}{x:Str}{M':ab}{ix:h8}{scope:Scope}{params:Arguments}{body:Ia}{pos:Td}{c:Addr}{t:Tab}
structure Py(T:Tb)(X:Cx)(t:Tab)(c:Addr)(pos:Td):Prop where
 mem:t∈T.tx.ro
 inj:∀ t'∈T.tx.ro,t'.P=t.P->t'=t
 code:X.env.code=Db c
 hd:NF X.K c t.P=E8
 line:t.line=pos.line
 col:t.col=pos.col
 qual:t.qual=X.env.qual++"<lambda>"
 bm:X.mg "__builtins__" = BD (Db T.tx.bm)
 bb:T.tx.bm≠builtinsNs
def F3(I:Xa X pins st H s)(L:Wj X x M' ix scope)(r:Yc T μ H σ)(g:Py T X t c pos)(M:defaultsOf params X.env=([],[])) :
  wpAny (model X.prog X.w) X.A (Qb (.Lambda params body scope pos) X.env) (λv s'=>∃ q d i B,v=Db q/\Xa X ((q,ϳ "<lambda>" t.qual params body scope (Si X.env scope.names []) ((X.mg "__name__").getD Fc) d i)::pins) st B s'/\qd μ H μ B/\Yc T μ B σ/\d ∉ μ/\B d=BD (Ϧ$ wv t.qual d)) X.xe s:=by
 obtain⟨⟨b2,b4,ϊ⟩,S,ps,E,a8⟩:=r.tb t g.mem;have j:s.heap.get? t.P=BD _:=I.Cc _ _ E;have l:s.heap.Ns mainGlobals X.mg:=I.ok.mod.glob.keeps I.bk;have a6:mainGlobals≠t.P:=λz=>by
  obtain⟨o,es,ep,e,hd,_⟩:=l;rw[z,j]at e;cases e;cases hd
 obtain⟨_,⟨ob,o1,o2,o3,o4⟩,_⟩:=I.Cc _ _ ϊ;have G:T.tx.bm≠t.P:=λz=>by rw[z,j]at o1;cases o1;cases o2
 have V:T.tx.bm≠mainGlobals:=λz=>by
  obtain⟨o,es,ep,e,hd,_⟩:=l
  simp_all
 have hB:s.heap.BuiltinsAt X.mg t.P:=⟨T.tx.bm,ob,g.bm,g.bb,V,G,o1,o2,o3,o4⟩
 have K:=nO X.env scope$ lB I L;have C:W.CodeHd s.heap c t.P:=(A2 I.ok.mod.dz g.hd).keeps I.bk;have f:∀ {h':Heap} {y:Nat} {B:Hp} {o:Obj},Xa X pins st B { s with heap:=h',toks:=y }->o.isFreed=J8->(∀ v,o.data≠.cell v)->Xa X ((h'.objs.size,o)::pins) st B { s with heap:=h'.push o,toks:=y }:=fun {h' y B o} ό hf hc=>by
  have J2:=ό.kept (h':=h'.push o) (t':=y) λb u e=>da _ e;refine J2.ui λp m=>?_;rcases Da.mp m with rfl|m
  ·exact⟨Ca _ hf,ό.Cc.fresh$ va _,Pd ό.lt,ό.uF$ va _,hc⟩
  ·exact J2.pin p$ Va _ m
 refine W.kla_eval M ?_;rw[<-g.qual];rcases a8 with rfl|⟨c1,rfl,Y,Z⟩
 ·refine W.kla_makeFunction K I.ok.glob l g.code C j trivial rfl a6 hB λd i h' y hx N a7 ϋ a9=>?_;have a0:wv t.qual d h':=by
   obtain⟨c2,o,vs,tt,e,h1,h2,h3⟩:=ϋ;cases e;exact⟨o,vs,tt,h1,h2,h3⟩
  have ό:=zt3 (tk:=y) I E hx N a7 a0 a9;have k:H d=A5:=I.Cc.fresh N;have b0:d≠t.P:=λz=>by rw[z,E]at k;cases k
  have D:d ∉ μ:=λz=>by obtain⟨u,R,_⟩:=r.mem z;rw[k]at R;cases R
  have F:∀ b u,H b=BD u->b≠t.P->Sb (Sb H t.P$ .vl$ #[]++#[Bc pos.line,Bc pos.col,Db d]) d (Ϧ$ wv t.qual d) b=BD u:=λb u e n=>by
   rw[ud$ zm e k,ud n];exact e
  have uP:Sb (Sb H t.P$ .vl$ #[]++#[Bc pos.line,Bc pos.col,Db d]) d (Ϧ$ wv t.qual d) t.P=BD (.vl$ #[]++#[Bc pos.line,Bc pos.col,Db d]):=by rw[ud b0.symm,bf]
  have uc:Sb (Sb H t.P$ .vl$ #[]++#[Bc pos.line,Bc pos.col,Db d]) d _ d=BD (Ϧ$ wv t.qual d):=bf;have e:qd μ H μ$ Sb (Sb H t.P$ .vl$ #[]++#[Bc pos.line,Bc pos.col,Db d]) d$ Ϧ$ wv t.qual d:=by
   refine⟨⟨[],by simp⟩,λp xs h=>F p _ h (λz=>by rw[z,E]at h;cases h),λp o u h=>F p _ h (λz=>by rw[z,E]at h;cases h),λp o h n=>⟨?_,n⟩⟩;by_cases m:p=t.P
   ·subst m;rw[E]at h;cases h;exact⟨_,uP,ϓ$ ϓ ⟨_,_,rfl,rfl⟩⟩
   ·exact⟨o,F p o h m,ϐ rfl⟩
  refine⟨_,d,i,_,rfl,f ό rfl (λv z=>by cases z),e,r.keep e (λa ha=>?_) λt' Q=>?_,D,uc⟩
  ·obtain⟨u,R,_⟩:=r.mem ha;rw[R];exact F a u R λz=>S ⋯
  ·obtain⟨⟨a1,b1,a2⟩,a3,qs,a4,a5⟩:=r.tb t' Q;refine⟨⟨a1,b1,F _ _ a2 G⟩,a3,?_⟩;by_cases m:t'.P=t.P
   ·have et:=g.inj t' Q m;subst et;exact⟨_,uP,ϓ ⟨d,by rw[g.line,g.col];rfl,D,uc⟩⟩
   ·refine⟨qs,F _ _ a4 m,a5.imp id λ⟨c3,z1,z2,z3⟩=>⟨c3,z1,z2,F _ _ z3 (λz=>by rw[z,E]at z3;cases z3)⟩⟩
 ·refine W.kla_makeFunctionHit (cv:=Db c1) K I.ok.glob l g.code C j ?_ ?_ hB λi h' y hk b3=>?_
  ·exact trivial
  ·rw[g.line,g.col];simp[codeAmong,Bc]
  ·have ό:=I.kept (h':=h') (t':=y) hk;exact⟨_,c1,i,H,rfl,f ό rfl (λv z=>by cases z),ϭ _ _,r,Y,Z⟩
end
noncomputable def Rw(a:Ev->M D)(rest:Ev):lv->D->Int->M D
 |[],b,_=>ret b
 |d::ds,b,c=>Kc (Vt$ a$ BD d::rest) λk=>match k with
  | U k=>if k<c then Rw a rest ds d k else Rw a rest ds b c
  |_=>Ab
noncomputable def Tz(a:Ev->M D)(rest:Ev)(b:lv):M D:=match b with
 |[ύ (x::xs)]=>Kc (Vt$ a$ BD x::rest) λk=>match k with
  | U k=>Rw a rest xs x k
  |_=>Ab
 |_=>Ab
noncomputable def LG(d:h8)(b:Ev->M D)(c:Ev->M (lv)):Ev->M D:=λa=>Kc (c a)$ Tz b (d.map λi=>(a[i]?).getD A5)
def DT{st}(I:Xa X a st H s)(k:∀ b o,b≠i->b≠j->s.heap.get? b=BD o->h'.get? b=BD o)(f:Nk X a H i)(g:Nk X a H j):Xa X a st H { s with heap:=h',toks:=t' }:=by
 have A:∀ b u,H b=BD u->b≠i/\b≠j:=λb u e=>⟨(λz=>by rw[z,f.1]at e;cases e),(λz=>by rw[z,g.1]at e;cases e)⟩
 have l:∀ {b:Addr},b ∉ [i,j]->b≠i/\b≠j:=fun {b} h=>⟨λz=>h (by simp[z]),λz=>h (by simp[z])⟩
 refine I.step (λb w=>?_) (λb o c c d e c=>k b o (l d).1 (l d).2 e) (λb o c c d e c=>⟨o.slots,k b o (l d).1 (l d).2 e⟩) (λc c c c n=>n)
  (λb o d e=>⟨o,k b o (l d).1 (l d).2 e⟩) (λc c e=>e) (λc c c e=>e) (λb ps e=>⟨#[],by rw[e];simp⟩) (λm x=>?_) (λb u e=>?_) I.bare
 ·have e:b=i\/b=j:=by simpa using w
  rcases e with rfl|rfl
  ·exact⟨f.2.2.2.1,f.2.1,f.2.2.2.2.1,f.2.2.2.2.2⟩
  ·exact⟨g.2.2.2.1,g.2.1,g.2.2.2.2.1,g.2.2.2.2.2⟩
 ·obtain⟨o,t,p,y,r⟩:=x;exact⟨o,t,p,k _ o (Gd f.2.1) (Gd g.2.1) y,r⟩
 ·refine(I.Cc b u e).Aj (λc v d q=>?_) (λc q=>q) λc c q=>q;rcases d with z|z;all_goals simp_all
def lU
  (ϊ:Md (k+2) X.A) (L:Wj X x M' ix f) (hx:f.names.lookup x=BD .local) (Lm:Py T X t c b3) (hg:Gl X "min") (hm:X.mg "min" = A5)
  (c5:defaultsOf l X.env=([],[])) (d5:f.isCoroutine=J8) (c6:f.isGenerator=J8)
  (b8:∀ cl pm cd ϋ u,bindArgs (W.kla_fn "<lambda>" t.qual l F f cl pm cd ϋ) ⟨[u],[]⟩=pure [(x,u)])
  (ha:FA T X [e] fs)
  (hb:∀ A q cd b4 c2,Md k (A.deeper$ W.envX t.qual f b4.heap.objs.size q cd$ Si X.env f.names [])->FE T (zF X A (x::M') t.qual f q cd (Si X.env f.names []) b4 c2) F fe)
  (he:Dc a6 (wa [e] X.env)=(J8,Qb e X.env)::Dc a6 (wa [] X.env):=by rfl)
  (b0:(Dc a6$ wa [e] X.env).any (·.1)=J8:=by rfl) :
  FE T X (Ϡ (ϝ "min" p) [e] [⟨BD "key",.Lambda l F f b3,kp⟩] a6)$ LG ix fe fs:=by
 intro m s st H Q I h;refine Le$ Ny I hg hm (show bootBuiltins "min" = BD (ϡ "min")from rfl) ?_;obtain⟨μ,ρ,σ,hE,hr,hp⟩:=h;refine callWith_kw (Bd (ha a6 m s st H (λvs H1=>∃ K a9 ds,qd μ H K H1/\Yc T K H1 a9/\pb T K H1 ds vs/\Pb T (XE X st) (Na T) K H1 (Tz fe (ix.map λi=>(ρ[i]?).getD A5) ds a9) Q) I ⟨μ,ρ,σ,hE,hr,hp.bind λds a9 K vs H1 J e1 r1 q1 p1=>⟨K,a9,ds,e1,r1,q1,p1⟩⟩) λus s1 ⟨vs,H1,I1,rv,K,a9,ds,e1,r1,q1,p1⟩=>kws_cons (Bd (F3 I1 L r1 Lm c5) λlv s2 ⟨q,c',ϋ,H2,c9,I2,e2,r2,d2,d3⟩=>kws_nil ?_)) he b0;subst c9;show wpAny _ _ (call (ϡ "min") us [(pr "key",Db q)]) _ _ _;have d0:eh T K H2 ρ st:=(hE.mono e1).mono e2;generalize c0:(ix.map λi=>(ρ[i]?).getD A5)=rest at *;obtain⟨x0,xs,rfl⟩:∃ x0 xs,ds=[ύ$ x0::xs]:=by
  unfold Tz at p1;split at p1
  ·exact⟨_,_,rfl⟩
  ·exact p1.elim
 rw[pb]at q1;obtain⟨v0,rr,rfl,q2,q3⟩:=q1;rw[pb]at q3;subst q3;obtain⟨a,ws,rfl,c4,d1,d7⟩:=q2;obtain⟨u0,rfl,d9⟩:=ce.one rv;obtain rfl:u0=Db a:=d9;have b2:H2 a=BD (ϰ ws):=(e2.Oh _ _ d1 c4).1;have a5:pb T K H2 (x0::xs) ws:=pb.mono e2 _ _ d7;have a3:(x0::xs).length=ws.length:=a5.length;have qa:∀ {G:Hp} {Y:Shared} {pn:List$ Addr × Obj},Xa X pn st G Y->G a=BD (ϰ ws)->∃ Z:em,Z.length=ws.length/\(∀ (j:Nat) v,Z[j]?=BD v->∃ w,ws[j]?=BD w/\Zc w v)/\Y.heap.IsList a Z.toArray:=fun {G Y pn} ό z=>by
  obtain⟨_,Z,n,rv,ho⟩:=ό.Cc _ _ z;refine⟨Z,rv.length.symm,λj v hv=>?_,⟨_,ho,rfl,⟨_,rfl⟩⟩⟩;have hj:j<ws.length:=by rw[rv.length];exact(ba.mp hv).1
  obtain⟨u,hu,ru⟩:=rv.get (i:=j) (x:=ws[j]) (by simp[hj]);rw[hv]at hu;cases hu;exact⟨ws[j],by simp[hj],ru⟩
 have c8:∀ {E:b'} {G:Hp} {N:Ea} {Y:Shared} {d:D} {w:V} {v:Value} {I S:Addr} {oI oS:Obj} {kk:Int->M D},Xa X ((q,ϳ "<lambda>" t.qual l F f (Si X.env f.names []) ((X.mg "__name__").getD Fc) c' ϋ)::m) st G Y->qd K H2 E G->Yc T E G N->Na T E G d w->Zc w v->
   Nk X ((q,ϳ "<lambda>" t.qual l F f (Si X.env f.names []) ((X.mg "__name__").getD Fc) c' ϋ)::m) G I->Nk X ((q,ϳ "<lambda>" t.qual l F f (Si X.env f.names []) ((X.mg "__name__").getD Fc) c' ϋ)::m) G S->
   Y.heap.get? I=BD oI->Y.heap.get? S=BD oS->(∀ v,oI.data≠.cell v)->(∀ v,oS.data≠.cell v)->
   Pb T (XE X st) (Na T) E G (Kc (Vt$ fe$ BD d::rest) (λk=>match k with | U k=>kk k|_=>Ab) N) Q->
   wpAny (model X.prog X.w) X.A.in1 (call (Db q) [v]) (λy a8=>∃ k t',y=Jh k t'/\a8.heap.get? I=BD oI/\a8.heap.get? S=BD oS/\∃ r C B,Xa X ((q,ϳ "<lambda>" t.qual l F f (Si X.env f.names []) ((X.mg "__name__").getD Fc) c' ϋ)::m) st C a8/\qd E G r C/\Yc T r C B/\
    Nk X ((q,ϳ "<lambda>" t.qual l F f (Si X.env f.names []) ((X.mg "__name__").getD Fc) c' ϋ)::m) C I/\Nk X ((q,ϳ "<lambda>" t.qual l F f (Si X.env f.names []) ((X.mg "__name__").getD Fc) c' ϋ)::m) C S/\Pb T (XE X st) (Na T) r C (kk k B) Q) (λJ J=>False) Y:=by
  intro E G N Y d w v I S oI oS kk ό ex r' rd e0 fI fS gI gS cI cS po;generalize c7:ϳ "<lambda>" t.qual l F f (Si X.env f.names []) ((X.mg "__name__").getD Fc) c' ϋ=ob at *;have b9:Y.heap.CodeRec (Db c') t.qual:=by
   obtain⟨⟨o,e3,tt,h1,h2,h3⟩,_⟩:=ό.Cc _ _ (ex.Oh _ _ d3 d2).1;exact⟨c',o,e3,tt,rfl,h1,h2,h3⟩
  have hq:=(ό.pin (q,ob)$ Va _$ .head _).1;have J2:Xa X ((I,oI)::(S,oS)::(q,ob)::m) st G Y:=ό.ui λp hp=>by
   rcases Da.mp hp with rfl|hp
   ·exact⟨gI,fI.1,fI.2.1,fI.2.2.1,cI⟩
   ·rcases Da.mp hp with rfl|hp
    ·exact⟨gS,fS.1,fS.2.1,fS.2.2.1,cS⟩
    ·exact ό.pin p$ Va _ hp
  have hd:X.A.in1.handled=A5:=ϊ.hd;refine gc (v9 (A:=X.A.in1) (t:=tF T _ fe) (v:=w) (Q:=λy C=>∃ k r B,y=Ϣ k/\qd E G r C/\Yc T r C B/\Pb T (XE X st) (Na T) r C (kk k B) Q) J2 L hx ό.ok.frames hd (Md.in1 ϊ).depth (by rw[<-c7]at hq;exact hq) b9 (b8 _ _ _ _ _) d5 c6 e0 (hb _ _ _ _ _$ (Md.in1 ϊ).deeper _) ⟨E,VM ix d ρ,N,L7 ix (d0.mono ex) rd,r',?_⟩) (λy a8 d4=>?_) λJ J z=>z
  ·unfold VM;rw[c0];refine po.Iu λy B r g C J b5 c1 d8 b1=>?_;cases y with
   |int k=>
    exact⟨k,r,B,d8,b5,c1,b1⟩
   |_=>exact b1.elim
  ·obtain⟨yv,C,J3,ry,k,r,B,rfl,b5,c1,b1⟩:=J2.after d4;obtain⟨t',rfl⟩:=ry;have pI:=J3.pin (I,oI)$ Va _$ .head _;have pS:=J3.pin (S,oS)$ Va _$ .tail _$ .head _;have J4:Xa X ((q,ob)::m) st C a8:=J3.ui λp hp=>J3.pin p$ Va _$ .tail _$ .tail _ hp;exact⟨k,t',rfl,pI.1,pS.1,r,C,B,J4,b5,c1,⟨pI.2.1,fI.2⟩,⟨pS.2.1,fS.2⟩,b1⟩
 obtain⟨Z,hn,hP,d6⟩:=qa I2 b2;generalize c7:ϳ "<lambda>" t.qual l F f (Si X.env f.names []) ((X.mg "__name__").getD Fc) c' ϋ=ob at *;refine ś (n:=ws.length) (P:=λj v=>∃ w,ws[j]?=BD w/\Zc w v) (λY=>Xa X ((q,ob)::m) st H2 Y)
  (λI S j vb kb Y=>Nk X ((q,ob)::m) H2 I/\Nk X ((q,ob)::m) H2 S/\∃ E G N b wb,Xa X ((q,ob)::m) st G Y/\qd K H2 E G/\Yc T E G N/\Na T E G b wb/\Zc wb vb/\Nk X ((q,ob)::m) G I/\Nk X ((q,ob)::m) G S/\Pb T (XE X st) (Na T) E G (Rw fe rest ((x0::xs).drop j) b kb N) Q)
  ϊ.hd I2 hn hP d6 (by rw[<-a3];simp) (λs0 h' tk g k=>g.kept k) ?_ ?_ ?_ ?_ ?_
 ·
  intro I S s3 v oI oS hI hS e5 ⟨s0,g0,hk,es⟩ ⟨w,hw,a7⟩ gI gS cI cS;have fI:Nk X ((q,ob)::m) H2 I:=I2.Jm hI$ I2.Cc.fresh hI;have fS:Nk X ((q,ob)::m) H2 S:=I2.Jm hS$ I2.Cc.fresh hS;have ό:Xa X ((q,ob)::m) st H2 s3:=by
   rw[es];exact DT g0 (λb o n J e=>hk b o n e) fI fS
  have rd:∃ w',ws[0]?=BD w'/\Na T K H2 x0 w':=a5.get (i:=0) rfl;obtain⟨w',a4,rd⟩:=rd;rw[hw]at a4;cases a4;refine gc (c8 (kk:=λk=>Rw fe rest xs x0 k) ό (ϭ _ _) r2 rd a7 fI fS gI gS cI cS$ Pb.mono e2 p1) (λy s4 z=>?_) λJ J z=>z;obtain⟨k,t',rfl,b6,b7,r,C,B,J4,e4,r4,f1,f2,p4⟩:=z;exact⟨k,t',rfl,b6,b7,fI,fS,r,C,B,x0,w,J4,e4,r4,Na.mono e4 _ _ rd,a7,f1,f2,p4⟩
 ·intro I S j vb kb Y ⟨_,_,E,G,N,b,wb,ό,ex,r',rb,a0,f1,f2,p'⟩;exact qa ό (ex.Oh _ _ b2 c4).1
 ·intro I S j vb kb Y h' tk ⟨a1,a2,E,G,N,b,wb,ό,ex,r',rb,a0,f1,f2,p'⟩ k;exact⟨a1,a2,E,G,N,b,wb,DT ό k f1 f2,ex,r',rb,a0,f1,f2,p'⟩
 ·intro I S j vb kb Y v oI oS ⟨a1,a2,E,G,N,b,wb,ό,ex,r',rb,a0,f1,f2,p'⟩ ⟨w,hw,a7⟩ gI gS cI cS;have hj:j<(x0::xs).length:=by rw[a3];exact(ba.mp hw).1
  obtain⟨w',a4,rd⟩:=a5.get (i:=j) (d:=(x0::xs)[j]) (by rw[Bb hj]);rw[hw]at a4;cases a4;rw[fh hj]at p';generalize (x0::xs)[j]=d at *;generalize e6:(x0::xs).drop (j+1)=c3 at *;refine gc (c8 (kk:=λk=>if k<kb then Rw fe rest c3 d k else Rw fe rest c3 b kb) ό ex r' (Na.mono ex _ _ rd) a7 f1 f2 gI gS cI cS p') (λy s4 z=>?_) λJ J z=>z;obtain⟨k,t',rfl,b6,b7,r,C,B,J4,e4,r4,f3,f4,p4⟩:=z;refine⟨k,t',rfl,b6,b7,a1,a2,r,C,B,?_⟩;by_cases hk:k<kb
  ·rw[ja hk]at p4;rw[ja hk,ja hk];exact⟨d,w,J4,ex.trans e4,r4,Na.mono (ex.trans e4) _ _ rd,a7,f3,f4,p4⟩
  ·rw[pa hk]at p4;rw[pa hk,pa hk];exact⟨b,wb,J4,ex.trans e4,r4,Na.mono e4 _ _ rb,a0,f3,f4,p4⟩
 ·intro I S vb kb Y ⟨_,_,E,G,N,b,wb,ό,ex,r',rb,a0,f1,f2,p'⟩;rw[<-a3,List.drop_length]at p';have q':Q wb G:=Pb.here (R:=Na T) p' r' rb;exact⟨wb,G,ό.ui (λp hp=>ό.pin p$ Va _$ .tail _ hp),a0,q'⟩
noncomputable def Dy(K:ϗ)(x:Str):Addr:=((W.tabIn K x).getD (0,0)).1
noncomputable def fx(K:ϗ)(x:Str):Addr:=((W.tabIn K x).getD (0,0)).2
noncomputable def pz(K:ϗ):Addr:=match W.nsIn K mainGlobals "__builtins__" with
 |some (BD (Db a))=>a
 |_=>0
theorem M2{K}(h:(W.tabIn K x).isSome=E8):W.tabIn K x=BD (Dy K x,fx K x):=by
 unfold Dy fx;cases e:W.tabIn K x with
 |none=>simp_all
 |some p=>rfl
def eP(K:ϗ)(xs:ab):Bool:=
 W.noTabs K && (match W.nsIn K mainGlobals "__builtins__" with
  |some (BD (Db a))=>(K.lookup a).isNone && (a != builtinsNs)
  |_=>J8) && xs.all λx=>(W.tabIn K x).isSome && NF K (Dy K x) (fx K x)
structure Ux(K:ϗ)(xs:ab):Prop where
 no:W.noTabs K=E8
 bm:W.nsIn K mainGlobals "__builtins__" = BD (BD (Db (pz K)))
 bk:K.lookup (pz K)=A5
 bb:pz K≠builtinsNs
 tab:∀ x∈xs,W.tabIn K x=BD (Dy K x,fx K x)
 hd:∀ x∈xs,NF K (Dy K x) (fx K x)=E8
set_option tactic.hygienic true in
def i0{K}{xs}(h:eP K xs=E8):Ux K xs:=by
 unfold eP at h;rw[Fa,Fa]at h;obtain⟨⟨f,b⟩,g⟩:=h;split at b
 ·next a d=>
  have c:pz K=a:=by unfold pz;rw[d]
  rw[Fa]at b;refine⟨f,by rw[c];exact d,by rw[c];exact Option.isNone_iff_eq_none.mp b.1,by rw[c];simpa using b.2,λx e=>?_,λx e=>?_⟩
  ·have z:=Vb.mp g x e;rw[Fa]at z;exact M2 z.1
  all_goals simp_all
 ·cases b
def yH(K:ϗ)(d:Str->Option Value)(x:Str)(e:Stmt)(c:ab):Prop:=
 ∃ f a,d x=BD (Db f)/\oH K x x e f a/\(∀ b:em,b.length=c.length->bindArgs a ⟨b,[]⟩=pure (c.zip b))/\a.code=Db (Dy K x)
def Q3{K:ϗ}{c xs}(X:K.In h)(G:h.Ns mainGlobals a)(i:kt K a x d c)(l:Ux K xs)(m:x∈xs):yH K a x d c:=by
 obtain⟨f,p,b,F,j⟩:=i;obtain⟨q,r,kV,g,s,o,e,ct,n,rfl,lk,k⟩:=F.ex;exact⟨f,_,b,F,j,W.law_code X G (l.tab x m) b (X _ _ lk) rfl⟩
def MQ{K}{st}(h:yH K i x st ps)(S:Ec N ps$ Kf st)
  (n:∀ f A b s H E,Md k (A.deeper$ rg x (Kf st) s.heap.objs.size f$ Db$ Dy K x)->Ek ⟨K,j,tx⟩ (vp (Kk P w) P w K i a N x (Kf st) f (Db$ Dy K x) A b s H E) (Nj st) g) :
  Ei ⟨K,j,tx⟩ P w i a (k+1) x ps$ Ch N.length g:=by
 obtain⟨f,t,p,F,c,o⟩:=h;obtain⟨u,v,kV,m,y,r,l,ct,q,rfl,lk,d⟩:=F.ex;have e:=o;subst e;exact⟨f,_,p,F.kp,c,GC lk d S$ n f⟩
set_option tactic.hygienic true in
def Ÿ{K}
  (KX:K.In f.heap) (a8:f.heap.Ns mainGlobals mg) (C:f.heap.Ns builtinsNs mb) (a4:∀ x:Str,x ≠ "__name__"->mb x=bootBuiltins x) (Y:f.heap.NoLimit) (hg:f.gens=#[])
  (I:f.heap.get? a=BD { cls:=Vh "list",data:=Ϩ vs.toArray }) (hi:rh vs p) (hl:p.length<=63) (hr:Md k dn)
  (hK:W.noTabs K=E8) (j:f.heap.get? tx.bm=BD ob) (ϊ:ob.cls=Vh "module") (a5:ob.dict=BD builtinsNs) (ϋ:ob.data=.plain) (a3:K.lookup tx.bm=A5)
  (T:∀ t∈tx.ro,∃ c,W.CodeHd f.heap c t.P/\f.heap.get? t.P=BD (W.tabObj #[]))
  (F:∀ base:Heap,gh P w K mg base (Kk P w) k fa fd [x] (Ro ⟨K,ca,tx⟩ 1 fn)) (N:∀ s u,Qe s fd ⟨[u],[]⟩ [(x,u)])
  (tr:∀ p:gV,p.length<=63->∃ σ,fn [ϫ p] []=J (ϒ E8) σ) :
  codeAny (model P w) dn (.call (Db fa) ⟨[Db a],[]⟩) (λr B=>r=.ok (.ret$ Rg E8)/\OldK f.heap B.heap/\B.os=f.os/\qh B.gens) f:=by
 have rv:=UF hi;have X:p.length<=sizeLine:=lb hl ⋯;have E:∀ L:Bool,(L=E8->K.lookup a=A5)->(L=J8->K.lookup a=BD { cls:=Vh "list",data:=Ϩ vs.toArray })->
   codeAny (model P w) dn (.call (Db fa) ⟨[Db a],[]⟩) (λr B=>r=.ok (.ret$ Rg E8)/\OldK f.heap B.heap/\B.os=f.os/\qh B.gens) f:=by
  intro L a6 a7;obtain⟨H,c1,c2,c3,Z⟩:∃ H:Hp,(∀ t∈tx.ro,H t.P=BD (.vl #[]))/\(H tx.bm=BD (ϧ ob _))/\(L=E8->H a=BD (ϧ { cls:=Vh "list",data:=Ϩ vs.toArray }$ ϰ$ p.map Ϣ))/\
    ∀ b u,H b=BD u->(u=.vl #[]/\∃ t∈tx.ro,b=t.P)\/(b=tx.bm/\u=ϧ ob _)\/(b=a/\L=E8/\u=ϧ { cls:=Vh "list",data:=Ϩ vs.toArray } (ϰ$ p.map Ϣ)):=by
   refine⟨λb=>if b=tx.bm then BD (ϧ ob$ Ϧ$ EQ tx.bm)else if b=a then (if L=E8 then BD (ϧ { cls:=Vh "list",data:=Ϩ vs.toArray }$ ϰ$ p.map Ϣ)else A5)else if b∈tx.ro.map (·.P)then BD (.vl #[])else A5,λt g=>?_,ja rfl,λh=>?_,λb u e=>?_⟩
   ·obtain⟨c,_,l⟩:=T t g;have n1:t.P≠tx.bm:=λz=>by rw[z,j]at l;cases l;cases ϊ
    have n2:t.P≠a:=λz=>by rw[z,I]at l;cases l
    dsimp only;rw[pa n1,pa n2,ja$ Ja.mpr ⟨t,g,rfl⟩]
   ·have n1:a≠tx.bm:=λz=>by rw[z,j]at I;cases I;cases ϋ
    dsimp only;rw[pa n1,ja rfl,ja h]
   ·dsimp only at e;split at e
    ·next a1=>cases e;exact ϓ$ ϐ ⟨a1,rfl⟩
    ·split at e
     ·next a2=>
      split at e
      ·next h=>cases e;exact ϓ$ ϓ ⟨a2,h,rfl⟩
      ·cases e
     ·split at e
      ·next hm=>cases e;obtain⟨t,g,rfl⟩:=Ja.mp hm;exact ϐ ⟨rfl,t,g,rfl⟩
      ·cases e
  have a9:Ph P w H f.heap:=λb u e=>by
   rcases Z b u e with⟨rfl,t,g,rfl⟩|⟨rfl,rfl⟩|⟨rfl,_,rfl⟩
   ·obtain⟨c,_,l⟩:=T t g;exact l
   ·exact⟨j,⟨ob,j,ϊ,a5,ϋ⟩,⟨ob,j⟩,λh1 h2 ⟨o,e1,G⟩ k=>⟨o,k _ e1,G⟩⟩
   ·exact⟨I,by rw[Oa];exact X,vs,_,rv,I⟩
  have i:∀ {b:Addr} {o:Obj},f.heap.get? b=BD o->H b=A5->(Bz f.heap H).get? b=BD o:=λe n=>zE8 e n;have b1:∀ {b:Addr} {o:Obj} {es:Array tu} {ep:Nat},f.heap.get? b=BD o->o.data=.dict es ep->H b=A5:=fun {b o es ep} e d=>by
   cases q:H b with
   |none=>rfl
   |some u=>
    rcases Z b u q with⟨_,t,g,rfl⟩|⟨rfl,_⟩|⟨rfl,_,_⟩
    ·obtain⟨c,_,l⟩:=T t g;rw[l]at e;cases e;cases d
    ·rw[j]at e;cases e;rw[ϋ]at d;cases d
    ·rw[I]at e;cases e;cases d
  have R:∀ {b:Addr} {m:Str->Option Value},f.heap.Ns b m->(Bz f.heap H).Ns b m:=fun {b m} ⟨o,es,ep,e,d,r⟩=>⟨o,es,ep,i e$ b1 e d,d,r⟩
  have a0:=λb o e=>i (KX b o e) (by
   cases q:H b with
   |none=>rfl
   |some u=>
    rcases Z b u q with⟨_,t,g,rfl⟩|⟨rfl,_⟩|⟨rfl,h,_⟩
    ·obtain⟨c,_,l⟩:=T t g;have G:=KX _ _ e;rw[l]at G;cases G;have h2:=Vb.mp hK (t.P,_)$ W.mem_of_lookupK e;exact absurd (show J8=E8 from h2) qb
    ·rw[a3]at e;cases e
    ·rw[a6 h]at e;cases e)
  have hM:Mod K mg$ Bz f.heap H:=⟨a0,R a8,⟨mb,R C,a4⟩,let ⟨mc,h1,h2⟩:=Y;⟨mc,R h1,h2⟩⟩
  have e0:Xq P w K mg (Bz f.heap H) dn [] f H:=⟨rfl,hM,λb o e=>zJ8 e,qG$ A6 _ _,trivial,λb C=>absurd (show b∈[]from C) ⋯,a9,.of_eq hg⟩
  have hS:NH K H a p:=by
   cases L with
   |true=>exact ϐ ⟨_,c3 rfl⟩
   |false=>exact ϓ ⟨_,vs.toArray,_,a7 rfl,rfl,rfl,rfl,by rw[Ua,hi.length];exact X,by simpa using rv⟩
  obtain⟨σ,ef⟩:=tr p hl;have b0:Ro ⟨K,ca,tx⟩ 1 fn [ϖ a] H (λv _=>v=Ϫ E8) λ_ _ _=>False:=by
   refine⟨[],[],[ϫ p],pb.cons (by rw[Na];exact⟨a,rfl,hS⟩) pb.nil,rfl,⟨rfl,On,λn o q=>by simp at q,λt g=>⟨⟨by simp,ob,c2⟩,by simp,#[],c1 t g,ϐ rfl⟩⟩,?_⟩;rw[ef];intro b3 v H' _ _ r;exact r
  refine xf ((F _).Ch dn [] f H _ [Db a] [ϖ a] _ _ hr e0 (N f$ Db a) (ϛ rfl Ϟ) b0) λr B h=>?_;cases r with
  |error e=>obtain⟨_,_,_,_,z⟩:=h;exact z.elim
  |ok f2=>
   cases f2 with
   |next=>exact ϲ h
   |brk=>exact ϲ h
   |cont=>exact ϲ h
   |ret u=>
    obtain⟨v,H',os,S,un,A,r',q⟩:=h;have q':v=Ϫ E8:=q;subst q';obtain rfl:u=Rg E8:=r';have ό:∀ b o,f.heap.get? b=BD o->(¬ ∃ t∈tx.ro,b=t.P)->B.heap.get? b=BD o:=λb o e n=>by
     cases q:H b with
     |none=>exact un.keep b o e q (by intro z;exact absurd (show b∈[]from z) ⋯) ⋯
     |some u=>
      rcases Z b u q with⟨_,z⟩|⟨rfl,rfl⟩|⟨rfl,_,rfl⟩
      ·exact absurd z n
      ·obtain⟨G,_⟩:=A _ _ (un.Ji _ _ _ q);rw[j]at e;cases e;exact G
      ·obtain⟨G,_⟩:=A _ _ (un.Ji _ _ _ q);rw[I]at e;cases e;exact G
    have y:∀ t∈tx.ro,∃ ps,B.heap.get? t.P=BD (W.tabObj ps):=λt g=>by
     obtain⟨b2,z⟩:=un.wj _ _ (c1 t g);exact⟨_,A _ _ z⟩
    refine⟨rfl,⟨λb o e=>?_,λb o e=>?_⟩,os,S⟩
    ·by_cases C:∃ t∈tx.ro,b=t.P
     ·obtain⟨t,g,rfl⟩:=C;obtain⟨c,hc,l⟩:=T t g;obtain⟨ps,Q⟩:=y t g;rw[l]at e;cases e;exact ϓ$ ϐ ⟨(hc.tab l).isCodeTable,rfl,#[],ps,rfl,by rw[Array.empty_append];exact Q⟩
     ·exact ϐ$ ό b o e C
    ·by_cases C:∃ t∈tx.ro,b=t.P
     ·obtain⟨t,g,rfl⟩:=C;obtain⟨ps,Q⟩:=y t g;exact⟨_,Q⟩
     ·exact⟨o,ό b o e C⟩
 cases hk:K.lookup a with
 |some o=>
  have e:=KX a o hk;rw[I]at e;cases e;exact E J8 (λh=>by cases h) λ_=>hk
 |none=>exact E E8 (λ_=>hk) λh=>by cases h
def B8{l:W.OpenLaw}{K:Params->ϗ} xs
  (hn:l.most=BD 63) (B:d.params.defaults=[]) (hr:Md k dn) (hY:∀ w h,H w h->(K w.params).In h)
  (hK:∀ w:Ra,eP (K w.params) xs=E8) (p:(xs.all λx=>((recsOf q).find? λe=>e.name == x).isSome)=E8)
  (F:∀ w v h,(K w.params).In h->h.Ns mainGlobals v->Ux (K w.params) xs->∃ I j,(∀ t∈j,∃ x∈xs,t.P=fx (K w.params) x)/\jO ⟨K w.params,I,⟨j,pz$ K w.params⟩⟩ l.prog w v k d.name [x] fn)
  (tr:∀ E:gV,E.length<=63->∃ σ,fn [ϫ E] []=J (ϒ E8) σ) :
  W.WalkO q i S H l.row.toRowW d [] (λf R=>PySem.call f R):=by
 refine Att.yp hn B λw ϋ Q v mb fa o pm cd a0 a R E G Y ho hd a2 C n c m hg=>?_;have r:=hY w _ Y;have TT:=i0$ hK w;obtain⟨I,j,hP,f0,a1,L,g3,g4⟩:=F w v _ r G.T.g TT;rw[C]at L;cases L;obtain⟨bm,ob,ϊ,b2,V,X,Z,b6⟩:=G.T.bmain;have ό:=W.mg_of r G.T.g TT.bm;rw[ϊ]at ό;cases ό;refine Ÿ r G.T.g G.T.b G.T.builtins G.T.nolimit hg n c m hr TT.no V X Z b6 TT.bk (λt ht=>?_) g4 (λs u=>.of_eq$ g3 [u] rfl) tr;obtain⟨y,N,e⟩:=hP t ht;have z:=Vb.mp p y N;obtain⟨d',A⟩:=ge.mp z;have:=W.tab_of G.T r A$ TT.tab y N;rw[e];exact⟨_,this.1,this.2⟩
def γ(h:(a.P == b.P)=J8):∀ t∈(⟨[a,b],f⟩:Tx).ro,∀ d∈(⟨[a,b],f⟩:Tx).ro,d.P=t.P->d=t:=by
 intro t g d c e;simp at g c;rcases g with rfl|rfl<;>rcases c with rfl|rfl;all_goals simp_all
def ww(x:D)(xs:lv):M D:=λa=>match x,xs with
 | O n,[y]=>(match We a n with
  |some b=>(match jf a y with
   |some zs=>if b.length+zs.length<=Og then J Ϝ (a.set n$ Ϗ$ b++zs)else ϕ
   |none=>ϕ)
  |none=>ϕ)
 |_,_=>ϕ
section
variable{T:Tb}
def R5:My T pT ww:=by
 intro E o H s x xs v vs Q r p q h;cases x with
 |ref n=>
  match xs with
  |[]=>cases h
  |[y]=>
   obtain⟨w,z,rfl,u,k⟩:=q;rw[pb]at k;subst k;unfold ww at h;cases c:We s n with
   |none=>simp[c]at h;exact h.elim
   |some A=>
    simp[c]at h;cases d:jf s y with
    |none=>simp only[d]at h;exact h.elim
    |some zs=>
     simp only[d]at h;by_cases e:A.length+zs.length<=Og
     ·rw[ja e]at h;obtain⟨a,vs,rfl,j,f,g⟩:=r.qa p c;obtain⟨b,l,rfl,t,i⟩:=r.ls u d;have m:=r.write (ob:=Ϗ _) j ⟨_,bf,by
       have ex:qd o H o$ Sb H a$ ϰ$ vs++l:=Aq (za j) f (λB z=>by cases z) (λB B z=>by cases z);exact pb.append (pb.mono ex _ _ g)$ pb.mono ex _ _ i⟩
      exact⟨a,b,vs,l,rfl,rfl,f,t,by rw[<-g.length,<-i.length];exact eB e,h _ _ _ m.1 m.2 (by rw[Na])⟩
     ·rw[pa e]at h;exact h.elim
  |_::_::_=>exact h.elim
 |_=>exact h.elim
end
section
variable{x y:Str}{p pos:Td}{ss:ab}
def bU(e:Gl X x)(b:yE T.K X.mg x ss)(d:(x == ("__debug__" : Str))=J8:=by decide):FE T X (ϝ x p)$ eC$ .gt ss:=by
 obtain⟨a,f,c⟩:=b;exact FD (xN e f (v:=ϖ a) rfl d) λg g=>by rw[Na];exact⟨a,rfl,c⟩
def Ei.alias(h:Ei T P w b a k x ps c)(e:b y=b x):Ei T P w b a k y ps c:=by
 obtain⟨f,d,g,i⟩:=h;exact⟨f,d,e.trans g,i⟩
end
section
variable{T:Tb}{μ μ':b'}{H H':Hp}{σ:Ea}{a:Addr}
mutual
theorem Na.chg(j:∀ b,b≠a->H' b=H b)(l:a∈μ)(m:∀ xs,H a≠BD (.db xs))(r:∀ o xs,H a≠BD (ϧ o$ ϰ xs)):∀ (d:D) (v:V),Na T μ H d v->Na T μ H' d v
 | Ϝ,v,h=>by simpa [Na]using h
 | ϒ b,v,h=>by simpa [Na]using h
 | U i,v,h=>by simpa [Na]using h
 | ϙ x,v,h=>by simpa [Na]using h
 | ϑ ds,v,h=>by
  rw[Na]at h ⊢;obtain⟨p,vs,g,e,k⟩:=h;exact⟨p,vs,g,by rw[j p (λz=>m _ (by rw[<-z];exact e))];exact e,pb.chg j l m r ds vs k⟩
 | ϫ ns,v,h=>by
  rw[Na]at h ⊢;obtain⟨p,g,e⟩:=h;refine⟨p,g,?_⟩;rcases e with⟨o,e⟩|e
  ·exact ϐ ⟨o,by rw[j p (λz=>r _ _ (by rw[<-z];exact e))];exact e⟩
  ·exact ϓ e
 | O n,v,h=>by rw[Na]at h ⊢;exact h
 | ύ ds,v,h=>by
  rw[Na]at h ⊢;obtain⟨p,vs,g,f,e,k⟩:=h;exact⟨p,vs,g,f,by rw[j p (λz=>f (by rw[z];exact l))];exact e,pb.chg j l m r ds vs k⟩
 | Ϭ ks ds,v,h=>by
  rw[Na]at h ⊢;obtain⟨p,vs,g,f,e,s,k⟩:=h;exact⟨p,vs,g,f,by unfold Rd at e ⊢;rw[j p (λz=>f (by rw[z];exact l))];exact e,s,pb.chg j l m r ds _ k⟩
 | Ϸ c ns ds,v,h=>by
  rw[Na]at h ⊢;obtain⟨p,y,vs,g,f,e,s,k⟩:=h;exact⟨p,y,vs,g,f,by rw[j p (λz=>f (by rw[z];exact l))];exact e,s,pb.chg j l m r ds _ k⟩
 | .Ys c,v,h=>by
  rw[Na]at h ⊢;obtain⟨p,w,g,f,e,k⟩:=h;refine⟨p,w,g,f,by rw[j p (λz=>f (by rw[z];exact l))];exact e,λn q=>?_⟩;obtain⟨t,A,u,B⟩:=k n q;exact⟨t,A,u,by rw[j t (λz=>u (by rw[z];exact l))];exact B⟩
 | .gt ss,v,h=>by rw[Na]at h ⊢;exact h
theorem pb.chg(i:∀ b,b≠a->H' b=H b)(g:a∈μ)(e:∀ xs,H a≠BD (.db xs))(f:∀ o xs,H a≠BD (ϧ o$ ϰ xs)):∀ (c:lv) (vs:kv),pb T μ H c vs->pb T μ H' c vs
 |[],vs,h=>by simpa [pb]using h
 |d::c,vs,h=>by
  rw[pb]at h ⊢;obtain⟨v,r,j,k,l⟩:=h;exact⟨v,r,j,Na.chg i g e f d v k,pb.chg i g e f c r l⟩
end
def OI(i:∀ b,b≠a->H' b=H b)(g:a∈μ)(e:∀ xs,H a≠BD (.db xs))(f:∀ o xs,H a≠BD (ϧ o$ ϰ xs)){xs}{d}(h:Paired (λ p q =>p.1=q.1/\Na T μ H p.2 q.2) xs d) :
  Paired (λ(p:c × D) (q:c × V)=>p.1=q.1/\Na T μ H' p.2 q.2) xs d:=L2.Paired.Dp h λp q z=>⟨z.1,Na.chg i g e f _ _ z.2⟩
theorem yo.chg(d:∀ b,b≠a->H' b=H b)(i:a∈μ)(f:∀ xs,H a≠Option.some (.db xs))(g:∀ o xs,H a≠Option.some (ϧ o$ ϰ xs))(e:b≠a):∀ {o:Ob},yo T μ H b o->yo T μ H' b o
 | Ϗ ds,⟨vs,h,r⟩=>⟨vs,(d b e).trans h,pb.chg d i f g _ _ r⟩
 | ώ j,⟨vs,h,r⟩=>⟨vs,(d b e).trans h,OI d i f g r⟩
 | ϔ c m,⟨k,vs,h,r⟩=>⟨k,vs,(d b e).trans h,OI d i f g r⟩
 | ϣ j,⟨l,vs,h,r⟩=>⟨l,vs,(d b e).trans h,OI d i f g r⟩
 | .ue ks,⟨vs,h,r⟩=>⟨vs,(d b e).trans h,r⟩
def Yc.chg(r:Yc T μ H σ)(f:∀ b,b≠a->H' b=H b)(g:μ[n]?=BD a)(i:∀ xs,H a≠BD (.db xs))(j:∀ o xs,H a≠BD (ϧ o$ ϰ xs))(l:yo T μ H' a ob):Yc T μ H'$ σ.set n ob:=by
 have e:=za g;refine⟨by simp[r.len],r.nd,λm x h=>?_,r.tb.out f$ ϐ e⟩;rw[ie]at h;by_cases c:n=m
 ·subst c
  simp_all
 ·rw[pa c]at h;obtain⟨b,d,k⟩:=r.obs m x h;exact⟨b,d,k.chg f e i j (λz=>c (by subst z;exact IG r.nd g d))⟩
end
def _root_.L2.Xa.Mx{st}(I:Xa X d st H s)(f:H a=BD (ϧ t$ Ϛ g))(l:∀ o u,X.H₀ a≠BD (ϧ o u)):Xa X d st (Sb H a$ Ϛ g) s:=by
 have i:∀ b u,H b=BD u->(∀ o w,u≠ ϧ o w)->b≠a:=λb u q n z=>by rw[z,f]at q;exact n _ _ (Zb q).symm
 refine⟨I.ok,I.os,I.bare,⟨I.base.keep,I.base.slot,λb o e n r=>?_,I.base.there,λb xs e=>?_,λb o u e=>?_,λb ps e=>?_⟩,I.loc,I.cell,?_,λx c e=>?_,λp m=>?_,λb u e=>?_,I.len⟩
 ·have:=I.base.free b o e n r;rw[ud (λz=>by rw[z,f]at this;cases this)];exact this
 ·have:=I.base.Uj b xs e;rw[ud$ i b _ this (λC C z=>by cases z)];exact this
 ·have:=I.base.Ji b o u e;rw[ud (λz=>l o u ⋯)];exact this
 ·obtain⟨h,this⟩:=I.base.wj b ps e;exact⟨h,by rw[ud$ i b _ this (λC C z=>by cases z)];exact this⟩
 ·rw[ud (λz=>by have:=I.free;rw[z,f]at this;cases this)];exact I.free
 ·have:=I.bg x c e;rw[ud (λz=>by rw[z,f]at this;cases this)];exact this
 ·obtain⟨A,j,B⟩:=I.pin p m;exact⟨A,by rw[ud (λz=>by rw[z,f]at j;cases j)];exact j,B⟩
 ·by_cases k:b=a
  ·subst k;rw[bf]at e;cases e;exact(I.Cc b _ f).2
  ·rw[ud k]at e;refine(I.Cc b u e).Aj (λc v C z=>z) (λc z=>?_) λc xs z=>?_
   ·rw[ud$ i c _ z (λC C y=>by cases y)];exact z
   ·rw[ud$ i c _ z (λC C y=>by cases y)];exact z
section
variable{elts:List Ia}{kk:Nat}{p0:Td}
def mO(o:H a=BD (ϧ l$ Ϛ c))(s:jg T m H f c):Vy T m H (Sr f)$ Itm a l c:=by
 intro v A w i ex t;have h:=ex.Uc _ _ _ o;have e:=jg.mono ex s;unfold Sr;cases n:f[i]? with
 |none=>
  by_cases j:i=f.length
  ·rw[ja j];exact⟨h,by rw[j];exact Paired.length e⟩
  simp_all
 |some p=>
  obtain⟨q,k,g,u⟩:=ZF e i n;refine⟨⟨h,q,k⟩,λz x y=>?_⟩;obtain⟨r,B,C,b,rfl,d,rfl⟩:=y;rw[k]at d;cases d;refine⟨mj b,t.fresh b,?_⟩;rw[Na,g];exact⟨r,_,rfl,bf,pb.cons (DN _)$ pb.cons (Na.mono (mj b) _ _ u) pb.nil⟩
def JI(d:D):M NX:=λb=>match d with
 | Ϭ ks xs=>if ks.length=xs.length then J (Sr$ ks.zip xs) b else ϕ
 | O n=>(match b[n]? with
  |some (ώ a)=>J (Sr a) (b.set n$ ϣ a)
  |some (ϣ a)=>J (Sr a) b
  |_=>ϕ)
 |_=>ϕ
def lx(f:Ev->M D):Ev->M NX:=λa=>Kc (f a) JI
def Ā(h:FE T X e f)(G:Xc e "items" X.env (Qb e X.env)=Qb e X.env:=by rfl)(ό:(x.endLine == A.line)=E8:=by rfl) :
  Fq T X (ϱ elts kk p0) (Ϡ (ϟ e "items" x) [] [] A)$ lx f:=by
 intro Q s st H R I hw;refine WT (iL zd ph Vn xT h G ό) Q s st H R I ?_;obtain⟨μ,ρ,σ,hE,hr,hp⟩:=hw;refine⟨μ,ρ,σ,hE,hr,hp.bind λd w c v i b e1 V q1 p=>?_⟩;unfold JI at p;cases d with
 |Ga ks xs=>
  dsimp only at p;by_cases hl:ks.length=xs.length
  ·rw[ja hl]at p;obtain⟨a,j,rfl,ϊ,q,Z,a0⟩:=q1;refine⟨⟨a,j,rfl,q⟩,a,j,rfl,rfl,q,λl g=>?_⟩;have t:a≠l:=by rcases q with q|⟨_,q⟩<;>exact zm q g
   have Y:Rd (Sb i l$ Ϧ$ Sq l a) a$ Ϛ j:=by unfold Rd;rw[ud t];exact q
   refine⟨l,a,j,rfl,bf,Y,λN m=>?_⟩;have C:qd c i c$ Sb i l$ Ϧ$ Sq l a:=mj g;have k:Yc T c (Sb i l$ Ϧ$ Sq l a) w:=V.fresh g;obtain⟨x2,a1⟩:qd c i c _/\Yc T c _ w:=by
    rcases m with m|m
    ·have y:=vP (μ:=c) (od:=N) m;exact⟨C.trans y,k.keep y (λb W=>ud (λz=>ϊ (by rw[<-z];exact W)))$ k.tb.out (λb W=>ud W)$ ϓ ⟨_,m⟩⟩
    ·rw[ax m];exact⟨C,k⟩
   exact Pb.here (Pb.mono x2 p) a1$ mO bf$ jg.mono x2$ CF Z a0
  ·rw[pa hl]at p;exact p.elim
 |ref n=>
  dsimp only at p;cases S:w[n]? with
  |none=>rw[S]at p;exact p.elim
  |some o=>
   rw[S]at p;obtain⟨a,rfl,ϊ,P⟩:=V.at q1 S;cases o with
   |Ga j=>
    obtain⟨u,E,K⟩:=P;have q:Rd i a _:=ϐ E;refine⟨⟨a,u,rfl,q⟩,a,u,rfl,rfl,q,λl g=>?_⟩;have t:=zm E g;have r:Sb i l (Ϧ$ Sq l a) a=BD (Ϛ u):=by rw[ud t];exact E
    refine⟨l,a,u,rfl,bf,ϐ r,λN b=>?_⟩;have C:qd c i c$ Sb i l$ Ϧ$ Sq l a:=mj g;have k:Yc T c (Sb i l$ Ϧ$ Sq l a) w:=V.fresh g;have ϋ:qd c _ c$ Sb _ a$ ϧ N$ Ϛ u:=Aq (za ϊ) r (λb z=>by cases z) (λb b z=>by cases z);have B:=jg.mono (C.trans ϋ) K;exact Pb.here (Pb.mono (C.trans ϋ) p) (k.write (ob:=ϣ j) ϊ ⟨N,u,bf,B⟩$ λkv z=>by rw[S]at z;cases z).2$ mO bf B
   |Yb j=>
    obtain⟨L,u,E,K⟩:=P;have q:Rd i a _:=ϓ ⟨L,E⟩;refine⟨⟨a,u,rfl,q⟩,a,u,rfl,rfl,q,λl g=>?_⟩;have t:a≠l:=zm E g;have r:Sb i l (Ϧ$ Sq l a) a=BD (ϧ L$ Ϛ u):=by rw[ud t];exact E
    refine⟨l,a,u,rfl,bf,ϓ ⟨L,r⟩,λN m=>?_⟩;have C:qd c i c$ Sb i l$ Ϧ$ Sq l a:=mj g;have k:Yc T c (Sb i l$ Ϧ$ Sq l a) w:=V.fresh g;rcases m with m|m
    ·rw[r]at m;cases m
    ·rw[ax m];exact Pb.here (Pb.mono C p) k$ mO m$ jg.mono C K
   |_=>exact p.elim
 |_=>exact p.elim
noncomputable def iF{c:Type}(ok:c->Bool)(n:Nat):ii c->ii c
 | J a σ=>if ok a=E8 then (match σ[n]? with
  |some (ϣ b)=>J a (σ.set n$ ώ b)
  |_=>ϕ)else ϕ
 |_=>ϕ
noncomputable def EI{b:Type}(ok:b->Bool)(m:M D)(g:M b):M b:=λa=>match m a with
 | J (O n) _=>(match a[n]? with
  |some (ώ _)=>iF ok n (g a)
  |_=>g a)
 |_=>g a
noncomputable def vO:Fl->Bool
 | .xc _ _=>J8
 |_=>E8
def Qt(f:Ev->M D)(g:Ev->M Fl):Ev->M Fl:=λa=>EI vO (f a)$ g a
def G9(ex:qd e H b c)(i:a∈e)(f:H a=BD (Ϛ d))(k:c a=BD (ϧ j$ Ϛ g)):qd e H b$ Sb c a$ Ϛ g:=by
 refine⟨ex.pre,λp xs h=>?_,λp o u h=>?_,λp o h n=>?_⟩
 ·rw[ud (λz=>by rw[z,f]at h;cases h)];exact ex.db p xs h
 ·rw[ud (λz=>by rw[z,f]at h;cases h)];exact ex.Uc p o u h
 ·rw[ud (λz=>n ⋯)];exact ex.keep p o h n
def A3(D:y[n]?=BD a)(I:H a=BD (Ϛ v))
  (G:∀ c e (d:s) (g:w) k f,a∈c->e a=BD (ϧ k$ Ϛ f)->ok d=E8->R c e d g->R c (Sb e a$ Ϛ f) d g) (h:Pb T E R y H (iF ok n o) Q) :
  Pb T E R y H o (λg e=>∃ k f,e a=BD (ϧ k$ Ϛ f)/\Q g (Sb e a$ Ϛ f)/\∃ c d,ok d=E8/\R c e d g):=by
 cases o with
 |Ab=>exact h
 |ex x q=>trivial
 |ok d q=>
  unfold iF at h;dsimp only at h;by_cases i:ok d=E8
  ·rw[ja i]at h;cases t:q[n]? with
   |none=>rw[t]at h;exact h.elim
   |some ob=>
    rw[t]at h;cases ob with
    |Yb K=>
     intro c g e ex r F;obtain⟨L,m,k,f,p,u⟩:=r.obs n _ t;have j:=ex.get D;rw[j]at m;cases m;have l:=za j;have C:∀ b,b≠a->Sb e a (Ϛ f) b=e b:=λb ό=>ud ό;have A:∀ xs,e a≠BD (.db xs):=λxs z=>by rw[p]at z;cases z
     have B:∀ o xs,e a≠BD (ϧ o$ ϰ xs):=λo xs z=>by rw[p]at z;cases z
     exact⟨k,f,p,h c g _ (G9 ex (za D) I p) (r.chg C j A B ⟨f,bf,OI C l A B u⟩)$ G c e d g k f l p i F,c,d,i,F⟩
    |_=>exact h.elim
  ·rw[pa i]at h;exact h.elim
def wJ(f:a∈c)(g:e a=BD (ϧ k$ Ϛ i)) d v(h:Na T c e d v):Na T c (Sb e a$ Ϛ i) d v:=
 Na.chg (λb j=>ud j) f (λxs z=>by rw[g]at z;cases z) (λo xs z=>by rw[g]at z;cases z) d v h
set_option tactic.hygienic true in
def ZI(h:FS T X s g):FS T X s$ Qt f g:=by
 intro r L st H D I k;obtain⟨N,ϋ,P,ό,F,y⟩:=k;have m:=λq=>h r L st H D I ⟨N,ϋ,P,ό,F,q⟩;unfold Qt EI at y;split at y
 ·rename_i n _ _
  split at y
  ·rename_i ϊ Q
   obtain⟨a,S,W,K,_⟩:=F.obs n _ Q;have E:∀ o u,X.H₀ a≠BD _:=λo u z=>by have:=I.base.Ji a o u z;rw[K]at this;cases this
   have q:=A3 S K (λG c d x j vs p e w l=>by
    cases d with
    |xc _ _=>cases w
    |nx C=>cases x<;>first|exact l.elim|exact⟨l.1,λi d q=>let ⟨v,A,B⟩:=l.2 i d q;⟨v,A,wJ p e _ _ B⟩⟩
    |bk C=>cases x<;>first|exact l.elim|exact⟨l.1,λi d q=>let ⟨v,A,B⟩:=l.2 i d q;⟨v,A,wJ p e _ _ B⟩⟩
    |ct C=>cases x<;>first|exact l.elim|exact⟨l.1,λi d q=>let ⟨v,A,B⟩:=l.2 i d q;⟨v,A,wJ p e _ _ B⟩⟩
    |rt Y=>cases x<;>first|exact l.elim|exact wJ p e _ _ l) y
   refine gc (h r L st H ⟨λb c=>∃ j vs,c a=BD (ϧ j$ Ϛ vs)/\D.nx b (Sb c a$ Ϛ vs),λv c=>∃ j vs,c a=BD (ϧ j$ Ϛ vs)/\D.rt v (Sb c a$ Ϛ vs),λb c=>∃ j vs,c a=BD (ϧ j$ Ϛ vs)/\D.bk b (Sb c a$ Ϛ vs),λb c=>∃ j vs,c a=BD (ϧ j$ Ϛ vs)/\D.ct b (Sb c a$ Ϛ vs)⟩ I ⟨N,ϋ,P,ό,F,q.imp λx c z=>?_⟩) (λR Z z=>?_) λ_ _ z=>z
   ·obtain⟨j,vs,e,k,G,d,w,l⟩:=z;cases x with
    |nx b=>exact⟨j,vs,e,k⟩
    |rt v=>exact⟨j,vs,e,k⟩
    |bk b=>exact⟨j,vs,e,k⟩
    |ct b=>exact⟨j,vs,e,k⟩
    |xc b cls fd=>cases d<;>first|exact l.elim|cases w
   ·cases R with
    |next=>obtain⟨b,c,t,j,vs,e,k⟩:=z;exact⟨b,_,t.Mx e E,k⟩
    |brk=>obtain⟨b,c,t,j,vs,e,k⟩:=z;exact⟨b,_,t.Mx e E,k⟩
    |cont=>obtain⟨b,c,t,j,vs,e,k⟩:=z;exact⟨b,_,t.Mx e E,k⟩
    |ret u=>obtain⟨v,b,c,t,V,j,vs,e,k⟩:=z;exact⟨v,b,_,t.Mx e E,V,k⟩
  ·exact m y
 ·exact m y
end
noncomputable def pJ(d:Addr)(b:Obj)(a:List$ wc × V):It:=
 ⟨λi H=>H d=BD (ϧ b$ Ϛ a)/\∃ x,a[i]?=BD x,λi H v c=>c=H/\∃ k x,v=kV k/\a[i]?=BD (k,x),λi H=>H d=BD (ϧ b$ Ϛ a)/\i=a.length⟩
def ź{P:Ba}{w:Ra}{K:ϗ}{tg:Ia}(d f:Addr)(ϊ:Obj)(p:List$ wc × V)(a0:d≠f){es:Array tu}{R:Nat}(n:ϊ.data=.dict es R) :
  Rm P w K tg (pJ d ϊ p) [f] f (λi h=>h.IsKeyIter f d i p.length R) where
 mem:=by simp
 obj:=λi h st b j=>by
  obtain rfl:b=f:=by simpa using j
  obtain⟨o,e,c,Q⟩:=st
  simp_all
 keep:=λi h h' st k=>st.at λo e=>k f ⋯ o e
 item:=by
  intro X F N D S i g s Y H E I r st ό;subst F N D;obtain⟨G,⟨k,x⟩,T⟩:=ό;obtain⟨vs,v,t,a,l,L⟩:=kg I G;rw[n]at l;cases l;obtain⟨u,hu,ru⟩:=QG a i T;rw[a.length]at st;obtain⟨y,z,f2,A,B,C⟩:=r f ⋯;refine wpAny_pyNext_dict_item st L hu λϋ h' m q M=>?_;have Z:Xa X g Y H { s with heap:=h' }:=I.turned (λb o j e=>M.extBut b o j e) y z A B C;obtain⟨o,e,c,Q⟩:=id q;exact⟨ϋ,rfl,BE e c Q ⋯ ⟨kV k,H,Z,hW m,⟨rfl,k,x,rfl,T⟩,by rw[a.length];exact q,λb j=>(r b j).1⟩⟩
 done:=by
  intro X F N D S i g s Y H E I r st ό;subst F N D;obtain⟨G,hi⟩:=ό;obtain⟨vs,v,t,a,l,L⟩:=kg I G;rw[n]at l;cases l;rw[a.length]at st hi;obtain⟨y,z,f2,A,B,C⟩:=r f ⋯;exact wpAny_pyNext_dict_end (I.ok.hd S) st L ⋯ λh' eb=>⟨rfl,I.turned (λb o j e=>eb b o j e) y z A B C⟩
 self:=λJ J J J J st h=>wpAny_pyIter_keyiter st h
noncomputable def lA(a:List$ wc × D):NX:=λi b=>match a[i]? with
 |some p=>BD (BD$ Ut p.1)
 |none=>if i=a.length then BD A5 else A5
def BI(d:D):M NX:=λb=>match d with
 | O n=>(match b[n]? with
  |some (ώ a)=>J (lA a) (b.set n$ ϣ a)
  |some (ϣ a)=>J (lA a) b
  |_=>ϕ)
 |_=>ϕ
def BH(f:Ev->M D):Ev->M NX:=λa=>Kc (f a) BI
section
variable{tg:Ia}
def oU(n:H a=BD (ϧ k$ Ϛ b))(o:jg T l H e b):Vy T l H (lA e)$ pJ a k b:=by
 intro s v t i ex r;have g:=ex.Uc _ _ _ n;have d:=jg.mono ex o;unfold lA;cases m:e[i]? with
 |none=>
  by_cases h:i=e.length
  ·rw[ja h];exact⟨g,by rw[h];exact Paired.length d⟩
  simp_all
 |some p=>
  obtain⟨q,j,f,x⟩:=ZF d i m;refine⟨⟨g,q,j⟩,λz u y=>?_⟩;obtain⟨rfl,w,A,rfl,c⟩:=y;rw[j]at c;cases c;exact⟨ϭ _ _,r,by rw[f];exact DN _⟩
def ñ(e:TE):TI:=λf H R=>e f H λv c=>∃ a b,v=ϖ a/\Rd c a (Ϛ b)/\∀ d,c a=BD (Ϛ b)\/c a=BD (ϧ d$ Ϛ b)->R (pJ a d b) (Sb c a$ ϧ d$ Ϛ b)
def L1(A:PE X d p):PI X tg d$ ñ p:=by
 intro g s r H R I h;refine Bd (A g s r H _ I h) λv s1 ſ=>?_;obtain⟨x,H1,k,C,B⟩:=ſ;obtain⟨a,i,rfl,c,q⟩:=B;cases C;obtain⟨_,na,_⟩:=Qr k.Cc c;obtain⟨f,m,l⟩:∃ f,(H1 a=BD _\/H1 a=BD (ϧ f _))/\Xa X g r (Sb H1 a$ ϧ f _) s1:=by
  rcases c with c|⟨f,c⟩
  ·obtain⟨_,_,vs,j,o,w,u,e,_⟩:=k.Cc a _ c;exact⟨o,ϐ c,k.freeze c e⟩
  ·exact⟨f,ϓ c,by rw[ax c];exact k⟩
 obtain⟨vs,w,u,j,t,n⟩:=kg l bf;refine wpAny_pyIter_dict na n ⟨s1.heap.objs.size,[s1.heap.objs.size],_,pJ a f i,_,rfl,l.kept (λb o e=>da _ e),ź a _ f i (Aa n.lt_size) t,by rw[j.length];exact⟨_,iA _ _ (λz=>by cases z),rfl,rfl⟩,λb y=>?_,q f m⟩;obtain rfl:b=s1.heap.objs.size:=by simpa using y
 exact l.Jm (va _)$ l.Cc.fresh$ va _
def A7(h:FE T X e f):Fq T X tg e$ BH f:=by
 intro p s K H R I G;refine L1 h p s K H R I ?_;obtain⟨L,N,ϋ,C,F,E⟩:=G;refine⟨L,N,ϋ,C,F,E.bind λd y r v A D P x ό b=>?_⟩;unfold BI at b;cases d with
 |ref n=>
  dsimp only at b;cases t:y[n]? with
  |none=>rw[t]at b;exact b.elim
  |some o=>
   rw[t]at b;obtain⟨a,rfl,B,l⟩:=x.at ό t;cases o with
   |Ga m=>
    obtain⟨q,k,i⟩:=l;refine⟨a,q,rfl,ϐ k,λu D=>?_⟩;have j:qd r A r$ Sb A a$ ϧ u$ Ϛ q:=Aq (za B) k (λD z=>by cases z) (λD D z=>by cases z);have c:=jg.mono j i;exact Pb.here (Pb.mono j b) (x.write (ob:=ϣ m) B ⟨u,q,bf,c⟩$ λQ z=>by rw[t]at z;cases z).2$ oU bf c
   |Yb m=>
    obtain⟨w,q,k,i⟩:=l;refine⟨a,q,rfl,ϓ ⟨w,k⟩,λu g=>?_⟩;rcases g with g|g
    ·rw[k]at g;cases g
    ·rw[ax g];exact Pb.here b x$ oU g i
   |_=>exact b.elim
 |_=>exact b.elim
end
def lE(x y:D):M D:=λa=>match jf a x,jf a y with
 |some xs,BD b=>if xs.length+b.length<=Og then xA (xs++b) a else ϕ
 |_,_=>ϕ
def zwt:wh X (pe .Add)$ rD T lE:=by
 rintro b s st H v u z w Q I t o ⟨E,C,h,x,y,r,m,n,a⟩;unfold lE at a;cases c:jf h x with
 |none=>rw[c]at a;exact a.elim
 |some xs=>
  cases d:jf h y with
  |none=>rw[c,d]at a;exact a.elim
  |some B=>
   rw[c,d]at a;dsimp only at a;by_cases e:xs.length+B.length<=Og
   ·rw[ja e]at a;obtain⟨p,vs,rfl,i,f⟩:=r.ls m c;obtain⟨q,A,rfl,j,g⟩:=r.ls n d;exact tR b s st H _ _ z w Q I t o ⟨p,q,vs,A,rfl,rfl,i,j,by rw[<-f.length,<-g.length];exact eB e,λl k=>AC a r (pb.append f g) k⟩
   ·rw[pa e]at a;exact a.elim
def Px:Ek T X a Mn:=λpins s st H D I ⟨c,d,σ,_,_,b⟩=>b.elim
open Classical in
def Mu(l a:Addr):Heap->Prop:=λh=>h.IsValuesView l a
def Ô:V->kv->Hp->VK->Prop:=λx xs H Q=>∃ a b,x=ϖ a/\xs=[]/\Rd H a (Ϛ b)/\∀ l,H l=A5->Q (ϖ l) (Sb H l$ Ϧ$ Mu l a)
noncomputable def nH(d:Addr)(b:Obj)(a:List$ wc × V):It:=
 ⟨λi H=>H d=BD (ϧ b$ Ϛ a)/\∃ x,a[i]?=BD x,λi H v c=>c=H/\∃ k,a[i]?=BD (k,v),λi H=>H d=BD (ϧ b$ Ϛ a)/\i=a.length⟩
def V0{P:Ba}{w:Ra}{K:ϗ}{tg:Ia}(d f:Addr)(S:Obj)(n:List$ wc × V)(a0:d≠f){Z:Array tu}{ϋ:Nat}(m:S.data=.dict Z ϋ) :
  Rm P w K tg (nH d S n) [f] f (λi h=>h.IsValIter f d i n.length ϋ) where
 mem:=by simp
 obj:=λi h st b j=>by
  obtain rfl:b=f:=by simpa using j
  obtain⟨o,e,c,N⟩:=st
  simp_all
 keep:=λi h h' st k=>st.at λo e=>k f ⋯ o e
 item:=by
  intro X D M C Q i g s T H E I q st G;subst D M C;obtain⟨F,⟨k,x⟩,R⟩:=G;obtain⟨vs,t,r,a,l,ό⟩:=kg I F;rw[m]at l;cases l;obtain⟨u,hu,ru⟩:=QG a i R;rw[a.length]at st;obtain⟨v,y,f2,z,A,B⟩:=q f ⋯;refine wpAny_pyNext_values_item st ό hu λh' p L=>?_;have ϊ:Xa X g T H { s with heap:=h' }:=I.turned (λb o j e=>L.extBut b o j e) v y z A B;obtain⟨o,e,c,N⟩:=id p;exact⟨u,rfl,BE e c N ⋯ ⟨x,H,ϊ,ru,⟨rfl,k,R⟩,by rw[a.length];exact p,λb j=>(q b j).1⟩⟩
 done:=by
  intro X D M C Q i g s T H E I q st G;subst D M C;obtain⟨F,hi⟩:=G;obtain⟨vs,t,r,a,l,ό⟩:=kg I F;rw[m]at l;cases l;rw[a.length]at st hi;obtain⟨v,y,f2,z,A,B⟩:=q f ⋯;exact wpAny_pyNext_values_end (I.ok.hd Q) st ό ⋯ λh' Y=>⟨rfl,I.turned (λb o j e=>Y b o j e) v y z A B⟩
 self:=λJ J J J J st h=>wpAny_pyIter_valiter st h
noncomputable def wA(a:List$ wc × D):NX:=λi b=>match a[i]? with
 |some p=>BD (BD p.2)
 |none=>if i=a.length then BD A5 else A5
def UI(d:D):M NX:=λb=>match d with
 | Ϭ ks xs=>if ks.length=xs.length then J (wA$ ks.zip xs) b else ϕ
 | O n=>(match b[n]? with
  |some (ώ a)=>J (wA a) (b.set n$ ϣ a)
  |some (ϣ a)=>J (wA a) b
  |_=>ϕ)
 |_=>ϕ
def SK(f:Ev->M D):Ev->M NX:=λa=>Kc (f a) UI
section
variable{tg:Ia}
def y8:qw X "dict.values" Ô:=by
 rintro f s st H x vs v u Q I m l ⟨a,i,rfl,rfl,g,q⟩;cases m;cases l;obtain⟨z,h,n,j,d⟩:=Qr I.Cc g;refine nh Wm d.typeIs PySem.F.entry_dict_values (PySem.F.args_dict_values_1 _) (meets_dict_values _ a h) ⟨⟨n,d⟩,⟨ϖ s.heap.objs.size,_,I.laid (λb o e=>da _ e) (va _) ?_,rfl,q _$ I.Cc.fresh$ va _⟩⟩;refine⟨⟨_,iA _ _ (λz=>by cases z),rfl,rfl⟩,⟨_,iA _ _ (λz=>by cases z)⟩,λr t p k=>?_⟩;obtain⟨o,e,c⟩:=p;exact⟨o,k o e,c⟩
def gP(m:H a=BD (ϧ j$ Ϛ b))(o:jg T k H e b):Vy T k H (wA e)$ nH a j b:=by
 intro t w u i ex r;have f:=ex.Uc _ _ _ m;have d:=jg.mono ex o;unfold wA;cases l:e[i]? with
 |none=>
  by_cases g:i=e.length
  ·rw[ja g];exact⟨f,by rw[g];exact Paired.length d⟩
  simp_all
 |some p=>
  obtain⟨q,h,n,s⟩:=ZF d i l;refine⟨⟨f,q,h⟩,λz v y=>?_⟩;obtain⟨rfl,x,c⟩:=y;rw[h]at c;cases c;exact⟨ϭ _ _,r,s⟩
def à(e:TE):TI:=λf H R=>e f H λv c=>∃ l a b,v=ϖ l/\c l=BD (Ϧ$ Mu l a)/\Rd c a (Ϛ b)/\∀ d,c a=BD (Ϛ b)\/c a=BD (ϧ d$ Ϛ b)->R (nH a d b) (Sb c a$ ϧ d$ Ϛ b)
def zxa(B:PE X d r):PI X tg d$ à r:=by
 intro g s t H R I h;refine Bd (B g s t H _ I h) λv s1 ſ=>?_;obtain⟨x,H1,k,E,D⟩:=ſ;obtain⟨l,a,i,rfl,C,c,q⟩:=D;cases E;obtain⟨f,n,m⟩:∃ f,(H1 a=BD _\/H1 a=BD (ϧ f _))/\Xa X g t (Sb H1 a$ ϧ f _) s1:=by
  rcases c with c|⟨f,c⟩
  ·obtain⟨_,_,vs,j,o,y,w,e,_⟩:=k.Cc a _ c;exact⟨o,ϐ c,k.freeze c e⟩
  ·exact⟨f,ϓ c,by rw[ax c];exact k⟩
 obtain⟨vs,y,w,j,u,p⟩:=kg m bf;refine wpAny_pyIter_values ((k.Cc l _ C).1) p ⟨s1.heap.objs.size,[s1.heap.objs.size],_,nH a f i,_,rfl,m.kept (λb o e=>da _ e),V0 a _ f i (Aa p.lt_size) u,by rw[j.length];exact⟨_,iA _ _ (λz=>by cases z),rfl,rfl⟩,λb A=>?_,q f n⟩;obtain rfl:b=s1.heap.objs.size:=by simpa using A
 exact m.Jm (va _)$ m.Cc.fresh$ va _
def zlu(h:FE T X e f)(G:Xc e "values" X.env (Qb e X.env)=Qb e X.env:=by rfl)(ό:(x.endLine == A.line)=E8:=by rfl) :
  Fq T X tg (Ϡ (ϟ e "values" x) [] [] A)$ SK f:=by
 intro Q s st H R I hw;refine zxa (iL zd Wm PySem.F.type_dict_values y8 h G ό) Q s st H R I ?_;obtain⟨μ,ρ,σ,hE,hr,hp⟩:=hw;refine⟨μ,ρ,σ,hE,hr,hp.bind λd w c v i b e1 V q1 p=>?_⟩;unfold UI at p;cases d with
 |Ga ks xs=>
  dsimp only at p;by_cases hl:ks.length=xs.length
  ·rw[ja hl]at p;obtain⟨a,j,rfl,ϊ,q,Y,Z⟩:=q1;refine⟨⟨a,j,rfl,q⟩,a,j,rfl,rfl,q,λl g=>?_⟩;have t:a≠l:=by rcases q with q|⟨_,q⟩<;>exact zm q g
   have W:Rd (Sb i l$ Ϧ$ Mu l a) a$ Ϛ j:=by unfold Rd;rw[ud t];exact q
   refine⟨l,a,j,rfl,bf,W,λN m=>?_⟩;have C:qd c i c$ Sb i l$ Ϧ$ Mu l a:=mj g;have k:Yc T c (Sb i l$ Ϧ$ Mu l a) w:=V.fresh g;obtain⟨x2,a0⟩:qd c i c _/\Yc T c _ w:=by
    rcases m with m|m
    ·have y:=vP (μ:=c) (od:=N) m;exact⟨C.trans y,k.keep y (λb hb=>ud (λz=>ϊ ⋯))$ k.tb.out (λb hb=>ud hb)$ ϓ ⟨_,m⟩⟩
    ·rw[ax m];exact⟨C,k⟩
   exact Pb.here (Pb.mono x2 p) a0$ gP bf$ jg.mono x2$ CF Y Z
  ·rw[pa hl]at p;exact p.elim
 |ref n=>
  dsimp only at p;cases S:w[n]? with
  |none=>rw[S]at p;exact p.elim
  |some o=>
   rw[S]at p;obtain⟨a,rfl,ϊ,P⟩:=V.at q1 S;cases o with
   |Ga j=>
    obtain⟨u,E,K⟩:=P;have q:Rd i a _:=ϐ E;refine⟨⟨a,u,rfl,q⟩,a,u,rfl,rfl,q,λl g=>?_⟩;have t:=zm E g;have r:Sb i l (Ϧ$ Mu l a) a=BD (Ϛ u):=by rw[ud t];exact E
    refine⟨l,a,u,rfl,bf,ϐ r,λN b=>?_⟩;have C:qd c i c$ Sb i l$ Ϧ$ Mu l a:=mj g;have k:Yc T c (Sb i l$ Ϧ$ Mu l a) w:=V.fresh g;have ϋ:qd c _ c$ Sb _ a$ ϧ N$ Ϛ u:=Aq (za ϊ) r (λb z=>by cases z) (λb b z=>by cases z);have B:=jg.mono (C.trans ϋ) K;exact Pb.here (Pb.mono (C.trans ϋ) p) (k.write (ob:=ϣ j) ϊ ⟨N,u,bf,B⟩$ λkv z=>by rw[S]at z;cases z).2$ gP bf B
   |Yb j=>
    obtain⟨L,u,E,K⟩:=P;have q:Rd i a _:=ϓ ⟨L,E⟩;refine⟨⟨a,u,rfl,q⟩,a,u,rfl,rfl,q,λl g=>?_⟩;have t:a≠l:=zm E g;have r:Sb i l (Ϧ$ Mu l a) a=BD (ϧ L$ Ϛ u):=by rw[ud t];exact E
    refine⟨l,a,u,rfl,bf,ϓ ⟨L,r⟩,λN m=>?_⟩;have C:qd c i c$ Sb i l$ Ϧ$ Mu l a:=mj g;have k:Yc T c (Sb i l$ Ϧ$ Mu l a) w:=V.fresh g;rcases m with m|m
    ·rw[r]at m;cases m
    ·rw[ax m];exact Pb.here (Pb.mono C p) k$ gP m$ jg.mono C K
   |_=>exact p.elim
 |_=>exact p.elim
end
noncomputable def vH(a b:lv):M$ lv:=ret$ b++a
def Uz(a:lv)(b:Ev->M (lv)):Ev->M (lv):=λc=>Kc (b c)$ vH a
def Ž(hm:X.mg x=BD (Db$ T.ca c))(z:Mk T.K (T.ca c) f)(ϋ:vr T.K L ps b)
  (N:gh X.prog X.w T.K X.mg X.base (Kk X.prog X.w) k f L ps$ Ro T ps.length h) (hv:ce d b) (C:∀ y H,pb T y H a d) (S:T.K=X.K) (hr:Md (k+1) X.A) (Z:Gl X x)
  (ϊ:FA T X (e::l) i) (B:(x == ("__debug__" : Str))=J8:=by decide) (Y:wa (e::l) X.env=(J8,Qb e X.env)::wa l X.env:=by rfl) (F:(Dc g$ wa l X.env).any (·.1)=J8:=by rfl) :
  FE T X (Ϡ (ϝ x p) (e::l) [] g)$ lq c ps.length h$ Uz a i:=by
 rw[S]at z N ϋ;rintro m s st H Q I ⟨y,n,o,R,G,hp⟩;have E:Pb T (XE X st) (Na T) y H (Kc (i n) (λt=>Bl c ps.length h$ t++a) o) Q:=by
  have:lq c ps.length h (Uz a i) n o=Kc (i n) (λt=>Bl c ps.length h$ t++a) o:=by
   unfold lq Uz vH Kc;cases i n o<;>rfl
  simp_all
 refine Le$ JE I Z hm (Ϲ I.ok.mod.dz z.kp (Bd (ϊ g m s st H (λvs j=>∀ x u,j x=A5->j u=A5->u≠x->Ro T ps.length h (ϖ x::(vs++d)) (Sb (Sb j u$ .own x) x$ .yb (T.ca c) u []) (λv P=>v=.ec/\Q (ϖ x) P) (XE X st)) I ⟨y,n,o,R,G,E.bind λt a1 a0 vs j D e1 r1 p1 q1=>?_⟩) λus s1 ⟨vs,j,ό,r,q⟩=>⟨ό.Ki,?_⟩) Y F) B
 ·have:=YW r1 (pb.append p1$ C _ _) q1
  grind
 ·exact jW z N hr ϋ hv ό r q
def oV(C:X.mg x=BD (Db$ T.ca c))(t:Mk T.K (T.ca c) f)(h:bu T X.prog X.w X.mg X.base k f ps n o)(y:a=[]\/a=n)(F:ce d a)(l:∀ G H,pb T G H b d)(s:T.K=X.K)(E:Md (k+1) X.A)(B:Gl X x)
  (u:FA T X (e::g) q) (j:(x == ("__debug__" : Str))=J8:=by decide) (z:wa (e::g) X.env=(J8,Qb e X.env)::wa g X.env:=by rfl) (m:(Dc i$ wa g X.env).any (·.1)=J8:=by rfl) :
  FE T X (Ϡ (ϝ x p) (e::g) [] i)$ lq c ps.length o$ Uz b q:=by
 obtain⟨I,ό,v,r⟩:=h;exact Ž C t (by rcases y with rfl|rfl<;>assumption) r F l s E B u j z m
noncomputable def JN:Ev->M D:=λb a=>J (O a.length)$ a++[.ue []]
def Æ:FE T X (.Dict [] [] b) JN:=by
 rintro a s f H Q I ⟨h,i,j,g,d,e⟩;exact è a s f H Q I λp c=>(e _ _ _ (Vu c) (d.push c ⟨[],bf,rfl⟩)$ MD d)
open Classical in
open Classical in
open Classical in
def F8{f}{g}{c}{ό}(h:lI T f g c ό):Vy T f g c.nx ό:=λl H j i ex r=>by
 have q:=h l H j i ex r;cases e:c.nx i j with
 |none=>trivial
 |some o=>
  rw[e]at q;cases o with
  |none=>exact q
  |some d=>exact⟨q.1,λx k y=>let ⟨a,b⟩:=q.2 x k y;by subst a;exact⟨ϭ _ _,r,b⟩⟩
noncomputable def kM(s:Gj):M NX:=ret s.nx
def io(f:Ev->M Gj):Ev->M NX:=λa=>Kc (f a) kM
def č(h:FI T X c a f):Fq T X c a$ io f:=by
 rintro b s m H R I ⟨n,p,q,d,g,e⟩;exact h b s m H R I ⟨n,p,q,d,g,e.bind λl r o ό t l u k j i=>Pb.here i k$ F8 j⟩
def zg9{K}
  (hN:X.N.Nodup) (hi:X.N[i]?=BD y) (hx:Loc X.env.scope y)
  (hc:X.de=E8) (L:Wj X x M' ix f) (V:Fq T X A l ϋ)
  (b5:∀ cl C j h ex,FG T (Po X (x::z0::M') f cl C j h ex) A tg)
  (a8:∀ cl C j h ex,iy T (Po X (x::z0::M') f cl C j h ex) K fi)
  (S:∀ cl C j h ex,FE T (Po X (x::z0::M') f cl C j h ex) F fe)
  (hs:∀ y,oe l X.env y=pure y:=by intro _;rfl)
  (b3:Lg (ϴ F [⟨A,l,K,0⟩] f a0) (BD$ ϝ y py) E.line X.env=pure E8:=by rfl)
  (hf:X.fn y=E8\/X.env.scope.names.lookup y=BD .local:=by first|exact .inl rfl|exact .inr rfl|assumption) :
  FS T X (.Assign [ϝ y py] (ϴ F [⟨A,l,K,0⟩] f a0) E)$ Xe i$ Uk ϋ ix tg fi fe:=by
 rintro B s st H D I ⟨μ,ρ,σ,hE,hr,b1⟩;have hp:Pb T _ _ μ H (Uk ϋ ix tg fi fe ρ σ) (λv Q=>D.nx _ Q):=b1.xs hE λd a3 a2 v Q d e1 r1 q1 p1=>Pb.here (g:=ϸ$ st.set i$ BD v) p1 r1$ (hE.mono e1).set i q1;rw[exec_Assign_Name_used _ _ _ _ b3];refine aa$ Ct$ aa ?_;refine aa (gc (Ht rfl hs (nO X.env f$ lB I L) L.kind (λy hy e=>?_)
  ?_) (λd s' hq=>ga$ ga hq) λd d e=>e)
 ·have q:=Vb.mp L.names y hy;rw[e]at q;exact eq_of_beq q
 have h1:=V B s st H (λό t=>∃ nx k a4,qd μ H k t/\Yc T k t a4/\Vy T k t nx ό/\Pb T (XE X st) (Na T) k t _ (λv Q=>D.nx (st.set i$ BD v) Q)) I
  ⟨μ,ρ,σ,hE,hr,hp.bind λnx a3 a2 ό Q d e1 r1 q1 p1=>⟨nx,a2,a3,e1,r1,q1,p1⟩⟩
 refine Bd h1 λv s1 h2=>Bd h2 λb8 s2 h3=>?_;obtain⟨it,fp,tn,ό,t,rfl,I2,TT,a1,f2,nx,k,a4,a5,r2,so,p2⟩:=h3;refine ic$ gk (aG L) (by intro y hy;simp at hy) (λW u w=>?_) L.kind;have P:=I2.gB (t':=s2.toks) Ϟ ⋯;have R:t s2.heap.objs.size=A5:=I2.Cc.fresh$ va _;have G:qd k t (k++[s2.heap.objs.size])$ Sb t s2.heap.objs.size$ ϰ []:=Vu R;have b4:s2.heap.objs.size<(s2.heap.push { cls:=Vh "list",data:=Ϩ [].toArray }).objs.size:=by rw[Qc];exact Lb _
 have kp:∀ b o,(s2.heap.push { cls:=Vh "list",data:=Ϩ [].toArray }).get? b=BD o->W.get? b=BD o:=λb o e=>w.extBut b o (Aa$ xa e)$ da _ e;have n:∀ b∈fp,Nk X B (Sb t s2.heap.objs.size$ ϰ []) b/\b<(s2.heap.push { cls:=Vh "list",data:=Ϩ [].toArray }).objs.size:=λb m=>by
  obtain⟨o,e,_⟩:=TT.obj 0 _ a1 b m;have lt:=xa e;exact⟨⟨by rw[ud$ Aa lt];exact(f2 b m).1,(f2 b m).2⟩,cr lt b4⟩
 refine dW hc L b5 a8 S P n u kp TT (TT.keep 0 _ _ a1 λb m o e=>kp b o$ da _ e)
  (λμ H σ i ex r=>so μ H σ i (G.trans ex) r) ((hE.mono a5).mono G) (r2.push (ob:=Ϗ []) R ⟨[],bf,pb.nil⟩) (by rw[<-r2.len];simp) (p2.mono G) (λs6 H' m6 a9 a6 b6 b0 ϊ a7 hq=>?_)
 have Z:X.env.locals<(s2.heap.push { cls:=Vh "list",data:=Ϩ ([]:em).toArray }).objs.size:=P.lt;have Y:∀ z c,X.env.cells.lookup z=BD c->c<(s2.heap.push { cls:=Vh "list",data:=Ϩ ([]:em).toArray }).objs.size:=λz c e=>by
  obtain⟨v,q⟩:=P.cell z c e;exact q.lt
 refine OD$ mS (v:=ϖ s2.heap.objs.size) (L2.Xa.Ou (s':=s6) (ch:=fp) P b0 b6 ϊ a7$ λb m=>⟨(n b m).1.2.2.2.1,(n b m).1.2.1,(n b m).1.2.2.2.2.1,(n b m).1.2.2.2.2.2⟩) hN hi hx rfl (λs7 I7 ſ=>?_) hf;obtain⟨a,sb,ha⟩:=ſ;have b7:a≠(s2.heap.push { cls:=Vh "list",data:=Ϩ ([]:em).toArray }).objs.size:=by
  rcases ha with rfl|ha
  ·exact Aa Z
  ·exact Aa$ Y _ _ ha
 refine⟨m6,a9.sameBut sb$ Gd b7,λh8 b2=>⟨st.set i$ BD$ ϖ s2.heap.objs.size,H',?_,hq⟩⟩;exact I7.turned (t':=s7.toks) (it:=(s2.heap.push { cls:=Vh "list",data:=Ϩ ([]:em).toArray }).objs.size) (λb o m e=>(b2.2 b m).trans e) a6 (Pd Z) (ϓ$ lb P.sz$ va _) (λz c e=>Aa$ Y z c e) (λp hp=>Aa$ xa (P.pin p hp).1)
noncomputable def zL:Ev->M Bool:=λa a=>ϕ
def SY:FT T X e zL:=by
 rintro a s f H Q I ⟨g,h,i,b,d,c⟩;trivial
structure xm(K:ϗ)(C:Addr):Prop where
 f:W.findIn K (Db C) "__eq__" = BD (BD (ϡ "object.__eq__"))
 o:W.mroIn K C (Vh "object")=BD E8
section
variable{prog:Ba}{w:Ra}{K:ϗ}{A:Ma}{E:Value->Shared->Prop}{h:Heap}{g:Array Kh}{d:jp}{t:Nat}{os:Sv}{x y C D:Addr}{ox oy:Obj}
def JT{M}(X:K.In h)(f:W.findIn K (Db C) a=BD r)(e:h.get? x=BD ox)(b:ox.cls=Db C)(c:Q r ⟨h,g,d,t,os⟩):wpAny M A (specialOf (Db x) a) Q E ⟨h,g,d,t,os⟩:=by
 unfold specialOf;repeat (first|(with_reducible refine Ld e ?_;rw[b])|(with_reducible refine W.Looks.at (W.looks_findIn X f) ?_)|wp_step)
 exact c
def pZ(X:K.In h)(c:xm K C)(n:h.get? x=BD ox)(l:ox.cls=Db C)(r:h.get? y=BD oy)(i:x≠y)(q:Q .notImplemented ⟨h,g,d,t,os⟩) :
  wpAny (model prog w) A (call (ϡ "object.__eq__") [Db x,Db y]) Q E ⟨h,g,d,t,os⟩:=by
 refine fj$ ek lm.eq.plain SJ ?_;have j:=PP (Db x)$ Db y;have f:=W.looks_mroIn (M:=model prog w) X c.o;have b:ox.cls≠ Vh "tuple":=by rw[l];intro e;cases e
 simp only[DG,QP,TJ];refine aa ?_;unfold RB;have s:∀ (k:Unit->Shared->Prop),k () _->wpAny (model prog w) A (match vg "object.__eq__" with|some sig=>Qf "object.__eq__" sig ⟨[Db x,Db y],[]⟩|none=>pure ()) k E ⟨h,g,d,t,os⟩:=λk m=>by
  cases a:vg "object.__eq__" with
  |none=>exact ga m
  |some sig=>
   simp only[ur,a]at j;have p:Qf "object.__eq__" sig ⟨[Db x,Db y],[]⟩=pure ():=j;show wpAny _ A (Qf "object.__eq__" sig ⟨[Db x,Db y],[]⟩) k E _;rw[p];exact ga m
 repeat (first|(with_reducible refine Ld n ?_;rw[l])|(with_reducible refine W.Looks.at f ?_)|(with_reducible refine gj i n r b ?_)|wp_step)
 exact q
def QI(X:K.In h)(c:xm K C)(e:h.get? x=BD ox)(b:ox.cls=Db C)(j:h.get? y=BD oy)(a:x≠y)(i:Q A5 ⟨h,g,d,t,os⟩) :
  wpAny (model prog w) A (SB (Db x) "__eq__"$ Db y) Q E ⟨h,g,d,t,os⟩:=by
 refine aa ?_;simp only[Qz,Rz];refine cc$ aa$ aa$ JT X c.f e b ?_;simp only[lm.eq.bind];refine aa$ Kg$ wpAny_ite ?_;split
 ·exact aa$ ga$ ga$ aa$ pZ X c e b j a$ ga$ ga i
 ·exact Ee$ aa$ ga$ ga$ aa$ pZ X c e b j a$ ga$ ga i
def n6(X:K.In h)(c:xm K C)(o:xm K D)(q:W.mroIn K D (Db C)=BD J8)(f:h.get? x=BD ox)(k:ox.cls=Db C)(i:h.get? y=BD oy)(b:oy.cls=Db D)(j:C≠D)(r:A.units<cLine)(p:Q (Rg J8) ⟨h,g,d,t,os⟩) :
  wpAny (model prog w) A (Jb .Eq (Db x)$ Db y) Q E ⟨h,g,d,t,os⟩:=by
 have a:x≠y:=λe=>by
  simp_all
 have m:ox.cls≠ Vh "tuple":=by rw[k];intro e;cases e
 have n:=W.looks_mroIn (M:=model prog w) X q;have l:(Db C != Db D)=E8:=by simp[j]
 show wpAny _ A (qk .Eq (Db x)$ Db y) Q E _;simp only[qk,NB,Ov];repeat (first|with_reducible refine jr r ?_|(with_reducible refine Ld f ?_;rw[k])|(with_reducible refine Ld i ?_;rw[b])|(rw[l,ja rfl];with_reducible refine aa$ W.Looks.at n ?_)|(with_reducible refine W.Looks.at n ?_)|(with_reducible refine QI X c f k i a ?_)|(with_reducible refine QI X o i b f (Gd a) ?_)|(with_reducible refine gj a f i m ?_)|wp_step)
 exact p
end
def CQ(K:ϗ):R2:=λv u H Q=>∃ x y C D a b c gs,v=ϖ x/\u=ϖ y/\H x=BD (.yb C a c)/\H y=BD (.yb D b gs)/\xm K C/\xm K D/\W.mroIn K D (Db C)=BD J8/\C≠D/\Q (Ϫ J8) H
def yJ(K:ϗ)(a:Nat->Addr)(l:List$ Nat × Nat):Prop:=∀ p∈l,xm K (a p.1)/\xm K (a p.2)/\W.mroIn K (a p.2) (Db$ a p.1)=BD J8/\a p.1≠a p.2
def î{K}:yJ K a []:=λb h=>nomatch h
def wM{K}(a:xm K$ e c)(b:xm K$ e d)(m:W.mroIn K (e d) (Db$ e c)=BD J8)(n:e c≠e d)(r:yJ K e l):yJ K e$ (c,d)::l:=λp f=>by
 rcases Da.mp f with rfl|f
 ·exact⟨a,b,m,n⟩
 ·exact r p f
def o6(E:X.A.units+9<cLine):wh X (Jb .Eq)$ CQ X.K:=by
 intro b s st H v u m p Q I o n h;obtain⟨x,y,C,D,r,z,B,gs,rfl,rfl,f,i,c,e,j,a,q⟩:=h;obtain rfl:m=Db x:=o;obtain rfl:p=Db y:=n;obtain⟨_,_,_,k,_⟩:=(show uk X.prog X.w H s.heap x _ from I.Cc x _ f)
 obtain⟨_,_,_,l,_⟩:=(I.Cc y _ i)
 obtain⟨h,g,d,t,F⟩:=s;exact n6 I.Ki c e j k rfl l rfl a ⋯ ⟨Ϫ J8,H,I,rfl,q⟩
def CP(x y:D):M D:=λa=>match x,y with
 | .gt ss,.gt c=>(match Ko (il a 0) (ss.map ϙ) (c.map ϙ)with
  |some b=>J (ϒ b) a
  |none=>ϕ)
 |_,_=>ϕ
def x8(F:T.K=X.K)(S:X.A.units+9<cLine):wh X (Jb .Eq)$ rD T CP:=by
 intro c s st H v u k W Q I M L h;obtain⟨E,l,R,x,y,r,g,i,a⟩:=h;unfold CP at a;cases x with
 |gt ss=>
  cases y with
  |gt j=>
   dsimp only at a;cases e:Ko (il R 0) (ss.map ϙ) (j.map ϙ)with
   |none=>rw[e]at a;exact a.elim
   |some b=>
    rw[e]at a;rw[Na]at g i;obtain⟨p,rfl,d⟩:=g;obtain⟨q,rfl,f⟩:=i;rw[F]at d f;cases M;cases L;obtain⟨ϊ,G,N,_⟩:=L2.Xa.tuple I (ϓ d);obtain⟨V,ό,ϋ,_⟩:=L2.Xa.tuple I (ϓ f);obtain⟨B,C⟩:=xM (A:=X.A.in1) (λx y v w k P b m n o t z=>IH I r 0 X.A.in1 x y v w k P b (by show X.A.units+1+0+1<cLine;lia) m n o t z) (XH (T:=T) (μ:=l) (H:=H) ss) (XH j) G ό e;have rc:Tg X.A s (Db p) (Db q) b:=by rw[C];exact .tuples N ϋ ⋯ B
    exact rc X.prog X.w X.xe (EP X c st Q) ⟨Ϫ b,H,I,rfl,Pb.here a r (by rw[Na])⟩
  |_=>exact a.elim
 |_=>exact a.elim
section
variable{prog:Ba}{w:Ra}{K:ϗ}{A:Ma}{E:Value->Shared->Prop}{h:Heap}{g:Array Kh}{d:jp}{t:Nat}{os:Sv}{x y C:Addr}{ox oy:Obj}
def UX(X:K.In h)(c:xm K C)(m:h.get? x=BD ox)(j:ox.cls=Db C)(l:Q (Rg E8) ⟨h,g,d,t,os⟩) :
  wpAny (model prog w) A (call (ϡ "object.__eq__") [Db x,Db x]) Q E ⟨h,g,d,t,os⟩:=by
 refine fj$ ek lm.eq.plain SJ ?_;have e:=PP (Db x)$ Db x;have b:=W.looks_mroIn (M:=model prog w) X c.o;simp only[DG,QP,TJ];refine aa ?_;unfold RB;have n:∀ (k:Unit->Shared->Prop),k () ⟨h,g,d,t,os⟩->wpAny (model prog w) A (match vg "object.__eq__" with|some sig=>Qf "object.__eq__" sig ⟨[Db x,Db x],[]⟩|none=>pure ()) k E ⟨h,g,d,t,os⟩:=λk f=>by
  cases a:vg "object.__eq__" with
  |none=>exact ga f
  |some sig=>
   simp only[ur,a]at e;have i:Qf "object.__eq__" sig ⟨[Db x,Db x],[]⟩=pure ():=e;show wpAny _ A (Qf "object.__eq__" sig ⟨[Db x,Db x],[]⟩) k E _;rw[i];exact ga f
 repeat (first|(with_reducible refine Ld m ?_;rw[j])|(with_reducible refine W.Looks.at b ?_)|(with_reducible refine wpAny_isSame_ref_self ?_)|wp_step)
 exact l
def ä(X:K.In h)(c:xm K C)(b:h.get? x=BD ox)(a:ox.cls=Db C)(e:Q (BD$ Rg E8) ⟨h,g,d,t,os⟩) :
  wpAny (model prog w) A (SB (Db x) "__eq__"$ Db x) Q E ⟨h,g,d,t,os⟩:=by
 simp only[SB];refine aa ?_;simp only[Qz,Rz];refine cc$ aa$ aa$ JT X c.f b a ?_;simp only[lm.eq.bind];refine aa$ Kg$ wpAny_ite ?_;split
 ·exact aa$ ga$ ga$ aa$ UX X c b a$ ga$ ga e
 ·exact Ee$ aa$ ga$ ga$ aa$ UX X c b a$ ga$ ga e
end
open Classical in
def ycf{K}{a:Nat->Addr}:∀ c∈([]:h8),xm K (a c):=λb h=>nomatch h
def tN{K}{b:Nat->Addr}(a:xm K$ b c)(r:∀ x∈l,xm K (b x)):∀ x∈c::l,xm K (b x):=λx d=>by
 rcases Da.mp d with rfl|d
 ·exact a
 ·exact r x d
def vC(x:D)(xs:lv):M D:=λb=>match x,xs with
 | O n,[U i]=>(match We b n with
  |some a=>if 0<=i/\i<1000 then (match a[i.toNat]? with
   |some y=>J y (b.set n$ Ϗ$ a.take i.toNat++a.drop (i.toNat+1))
   |none=>ϕ)else ϕ
  |none=>ϕ)
 |_,_=>ϕ
def X4:My T zW vC:=by
 intro E B H ό x xs v vs Q r p q h;cases x with
 |ref n=>
  match xs with
  |[U i]=>
   rw[pb]at q;obtain⟨w,z,rfl,s,t⟩:=q;rw[pb]at t;subst t;rw[Na]at s;subst s;unfold vC at h;cases b:We ό n with
   |none=>simp only[b]at h;exact h.elim
   |some I=>
    simp[b]at h;by_cases j:0<=i/\i<1000
    ·rw[ja j]at h;cases c:I[i.toNat]? with
     |none=>simp[c]at h;exact h.elim
     |some y=>
      simp only[c]at h;obtain⟨a,vs,rfl,k,g,f⟩:=r.qa p b;obtain⟨u,m,G⟩:=f.get c;have D:=(ba.mp m).1;have ex:∀ l,qd B H B (Sb H a$ ϰ l):=λl=>Aq (za k) g (λJ z=>by cases z) (λJ J z=>by cases z);have A:=r.write (o:=ϰ$ vs.take i.toNat++vs.drop (i.toNat+1)) (ob:=Ϗ _) k ⟨_,bf,pb.append (pb.take _$ pb.mono (ex _) _ _ f)$ pb.drop _$ pb.mono (ex _) _ _ f⟩;have C:vs.eraseIdx i.toNat=vs.take i.toNat++vs.drop _:=List.eraseIdx_eq_take_drop_succ ..;refine⟨a,vs,i,i.toNat,u,rfl,rfl,g,by lia,by lia,?_,m,?_⟩
      ·unfold qu;have F:¬ i<0:=by lia
       simp[F]
       lia
      ·rw[C];exact h _ _ _ A.1 A.2$ Na.mono (ex _) _ _ G
    ·rw[pa j]at h;exact h.elim
  |[]=>exact h.elim
  |d::e::l=>cases d<;>exact h.elim
  |[Ϝ]=>exact h.elim
  |[ϒ _]=>exact h.elim
  |[ϙ _]=>exact h.elim
  |[ϑ _]=>exact h.elim
  |[ύ _]=>exact h.elim
  |[O _]=>exact h.elim
  |[ϫ _]=>exact h.elim
  |[Ϸ ..]=>exact h.elim
  |[.Ys ..]=>exact h.elim
  |[Ϭ ..]=>exact h.elim
  |[.gt ..]=>exact h.elim
 |_=>cases xs<;>exact h.elim
section
variable{prog:Ba}{w:Ra}{K:ϗ}{A:Ma}{E:Value->Shared->Prop}{h:Heap}{g:Array Kh}{d:jp}{t:Nat}{os:Sv}{x y C:Addr}{ox oy:Obj}
def G7(X:K.In h)(c:xm K C)(f:h.get? x=BD ox)(i:ox.cls=Db C)(l:h.get? y=BD oy)(j:oy.cls=Db C)(o:A.units<cLine)(p:x=y->Q (Rg E8) ⟨h,g,d,t,os⟩)(b:x≠y->Q (Rg J8) ⟨h,g,d,t,os⟩) :
  wpAny (model prog w) A (Jb .Eq (Db x)$ Db y) Q E ⟨h,g,d,t,os⟩:=by
 have m:ox.cls≠ Vh "tuple":=by rw[i];intro e;cases e
 have k:(Db C != Db C)=J8:=by simp
 show wpAny _ A (qk .Eq _ _) Q E _;by_cases a:x=y
 ·have n:=p a;subst a;simp only[qk,NB,Ov];repeat (first|with_reducible refine jr o ?_|(with_reducible refine Ld f ?_;rw[i])|(rw[k,pa qb])|(with_reducible refine ä X c f i ?_)|wp_step)
  exact n
 ·have b:=b a;simp only[qk,NB,Ov];repeat (first|with_reducible refine jr o ?_|(with_reducible refine Ld f ?_;rw[i])|(with_reducible refine Ld l ?_;rw[j])|(rw[k,pa qb])|(with_reducible refine QI X c f i l a ?_)|(with_reducible refine QI X c l j f (Gd a) ?_)|(with_reducible refine gj a f l m ?_)|wp_step)
  exact b
end
def M8(K:ϗ):R2:=λv u H Q=>CQ K v u H Q\/∃ x y C a b c gs,v=ϖ x/\u=ϖ y/\H x=BD (.yb C a c)/\H y=BD (.yb C b gs)/\xm K C/\(x=y->Q (Ϫ E8) H)/\(x≠y->Q (Ϫ J8) H)
noncomputable def rtO:ii Fl->ii Fl
 | J (.rt v) σ=>J (.rt v) σ
 |_=>ϕ
def eQ(A R:M Fl):D->D->M Fl
 | O i,O j=>λa=>if i=j then rtO (A a)else R a
 |_,_=>λb=>ϕ
def RK(l:List$ Nat × Nat)(b:h8)(A R:M Fl)(x y:D):M Fl:=λa=>match Sj a x,Sj a y with
 |some (c,_),BD (d,_)=>if (c,d)∈l then R a else if c=d/\c∈b then eQ A R x y a else ϕ
 |_,_=>ϕ
def YF(l:List$ Nat × Nat)(b:h8)(c fr:Ev->M D)(d e:Ev->M Fl):Ev->M Fl:=λa=>xs a (c a) λx=>xs a (fr a)$ RK l b (d a) (e a) x
def Đ(m:X.A.units+9<cLine):wh X (Jb .Eq)$ M8 X.K:=by
 intro a s st H v u b j Q I i f h;rcases h with h|h
 ·exact o6 m a s st H v u b j Q I i f h
 ·obtain⟨x,y,C,r,w,z,gs,rfl,rfl,k,l,c,q,p⟩:=h;obtain rfl:b=Db x:=i;obtain rfl:j=Db y:=f;obtain⟨_,_,_,n,_⟩:=(I.Cc x _ k)
  obtain⟨_,_,_,o,_⟩:=(I.Cc y _ l)
  obtain⟨h,g,d,t,B⟩:=s;exact G7 I.Ki c n rfl o rfl ⋯ (λe=>⟨Ϫ E8,H,I,rfl,q e⟩) (λe=>⟨Ϫ J8,H,I,rfl,p e⟩)
def Ü{A rest}(hu:X.A.units+9<cLine)(ht:yJ X.K T.ca l)(hs:∀ c∈P,xm X.K (T.ca c))(hm:be .Eq b=J8)(hl:FE T X a fl)(hr:FE T X b fr)(ha:Ek T X A Q)(m:Ek T X rest gr) :
  Ek T X (.If (.Compare a [.Eq] [b] p) A [] Y::rest)$ YF l P fl fr Q gr:=by
 intro B s st H D I hw;refine sT (pQ (cK (Đ hu) hl hr hm) ha xQ) m B s st H D I ?_;obtain⟨μ,q,σ,t,V,hp⟩:=hw;refine⟨μ,q,σ,t,V,Pb.xs t hp λx a4 a3 v H1 J L r1 p1 q1=>⟨a3,q,a4,t.mono L,r1,Pb.xs (t.mono L) q1 λy f n u H2 J e2 o p2 e=>?_⟩⟩;have w:=Na.mono e2 _ _ p1;have h:=(t.mono L).mono e2;unfold RK at e;cases E:Sj f x with
 |none=>rw[E]at e;exact e.elim
 |some cf=>
  cases ϋ:Sj f y with
  |none=>rw[E,ϋ]at e;exact e.elim
  |some cg=>
   obtain⟨c,fs⟩:=cf;obtain⟨d,gs⟩:=cg;rw[E,ϋ]at e;dsimp only at e;obtain⟨C,G,vs,rfl,R,_⟩:=Vz o w E;obtain⟨r,ό,Z,rfl,S,_⟩:=Vz o p2 ϋ;by_cases g:(c,d)∈l
   ·rw[ja g]at e;obtain⟨z1,z2,z3,z4⟩:=ht _ g;exact ϐ ⟨C,r,_,_,G,ό,vs,Z,rfl,rfl,R,S,z1,z2,z3,z4,J8,rfl,n,q,f,h,o,e⟩
   ·rw[pa g]at e;by_cases ϊ:c=d/\c∈P
    ·rw[ja ϊ]at e;obtain⟨rfl,hc⟩:=ϊ;cases x with
     |ref i=>
      cases y with
      |ref j=>
       obtain⟨a1,z1,m1⟩:=w;obtain⟨a2,z2,W⟩:=p2;cases z1;cases z2;unfold eQ at e;dsimp only at e;by_cases k:i=j
       ·subst k;rw[m1]at W;cases W;rw[ja rfl]at e;refine ϓ ⟨C,C,_,G,ό,vs,Z,rfl,rfl,R,S,hs c hc,λJ=>⟨E8,rfl,n,q,f,h,o,?_⟩,λz=>absurd rfl z⟩;cases N:Q q f with
        |ok F a5=>
         cases F with
         |rt v=>
          rw[N]at e;intro a0 F H' e' r' q';have:=e a0 F H' e' r' q';cases F with
          |rt v=>exact this
          |_=>exact q'.elim
         |_=>rw[N]at e;exact e.elim
        |_=>rw[N]at e;exact e.elim
       ·rw[pa k]at e;refine ϓ ⟨C,r,_,G,ό,vs,Z,rfl,rfl,R,S,hs c hc,λz=>?_,λJ=>⟨J8,rfl,n,q,f,h,o,e⟩⟩;subst z;obtain⟨i1,i2⟩:=ba.mp m1;obtain⟨j1,j2⟩:=ba.mp W;exact absurd ((Iw o.nd).mp$ i2.trans j2.symm) k
      |_=>exact e.elim
     |_=>exact e.elim
    ·rw[pa ϊ]at e;exact e.elim
end L4
set_option maxHeartbeats 0
namespace K55
open Spec L2 L4
noncomputable def Yi(i:Nat):Stmt:=PySem.Challenge.pw_sidebook_k55_looks_by_rising_hands.main.body.getD i$ .Pass ⟨0,0,0,0⟩
def SI(K:ϗ):Tab:=⟨fx K "least_fate",443,35, "least_fate.<locals>.<lambda>"⟩
def AH(K:ϗ):Tab:=⟨fx K "paper",458,27, "paper.<locals>.<lambda>"⟩
def tx(K:ϗ):Tx:=⟨[SI K,AH K],pz K⟩
def UW K:SI K∈(tx K).ro:=(.head _)
def GW K:AH K∈(tx K).ro:=(.tail _$ .head _)
def yq3 K:∀ t∈(tx K).ro,∃ x∈[("least_fate" : Str),("paper" : Str)],t.P=fx K x:=by
 intro t a;have h:t∈[SI K,AH K]:=a;simp only[Da,Ze,bp]at h;rcases h with rfl|rfl
 ·exact⟨"least_fate",by simp,rfl⟩
 ·exact⟨"paper",by simp,rfl⟩
inductive Al{α:Type}(P:α->Prop):List α->Prop
 |n:Al P []
 |c {x:α} {l:List α} (h:P x) (t:Al P l):Al P (x::l)
def Al.get{P}{l:List a}(h:Al P l):∀ x∈l,P x:=by
 induction h with
 |n=>simp
 |c h _ i=>simp_all
inductive qD(E:ab):List Arg->ab->ab->Prop
 |nil:qD E [] [] E
 |cons {x:Str} {a:Option Ia} {p:Td} {as:List Arg} {ps N:ab} (t:qD E as ps N):qD E (⟨x,a,p⟩::as) (x::ps) (x::N)
def qD.map(h:qD E a ps N):a.map (·.arg)=ps:=by
 induction h<;>simp_all
noncomputable def fX:Stmt->Str
 | .FunctionDef x _ _ _ _ _ _ _ _ _=>x
 |_=>""
inductive oz(E:ab):Stmt->Str->ab->ab->Prop
 |mk {x as ps N a b c d e f g h i j k l m n} (t:qD E as ps N):oz E (.FunctionDef x ⟨a,as,b,c,d,e,f⟩ g h i j k l m n) x ps N
def HF(K:ϗ)(b:Str->Option Value)(a:Stmt):Prop:=kt K b (fX a) a ((xl a).args.map (·.arg))
def HM(K:ϗ)(f:Addr)(a:Stmt):Prop:=∃ q,iv K 0 (fX a) q a ((xl a).args.map (·.arg)) f
def m9{K mg x st st' ps}(a:st=st')(d:(fX st',(xl st').args.map (·.arg))=(x,ps))(h:kt K mg x st ps):HF K mg st:=by
 subst a;cases d;exact h
def ù{K f x q st st' ps}(a:st=st')(d:(fX st',(xl st').args.map (·.arg))=(x,ps))(h:iv K 0 x q st ps f):HM K f st:=by
 subst a;cases d;exact⟨q,h⟩
def oz.fn{K mg x E st ps N}(d:oz E st x ps N)(h:HF K mg st):kt K mg x st ps:=by
 cases d with|mk t=>cases t.map;exact h
def oz.me{K f x E st ps N}(d:oz E st x ps N)(h:HM K f st):∃ q,iv K 0 x q st ps f:=by
 cases d with|mk t=>cases t.map;exact h
def QF{b c:Type}:List c->(List b->Prop)->Prop
 |[],P=>P []
 |_::l,P=>∀ a,QF l λt=>P$ a::t
@[elab_as_elim] theorem QF.ap{b c:Type}:∀ (l:List c) {P:List b->Prop} (u:List b) (_:u.length=l.length) (_:QF l P),P u
 |[],_,[],_,z=>z
 |_::l,_,a::u,h,z=>QF.ap l u (Nat.succ.inj h) (z a)
abbrev vJ(x q:Str)(st:Stmt)(ps:ab)(c:em):Prop:=∀ (t:Addr) (kV b d:Value) (an:Option Addr) (a ct:Value) (s:Shared) (o:Obj) (n:Nat) (us:em),s.heap.get? t=BD o->o.data=Ϩ c.toArray n->((us++[]).length=ps.length->Qe s (Ϯ x q (xl st) (Nj st) (Kf st) (Db t) kV b d an a ct) ⟨us,[]⟩ (ps.zip$ us++[]))/\((us++c).length=ps.length->Qe s (Ϯ x q (xl st) (Nj st) (Kf st) (Db t) kV b d an a ct) ⟨us,[]⟩ (ps.zip$ us++c))
noncomputable abbrev QQ:h8:=[113,8,9,11,57,58,59,100,13,12,15,10,27,29,28,14,30,32,110,36,35,38,105,106,33,34,16,46,47,65,64,66,67,70,40,80,81,82,83,84,85,87,88,89,90,92,93,86,95,101,115,103,102,116,117]
noncomputable abbrev aM:List$ Nat × List (Nat × Nat):=[(50,[(0,17)]),(62,[(0,30),(14,44),(2,32),(1,31),(8,38),(9,39),(13,43),(4,34),(3,33)]),(108,[(2,57),(1,56),(12,67),(3,58),(7,62),(8,63),(9,64),(11,66),(14,69),(13,68),(16,71),(17,72),(18,73),(15,70),(5,60),(20,75),(21,76),(22,77),(23,78),(19,74),(4,59)]),(71,[(0,45),(1,46),(2,47)]),(111,[(2,81),(9,88),(12,91),(3,82),(13,92),(11,90),(1,80),(21,100),(22,101)]),(72,[(0,48),(1,49)]),(73,[(0,50),(1,51)]),(74,[(0,52),(1,53)]),(79,[(0,54)]),(51,[(0,18)])]
noncomputable abbrev fL:h8:=[5,6,7,8,9,10,11,12,13,14,15,16]
noncomputable abbrev zE:List$ Str × h8:=[("pots",[9,14,16]),("day",[7,9]),("whole",[5,6,7,8]),("claims",[9,15]),("shown",[9]),("public",[16]),("every",[14,15,16]),("keepers",[16]),("under_way",[16]),("things",[16]),("hand",[15]),("last_look",[14,15]),("gave",[15]),("known",[14,15]),("accounts",[15]),("seen",[15]),("asked",[15]),("finishing",[15]),("pot",[10,11,12,13]),("side",[7,8,10,11,12,13]),("mine",[10,11,12,13]),("grant",[10,11,12,13]),("may",[10,11,12,13]),("strikes",[10,11,12,13])]
noncomputable abbrev DQ:List$ Nat × List (Str × Nat):=[(9,[("made_of",44),("today",32),("check_pot",31),("told",38),("shown_for",39),("all_shown",43),("show",34),("next_day",33)]),(15,[("learn",57),("hold",56),("holds",67),("words",58),("view_by",62),("view",63),("worth",64),("is_good",66),("wish_for",69),("wish",68),("take_ask",71),("is_as_asked",72),("take_step",73),("take",70),("given",60),("strike_all",75),("is_to_show",76),("show_all",77),("lay_all",78),("look",74),("looked",59)]),(16,[("keeper",81),("send",88),("wish",91),("road",82),("check_letter",92),("hand_over",90),("deliver",93),("book",80),("look",100),("next_day",101)]),(13,[("word",52),("agree_of",46),("strike_of",47),("taken",53)]),(12,[("word",50),("agree_of",46),("strike_of",47),("taken",51)]),(11,[("word",48),("agree_of",46),("strike_of",47),("taken",49)]),(10,[("agree_of",46)]),(6,[("told",18)])]
noncomputable abbrev AQ:List$ Str × Int:=[("MOST_AMOUNT",1000000000000),("MOST_COIN",1000000000000),("MOST_DAY",1000000),("MOST_EVERY",50),("MOST_HAND",3),("MOST_NUMBER",1000000),("MOST_POT",2),("MOST_SHARE",2000000000000),("MOST_TIES",6),("MOST_WAIT",100),("MOST_WORD",59)]
structure Jg(K:ϗ)(mg:Str->Option Value)(ca:Nat->Addr):Prop where
 Gh:mP K mg "stand" (Yi 31) ["number","shares","ties"] [Fc]
 Zd:kt K mg "first_account" (Yi 75) ["pot","side","left","right"]
 Pp:Bp K (ca 15) "__init__" "Keeper.__init__" (qv (Yi 108) 0) ["self","hand","every","pots","words"] [Fc] (ca 55)
 wo:Bp K (ca 16) "__init__" "Hall.__init__" (qv (Yi 111) 0) ["self","pots","keeps","every","words"] [Fc] (ca 79)
 Rf:kt K mg "offered" (Yi 76) ["account","shares","ties"]
 Sf:kt K mg "step_to" (Yi 107) ["account","one"]
 Se:yH K mg "least_fate" (Yi 91) ["lots","every"]
 Dj:yH K mg "paper" (Yi 94) ["view"]
 Nd:Bp K (ca 16) "deliver" "Hall.deliver" (qv (Yi 111) 14) ["self","k","stays"] [Rg J8] (ca 93)
 jc:kt K mg "_law_deliver" (Yi 114) ["_law_hall"]
 ve:kt K mg "_law_looks" (Yi 118) ["_law_hall","_law_shows","_law_every","_law_cell"]
 En:kt K mg "law" (Yi 119) ["_law_script"]
 oi:mg "worth_worth" = mg "worth"
 tf:Al (λi=>HF K mg (Yi i)) QQ
 tm:Al (λp=>Al (λq=>HM K (ca q.2) (qv (Yi p.1) q.1)) p.2) aM
 tc:Al (λc=>L2.zr K (ca c)) fL
 ta:Al (λp=>Al (λc=>L2.Yx K (ca c) p.1) p.2) zE
 te:Al (λp=>Al (λq=>L2.Su K (ca p.1) q.1 (ca q.2)) p.2) DQ
 ti:Al (λp=>∃ t,mg p.1=BD (Jh p.2 t)) AQ
 wE:mg "all" = A5
 Yz:mg "bool" = A5
 Eu:mg "dict" = A5
 Cp:mg "enumerate" = A5
 nE:mg "int" = A5
 yg:mg "isinstance" = A5
 Fy:mg "len" = A5
 kA:mg "list" = A5
 Jr:mg "min" = A5
 yx:mg "range" = A5
 lz:mg "set" = A5
 Gp:mg "sorted" = A5
 AF:mg "str" = A5
 nF:mg "sum" = A5
 gy:mg "tuple" = A5
 eF:mg "zip" = A5
 SA:yE K mg "FIRM" ["won","sure","back"]
 Qu:yE K mg "HELD" ["held"]
 uB:mg "Held" = BD (Db (ca 6))
 wx:L2.Mk K (ca 6) (ca 17)
 dA:mg "Book" = BD (Db (ca 9))
 ux:L2.Mk K (ca 9) (ca 30)
 vB:mg "Calm" = BD (Db (ca 11))
 Qw:L2.Mk K (ca 11) (ca 45)
 Bu:mg "Keeper" = BD (Db (ca 15))
 ut:L2.Mk K (ca 15) (ca 55)
 aB:mg "Hall" = BD (Db (ca 16))
 Qx:L2.Mk K (ca 16) (ca 79)
 Zs:mg "Offered" = BD (Db (ca 12))
 Bq:L2.Mk K (ca 12) (ca 45)
 xt:mg "Waiting" = BD (Db (ca 13))
 Cq:L2.Mk K (ca 13) (ca 45)
 VA:mg "View" = BD (Db (ca 14))
 Vx:L2.Mk K (ca 14) (ca 54)
 yj:L4.xm K (ca 11)
 Dk:L4.xm K (ca 12)
 Lk:W.mroIn K (ca 12) (Db (ca 11))=BD J8
 Vk:(ca 11)≠(ca 12)
 ni:L4.xm K (ca 13)
 Yk:W.mroIn K (ca 13) (Db (ca 11))=BD J8
 Xk:(ca 11)≠(ca 13)
 Zk:W.mroIn K (ca 11) (Db (ca 13))=BD J8
 Tk:(ca 13)≠(ca 11)
 tb:Ux K ["least_fate","paper"]
 mR:mg "__builtins__" = BD (Db (pz K))
 EE:∀ t∈(tx K).ro,∀ t'∈(tx K).ro,t'.P=t.P->t'=t
seal L2.PE L2.PS L2.xw L2.PT L2.PW L2.PA L2.PI L2.PG
def OL{sc}(a:sc.kind=Ϥ:=by rfl)(b:sc.isCoroutine=J8:=by rfl)(c:sc.isGenerator=J8:=by rfl)(h:N.Nodup/\N.take Q.length=Q/\(∀ x∈Q,sc.names.lookup x=BD .local\/sc.names.lookup x=BD Gc)/\∀ y∈sc.names,y.2≠ xb:=by decide +kernel):Ec N Q sc:=⟨a,b,c,h.1,h.2.1,h.2.2.1,h.2.2.2⟩
def fO{K}(a:Jg K e b)(h:(x,cs)∈zE:=by repeat (first|with_reducible exact ua|refine ra _ ?_)):RH ⟨K,b,tx K⟩ cs x:=λc d=>⟨a.tc.get _$ (by decide +kernel:∀ p∈zE,∀ c∈p.2,c∈fL) _ h _ (by simpa using d),(a.ta.get _ h).get _ (by simpa using d)⟩
class ZqF (k m:outParam Nat) (x:Str) (ps:outParam (ab)) where
 f:lv->M D
 ok:∀ {P:Ba} {w:Ra} {K:ϗ} {mg:Str->Option Value} {base:Heap} {ca:Nat->Addr},Jg K mg ca->Ei ⟨K,ca,tx K⟩ P w mg base k x ps f
 len:ps.length=m
structure MF(k m n:Nat)(ps:ab) where
 f:lv->M D
 ok:∀ {P:Ba} {w:Ra} {K:ϗ} {mg:Str->Option Value} {base:Heap} {ca:Nat->Addr},Jg K mg ca->Mr ⟨K,ca,tx K⟩ P w mg base k (ca n) ps f
 len:ps.length=m
class Uf (k m:outParam Nat) (x:Str) (ps:outParam (ab)) (tb:outParam Mt):Prop where
 ok:∀ {P:Ba} {w:Ra} {K:ϗ} {mg:Str->Option Value} {base:Heap} {ca:Nat->Addr},Jg K mg ca->qH ⟨K,ca,tx K⟩ P w mg base k x ps tb
 len:ps.length=m
instance {k m:Nat} {x:Str} {ps:ab}:CoeFun (ZqF k m x ps) λa=>lv->M D:=⟨λq=>q.f⟩
instance {k m:Nat} {x:Str} {a:ab}:CoeOut (ZqF k m x a)$ lv->M D:=⟨λq=>q.f⟩
instance {k m n:Nat} {ps:ab}:CoeFun (MF k m n ps) λa=>lv->M D:=⟨λq=>q.f⟩
instance {k m n:Nat} {a:ab}:CoeOut (MF k m n a)$ lv->M D:=⟨λq=>q.f⟩
abbrev Hb(x:Str)(k:Nat)(N:ab)(st:Stmt)(g:Ev->M Fl):Prop:=∀ {P:Ba} {w:Ra} {K:ϗ} {b:Str->Option Value} {base:Heap} {ca:Nat->Addr} {f:Addr} {a:Value} {A:Ma} {outer:List wg} {s:Shared} {H:Hp} {E:XK},Jg K b ca->Md k (A.deeper$ rg x (Kf st) s.heap.objs.size f a)->N.Nodup->Ek ⟨K,ca,tx K⟩ (vp (Kk P w) P w K b base N x (Kf st) f a A outer s H E) (Nj st) g
def Tc(n m k i:Nat)(E:ab){x:Str}{st:Stmt}{ps N:ab}{g:Ev->M Fl}(j:Yi i=st:=by conv=>lhs;whnf)(f:oz E st x ps N:=by repeat constructor)(hb:Hb x k N st g:=by walk_at "-")(S:Ec N ps$ Kf st:=by exact OL)(e:N.length=n:=by rfl)(d:ps.length=m:=by rfl)(c:i∈QQ:=by decide +kernel):ZqF (k+1) m x ps:=⟨L4.Yd λb=>L4.Uc$ Ch n g b,λa=>e ▸ Ei.Yd (Ei.Uc$ mC (f.fn$ j ▸ a.tf.get i c) S λv v v v v v v h=>hb a h S.nd),d⟩
@[simp] theorem ynz{st}{hs hp hb S hn hm hi}:(Tc n m k i E (x:=x) (st:=st) (ps:=ps) (N:=N) (g:=g) hs hp hb S hn hm hi).f=L4.Yd λa=>L4.Uc$ Ch n g a:=rfl
def eg(n m k j t i:Nat)(E:ab){x:Str}{st:Stmt}{ps N:ab}{g:Ev->M Fl}{l:List$ Nat × Nat}(r:qv (Yi t) i=st:=by conv=>lhs;whnf)(o:oz E st x ps N:=by repeat constructor)(hb:∀ {q:Str},Hb q k N st g:=by walk_at "-")(S:Ec N ps$ Kf st:=by exact OL)(f:N.length=n:=by rfl)(e:ps.length=m:=by rfl)(c:(t,l)∈aM:=by repeat (first|with_reducible exact ua|refine ra _ ?_))(d:(i,j)∈l:=by repeat (first|with_reducible exact ua|refine ra _ ?_)):MF (k+1) m j ps:=⟨L4.Yd λb=>L4.Uc$ Ch n g b,λa=>let ⟨_,h⟩:=o.me (r ▸ ((a.tm.get (t,l) c).get (i,j) d:HM _ _ (qv (Yi t) i)));f ▸ Mr.Yd (Mr.Uc$ ET h S λv v v v v v p=>hb a p S.nd),e⟩
@[simp] theorem yny{st}{hs hp hb S hn hm hi hj}:(eg n m k j t i E (x:=x) (st:=st) (ps:=ps) (N:=N) (g:=g) (l:=l) hs hp hb S hn hm hi hj).f=L4.Yd λa=>L4.Uc$ Ch n g a:=rfl
def Hf(n m k j t i:Nat)(E:ab){x:Str}{st:Stmt}{ps N:ab}{g:Ev->M Fl}{l:List$ Nat × Nat}(p:qv (Yi t) i=st:=by conv=>lhs;whnf)(f:oz E st x ps N:=by repeat constructor)(hb:∀ {q:Str},Hb q k N st g:=by walk_at "-")(S:Ec N ps$ Kf st:=by exact OL)(e:N.length=n:=by rfl)(d:ps.length=m:=by rfl)(b:(t,l)∈aM:=by repeat (first|with_reducible exact ua|refine ra _ ?_))(c:(i,j)∈l:=by repeat (first|with_reducible exact ua|refine ra _ ?_)):MF (k+1) m j ps:=⟨L4.Yd$ Ch n g,λa=>let ⟨_,h⟩:=f.me (p ▸ ((a.tm.get (t,l) b).get (i,j) c:HM _ _ (qv (Yi t) i)));e ▸ Mr.Yd (ET h S λv v v v v v o=>hb a o S.nd),d⟩
@[simp] theorem yn0{st}{hs hp hb S hn hm hi hj}:(Hf n m k j t i E (x:=x) (st:=st) (ps:=ps) (N:=N) (g:=g) (l:=l) hs hp hb S hn hm hi hj).f=L4.Yd (Ch n g):=rfl
theorem Uf.Tf k c x(q:MF j m n ps)(r:Uf k m x ps b)(e:j<=k:=by decide)(h:(c,l)∈DQ:=by repeat (first|with_reducible exact ua|refine ra _ ?_))(g:(x,n)∈l:=by repeat (first|with_reducible exact ua|refine ra _ ?_))(d:c∈fL:=by decide):Uf k m x ps$ (c,q.f)::b:=⟨λa=>Č (T:=⟨_,_,tx _⟩) (a.tc.get _ d) ((a.te.get _ h).get _ g) (q.ok a) e$ r.ok a,r.len⟩
def Uf.nil(h:ps.length=m:=by rfl):Uf k m x ps []:=⟨λa=>f9,h⟩
section
variable{ca:Nat->Addr}{k m n:Nat}{ps:ab}{x:Str}{p pos pos' apos:Td}{e o i v:Ia}{es:List Ia}{f g fo fi fv:Ev->M D}{fs:Ev->M (lv)}{cs:h8}{pl:cn Bool}
abbrev TX(X:Cx)(ca:Nat->Addr):Tb:=⟨X.K,ca,tx X.K⟩
def XZ[q:ZqF k m x ps](o:Md n X.A)(c:Jg X.K X.mg ca)(d:FA (TX X ca) X (e::es) fs)(j:k<=n:=by decide)(i:Gl X x:=by exact rfl)(a:(x == ("__debug__" : Str))=J8:=by decide)(g:wa (e::es) X.env=(J8,Qb e X.env)::wa es X.env:=by rfl)(b:(Dc pos$ wa es X.env).any (·.1)=J8:=by rfl):FE (TX X ca) X (Ϡ (ϝ x p) (e::es) [] pos)$ Gf m q.f [] fs:=by
 have h:=q.ok (P:=X.prog) (w:=X.w) (base:=X.base) c;have l:=q.len;subst l;exact Ps h rfl (o.mono j) i d a g b
def å{d}[q:Uf k m x ps d](r:Md n X.A)(g:Jg X.K X.mg ca)(p:FE (TX X ca) X o f)(i:FA (TX X ca) X (e::es) fs)(j:k<=n:=by decide)(b:wa (e::es) X.env=(J8,Qb e X.env)::wa es X.env:=by rfl)(a:(Dc pos$ wa es X.env).any (·.1)=J8:=by rfl) (s:Qb (Ϡ (ϟ o x apos) (e::es) [] pos) X.env=(do
   let c <-Qb o X.env
   ai apos.atName
   let (f,first) <-Pe [c] (Ni c x pl)
   qr pos f first (Dc pos$ wa (e::es) X.env) (Lh pos$ pf [] X.env)):=by rfl):FE (TX X ca) X (Ϡ (ϟ o x apos) (e::es) [] pos)$ vf d m x f fs:=by
 have h:=q.ok (P:=X.prog) (w:=X.w) (base:=X.base) g;have l:=q.len;subst l;exact FH rfl p h (r.mono j) i b a s
def į{b}[q:Uf k m x ps b](g:Md n X.A)(c:Jg X.K X.mg ca)(e:FE (TX X ca) X o f)(d:k<=n:=by decide) (i:Qb (Ϡ (ϟ o x apos) [] [] pos) X.env=(do
   let a <-Qb o X.env
   ai apos.atName
   let (f,first) <-Pe [a] (Ni a x pl)
   qr pos f first (Dc pos$ wa [] X.env) (Lh pos$ pf [] X.env)):=by rfl):FE (TX X ca) X (Ϡ (ϟ o x apos) [] [] pos)$ vf b m x f zb:=by
 have h:=q.ok (P:=X.prog) (w:=X.w) (base:=X.base) c;have l:=q.len;subst l;exact ê rfl e h (g.mono d) i
def Ź(a:Jg X.K X.mg ca)(c:FE (TX X ca) X e g)(b:Xc e x X.env (Qb e X.env)=Qb e X.env:=by rfl)(d:(x,cs)∈zE:=by repeat (first|with_reducible exact ua|refine ra _ ?_)):FE (TX X ca) X (ϟ e x pos)$ Vd (bc cs x) g:=V8 rfl (fO a d) c b
def Τ(a:Jg X.K X.mg ca)(b:FE (TX X ca) X o fo)(e:FE (TX X ca) X v fv)(d:Lg v (BD$ ϟ o x pos') pos.line X.env=pure J8:=by rfl)(c:(x,cs)∈zE:=by repeat (first|with_reducible exact ua|refine ra _ ?_)):FS (TX X ca) X (.Assign [ϟ o x pos'] v pos)$ Jl cs x fv fo:=ydd rfl (fO a c) b e d
def m7(a:Jg X.K X.mg ca)(c:Gl X x:=by exact rfl)(b:(x == ("__debug__" : Str))=J8:=by decide)(d:(x,z)∈AQ:=by repeat (first|with_reducible exact ua|refine ra _ ?_)):FE (TX X ca) X (ϝ x pos)$ eC$ U z:=by
 obtain⟨t,h⟩:=a.ti.get _ d;exact g9 c h ⟨_,rfl⟩ b
end
noncomputable def Rt:Ia->Str
 | ϝ x _=>x
 | ϱ (ϝ x _::_) _ _=>x
 |_=>""
noncomputable def Yv:Ia->Str
 | ϱ (_::ϝ x _::_) _ _=>x
 |_=>"0"
noncomputable def fr(s:Scope)(p:h8):ab:=p.map λi=>((s.names.filter λy=>y.2 == xb).map (·.1)).getD i ""
section
variable{elt iter tgt:Ia}{ifs:List Ia}{scope:Scope}{pos spos py:Td}{y:Str}{src:Ev->M NX}{tg:D->Ev->Option Ev}{fi:Ev->M Bool}{fe:Ev->M D}
def yco h c(e:Fq T X tgt iter src)(g:(Rt tgt::Yv tgt::fr scope c).Nodup->∀ cl C b a ex,FG T (Po X (Rt tgt::Yv tgt::fr scope c) scope cl C b a ex) tgt tg)(f:∀ cl C b a ex,iy T (Po X (Rt tgt::Yv tgt::fr scope c) scope cl C b a ex) ifs fi)(d:∀ cl C b a ex,FE T (Po X (Rt tgt::Yv tgt::fr scope c) scope cl C b a ex) elt fe)(j:(Rt tgt::Yv tgt::fr scope c).Nodup:=by decide +kernel)(L:Wj X (Rt tgt) (fr scope c) h scope:=by exact⟨rfl,rfl,rfl,rfl,rfl,rfl⟩)(i:X.de=E8:=by rfl)(k:∀ y,oe iter X.env y=pure y:=by intro _;rfl):FE T X (ϴ elt [⟨tgt,iter,ifs,0⟩] scope pos)$ Uk src h tg fi fe:=ycp i L e (g j) f d k
def dZ i j c(k:X.N.Nodup)(e:Fq T X tgt iter src)(h:(Rt tgt::Yv tgt::fr scope c).Nodup->∀ cl C b a ex,FG T (Po X (Rt tgt::Yv tgt::fr scope c) scope cl C b a ex) tgt tg)(f:∀ cl C b a ex,iy T (Po X (Rt tgt::Yv tgt::fr scope c) scope cl C b a ex) ifs fi)(d:∀ cl C b a ex,FE T (Po X (Rt tgt::Yv tgt::fr scope c) scope cl C b a ex) elt fe)(o:(Rt tgt::Yv tgt::fr scope c).Nodup:=by decide +kernel)(n:X.N[i]?=BD y:=by rfl)(q:Loc X.env.scope y:=by first|exact Or.inl rfl|exact Or.inr rfl)(L:Wj X (Rt tgt) (fr scope c) j scope:=by exact⟨rfl,rfl,rfl,rfl,rfl,rfl⟩)(l:X.de=E8:=by rfl)(p:∀ y,oe iter X.env y=pure y:=by intro _;rfl)(g:Lg (ϴ elt [⟨tgt,iter,ifs,0⟩] scope pos) (BD$ ϝ y py) spos.line X.env=pure E8:=by rfl)(m:X.fn y=E8\/X.env.scope.names.lookup y=BD .local:=by first|exact .inl rfl|exact .inr rfl|assumption):FS T X (.Assign [ϝ y py] (ϴ elt [⟨tgt,iter,ifs,0⟩] scope pos) spos)$ Xe i$ Uk src j tg fi fe:=zg9 k n q l L e (h o) f d p g m
end
class ZqC (c k m:outParam Nat) (x:Str) (ps:outParam (ab)) (fn:outParam (lv->M D)):Prop where
 ok:∀ {P:Ba} {w:Ra} {K:ϗ} {mg:Str->Option Value} {base:Heap} {ca:Nat->Addr},Jg K mg ca->ZU ⟨K,ca,tx K⟩ P w mg base k x c ps fn
 len:ps.length=m
def C3{X}{d}{c k m n}{ps}{x}{i}{p b}{e}{a}{j}[q:ZqC c k m x ps i](v:Md n X.A)(o:Jg X.K X.mg d)(r:FA (TX X d) X (e::a) j)(u:k+1<=n:=by decide)(t:Gl X x:=by exact rfl)(f:(x == ("__debug__" : Str))=J8:=by decide)(s:wa (e::a) X.env=(J8,Qb e X.env)::wa a X.env:=by rfl)(g:(Dc b$ wa a X.env).any (·.1)=J8:=by rfl):FE (TX X d) X (Ϡ (ϝ x p) (e::a) [] b)$ lq c m i j:=by
 have h:=q.ok (P:=X.prog) (w:=X.w) (base:=X.base) o;have l:=q.len;subst l;exact ì h rfl (v.mono u) t r f s g
set_option hygiene false
def wkA(k:String):Lean.MacroM Lean.Term:=
 if k == "_" then `(_) else if k == "?" then `(?_) else if k == "!" then `(by assumption) else if k == "λ" then `(λa a=>rfl) else let r:=(k.drop 1).toString
 if k.front == '\'' then return Lean.Syntax.mkStrLit r else if k.front.isDigit then return Lean.Syntax.mkNumLit k else let i:=λ(k:String)=>Lean.mkIdent ((k.splitOn ".").foldl Lean.Name.str .anonymous)
 if k.front == '.' then let i:=i r;`(.$i:ident) else if k == "@n" then `(by first|assumption|(show List.Nodup (_::_::_);decide +kernel)) else if k == "@o" then `(by first|exact Or.inl rfl|exact Or.inr rfl) else match k.splitOn "=" with
 |[a,b]=>return ⟨.node .none ``Lean.Parser.Term.namedArgument #[Lean.mkAtom "(",Lean.mkIdent (.mkSimple a),Lean.mkAtom ":=",Lean.Syntax.mkNumLit b,Lean.mkAtom ")"]⟩
 |_=>return i k
def wkT(s:String):Lean.MacroM Lean.Term:=do
 let m:=λ(a:List Lean.Term)=>match a.reverse with|f::l=>Lean.Syntax.mkApp f l.toArray|_=>⟨.missing⟩
 let mut t:List$ List Lean.Term:=[[]]
 for k in s.splitOn " " do
  if k == "(" || k == "[" then t:=[]::t
  else match k,t with
   |")",a::b::r=>t:=(m a::b)::r
   |"]",a::b::r=>let a:=a.reverse.toArray;t:=((<- `([$a,*]))::b)::r
   |_,b::r=>t:=((<- wkA k)::b)::r
   |_,_=>pure ()
 return m t.head!
def wkF:List (Lean.TSyntax `tactic)->Lean.MacroM (Lean.TSyntax `tactic)
 |[t]=>pure t
 |t::r=>do let r <- wkF r;`(tactic| first|$t:tactic|$r:tactic)
 |[]=>`(tactic| fail)
def wkR(s:String):Lean.MacroM (Lean.TSyntax `tactic):=do wkF (<- (s.splitOn "|").mapM λt=>do let t <- wkT t;`(tactic| refine' $t))
def wkG(s:String):Lean.MacroM (Lean.TSyntax `tactic):=do
 match s.splitOn ";" with
 |[g,r]=>let g <- wkT g;let r <- wkR r;`(tactic| (guard_target =~ $g;$r:tactic))
 |[g,n,r]=>let g <- wkT g;let n <- wkT n;let r <- wkR r;`(tactic| (guard_target =~ $g;(fail_if_success (guard_target =~ $n));$r:tactic))
 |_=>`(tactic| fail)
def wkL(s:String):Lean.MacroM (Lean.TSyntax `tactic):=do
 match s.splitOn "\n" with
 |g::l=>let g <- wkT g;let r <- wkF (<- l.mapM wkG);`(tactic| (guard_target =~ $g;$r:tactic))
 |_=>`(tactic| fail)
def wkS:=["FE _ _ _ _\nFE _ _ ( .Constant _ _ _ ) _;zA|bZ|ý|ycs\nFE _ _ ( .Subscript _ ( .Slice _ _ _ _ ) _ ) _;P7 rfl ? ? ?\nFE _ _ ( .Subscript _ _ _ ) _;FE _ _ ( .Subscript ( .Attribute _ _ _ ) _ _ ) _;xK sM ( AO rfl ) ? ? λ\nFE _ _ ( .Call ( .Name 'len _ ) [ ( .Call ( .Name 'set _ ) _ _ _ ) ] _ _ ) _;K9 rfl rfl rfl ( Jg.Fy ! ) rfl ( Jg.lz ! ) ?\nFE _ _ ( .Call ( .Name 'len _ ) _ _ _ ) _;aC ņ ( K0 rfl ) rfl ( Jg.Fy ! ) uy ?\nFE _ _ ( .Call ( .Name 'sum _ ) _ _ _ ) _;aC ( U2 rfl ) ( Ĉ rfl ) rfl ( Jg.nF ! ) boot_sum ?\nFE _ _ ( .Call ( .Name 'all _ ) _ _ _ ) _;aC ( W4 rfl ) ( X7 rfl ) rfl ( Jg.wE ! ) boot_all ?\nFE _ _ ( .Call ( .Name 'isinstance _ ) [ _ ( .Name 'tuple _ ) ] _ _ ) _;sH .tuple ? rfl ( Jg.yg ! ) rfl ( Jg.gy ! ) boot_tuple\nFE _ _ ( .Call ( .Name 'isinstance _ ) [ _ ( .Name 'str _ ) ] _ _ ) _;sH .str ? rfl ( Jg.yg ! ) rfl ( Jg.AF ! ) boot_str\nFE _ _ ( .Call ( .Name 'isinstance _ ) [ _ ( .Name 'int _ ) ] _ _ ) _;sH .int ? rfl ( Jg.yg ! ) rfl ( Jg.nE ! ) boot_int\nFE _ _ ( .Call ( .Name 'isinstance _ ) [ _ ( .Name 'bool _ ) ] _ _ ) _;sH .bool ? rfl ( Jg.yg ! ) rfl ( Jg.Yz ! ) boot_bool\nFE _ _ ( .Call ( .Name _ _ ) _ _ _ ) _;XZ ! ! ?\nFE _ _ ( .Call ( .Attribute _ 'append _ ) _ _ _ ) _;YI uf Xm Ym DM NM ? ?\nFE _ _ ( .Call ( .Attribute _ 'extend _ ) _ _ _ ) _;YI uf PySem.F.slot_list_extend PySem.F.type_list_extend R3 R5 ? ?\nFE _ _ ( .Call ( .Attribute _ _ _ ) ( .cons _ _ ) _ _ ) _;å ! ! ? ?\nFE _ _ ( .Call ( .Attribute _ _ _ ) [ ] _ _ ) _;į ! ! ?\nFE _ _ ( .Attribute _ _ _ ) _;Ź ! ?\nFE _ _ ( .Tuple _ _ _ ) _;lT ?\nFE _ _ ( .BinOp _ .Add _ _ ) _;Lx ( OW rfl ) bw ? ?\nFE _ _ ( .BinOp _ .Sub _ _ ) _;Lx Q8 t3 ? ?\nFE _ _ ( .BinOp _ .Mod _ _ ) _;Lx wW oX ? ?\nFE _ _ ( .BinOp _ .FloorDiv _ _ ) _;Lx zwv n7 ? ?\nFE _ _ ( .BinOp _ .Mult _ _ ) _;Lx ygb Ġ ? ?\nFE _ _ ( .BinOp _ .Pow _ _ ) _;Lx yge ű ? ?\nFE _ _ ( .Compare _ [ .Eq ] _ _ ) _;Zq ( eW ( ao ! ) ) bw ? ? ( Qm _ )\nFE _ _ ( .Compare _ [ .NotEq ] _ _ ) _;Zq ( fW ( ao ! ) ) bw ? ? ( Qm _ )\nFE _ _ ( .Compare _ [ .Lt ] _ _ ) _;Zq gE DE ? ? ( Qm _ )\nFE _ _ ( .Compare _ [ .LtE ] _ _ ) _;Zq mG SF ? ? ( Qm _ )\nFE _ _ ( .Compare _ [ .Gt ] _ _ ) _;Zq wX MR ? ? ( Qm _ )\nFE _ _ ( .Compare _ [ .GtE ] _ _ ) _;Zq eL ON ? ? ( Qm _ )\nFE _ _ ( .Compare _ [ .Is ] _ _ ) _;Zq pR lY ? ? ( Qm _ )\nFE _ _ ( .Compare _ [ .IsNot ] _ _ ) _;Zq WR pX ? ? ( Qm _ )\nFE _ _ ( .Compare _ [ .LtE _ ] _ _ ) _;cZ mG SF mG SF ? ? ?\nFE _ _ ( .Compare _ [ .Lt _ ] _ _ ) _;cZ gE DE mG SF ? ? ?\nFE _ _ ( .BoolOp .And ( .cons _ ( .cons _ _ ) ) _ ) _;RF ? ?\nFE _ _ ( .BoolOp .Or ( .cons _ ( .cons _ _ ) ) _ ) _;n4 ? ?\nFE _ _ ( .BoolOp _ [ _ ] _ ) _;XI ?\nFE _ _ ( .UnaryOp .Not _ _ ) _;O1 ?\nFE _ _ ( .UnaryOp .USub _ _ ) _;v7 Ļ K6 ?\nFE _ _ ( .IfExp _ _ _ _ ) _;zlk ? ? ?","FA _ _ _ _\nFA _ _ _ _;wr|fm ? ?","Ek _ _ _ _\nEk _ _ _ _;xq|Qh ?|Vc ? ?","FS _ _ _ _\nFS _ _ ( .Return _ _ ) _;Ss ?\nFS _ _ ( .Assign [ ( .Attribute _ _ _ ) ] _ _ ) _;Τ ! ? ?\nFS _ _ ( .Expr _ _ ) _;iz ?","FT _ _ _ _\nFT _ _ ( .BoolOp _ _ _ ) _;L2.PW.pt ?\nFT _ _ ( .UnaryOp .Not _ _ ) _;HE ?\nFT _ _ ( .Compare _ [ .Eq ] _ _ ) _;Ar ( eW ( ao ! ) ) bw ? ? ( Qm _ )\nFT _ _ ( .Compare _ [ .NotEq ] _ _ ) _;Ar ( fW ( ao ! ) ) bw ? ? ( Qm _ )\nFT _ _ ( .Compare _ [ .Lt ] _ _ ) _;Ar gE DE ? ? ( Qm _ )\nFT _ _ ( .Compare _ [ .LtE ] _ _ ) _;Ar mG SF ? ? ( Qm _ )\nFT _ _ ( .Compare _ [ .Gt ] _ _ ) _;Ar wX MR ? ? ( Qm _ )\nFT _ _ ( .Compare _ [ .GtE ] _ _ ) _;Ar eL ON ? ? ( Qm _ )\nFT _ _ ( .Compare _ [ .Is ] _ _ ) _;Ar pR lY ? ? ( Qm _ )\nFT _ _ ( .Compare _ [ .IsNot ] _ _ ) _;Ar WR pX ? ? ( Qm _ )\nFT _ _ _ _;FT _ _ ( .Compare _ _ _ _ ) _;gC ?","FW _ _ _ _\nFW _ _ _ _;zP ? ?|GJ ? ?|PN ?|zH ?","FG _ _ _ _\nFG _ _ ( .Tuple _ _ _ ) _;PM n=2 rfl ?|PM n=3 rfl ?|PM n=4 rfl ?","iC _ _ _ _\niC _ _ _ _;zst|V6 ? ?","FI _ _ _ _ _\nFI _ _ _ ( .Call ( .Name 'range _ ) [ _ ] _ _ ) _;ā rfl ( Jg.yx ! ) ?\nFI _ _ _ _ _;sO rfl ?","Fq _ _ _ _ _\nFq _ _ _ ( .Call ( .Name 'enumerate _ ) _ _ _ ) _;i9 rfl ( Jg.Cp ! ) ?\nFq _ _ _ ( .Call ( .Name 'zip _ ) _ _ _ ) _;Í rfl ( Jg.eF ! ) ? ?","iy _ _ _ _\niy _ _ _ _;A0|ŗ ?","L4.FO _ _ _ _\nL4.FO _ _ _ _;zsy|T6 ?"]
def wkM:="A LL ģ ( Ė rfl ) rfl ( Jg.kA ! ) boot_list ?\nC LL mW zyy rfl ( Jg.Eu ! ) boot_dict ?\nD Ar ( vU rfl ( ao ! ) ) bw ? ? rfl|Zq ( vU rfl ( ao ! ) ) bw ? ? rfl\nF yz Uo rfl ? ? ?\nH LL mW Ρ rfl ( Jg.Eu ! ) boot_dict ?\nI aO ?\nK A7 ?\nL Ā ?\nM ž ? ? ?\nN Æ\nO aC ( zgf rfl ) ( zpt rfl ) rfl ( Jg.Gp ! ) L4.zQ ?\nQ Y1 rfl rfl rfl ( Jg.Gp ! ) rfl ( Jg.lz ! ) ?\nR C3 ! ! ?\na Oo ? ? ?\nb Oo ? Px ?\nd OO ( ao ! ) ? ? λ\nf vw Uo rfl ? ? ?\nh ZI ?\ni Ar ( vS ( ao ! ) ) IS ? ? rfl|Zq ( vS ( ao ! ) ) IS ? ? rfl\nj Ar ( OQ ( ao ! ) ) HX ? ? rfl|Zq ( OQ ( ao ! ) ) HX ? ? rfl\nl ycq ?\nm LN ( ao ! ) ? ? ?\nn η\no vV\ns Ar qP ( OT rfl false ) ? ? rfl|Zq qP ( OT rfl false ) ? ? rfl\nu m7 !\nv n8 ?\nx xK sM ( AO rfl ) ? ? λ\ny č ?\nz qS ?"
local macro_rules
 |`(tactic| walk_at $s:str)=>do
  let c:=s.getString.front;let r:=(s.getString.drop 1).toString;let r':=Lean.Syntax.mkStrLit r
  if c == '-' then return <- `(tactic| ((repeat intro _);walk_at "";walk_at $r'))
  if c == '+' then return <- `(tactic| (walk_at "";walk_at $r'))
  let n:=λ(c:Char)=>toString (c.toNat - 48);let (t,r) <-(if c == 'c' || c == 'q' || c == 'r' then (do
   let d:=(r.takeWhile (·!= '.')).toString.toList;let o:=(r.drop (d.length+1)).toString;let j:=n (d.headD '0');let d:=d.drop (if c == 'c' then 0 else 1);let e:=(d.takeWhile (·!= '/')).map n;let p:=((d.dropWhile (·!= '/')).drop 1).map n;let p:=if p.isEmpty then (List.range e.length).map toString else p
   let b:=λ(l:List String)=>l.foldl (·++·++" ") "[ "++"] ";let l:=b e++b p
   return (<- wkR (if c == 'c' then "yco "++l++"? ? ? ?" else if c == 'q' then "zs9 ( dZ "++j++" "++l++"! ? ? ? ? )" else "dZ "++j++" "++l++"! ? ? ? ?"),o)) else match (wkM.splitOn "\n").find? (·.front == c) with
    |some t=>return (<- wkR (t.drop 2).toString,r)
    |_=>return (<- wkF (<- (("FE _ _ _ _;Eh #\nFG _ _ _ _;P5 i=# @n rfl @o\nFS _ _ ( .Assign _ _ _ ) _;UC i=# @n rfl @o ?\n_;sZ i=# xV @n rfl @o ?".replace "#" (n c)).splitOn "\n").mapM wkG),r))
  let r:=Lean.Syntax.mkStrLit r;let t <- `(tactic| ($t:tactic<;>walk_at ""));let f:=λu=>`(tactic| first|$t:tactic|(rotate_left;$u:tactic))
  let u <- f (<- f (<- f (<- f t)))
  `(tactic| ($u:tactic;walk_at $r))
local macro_rules
 |`(tactic| walk_at "")=>do
  let r <- wkF (<- wkS.mapM wkL)
  `(tactic| repeat' ((fail_if_success guard_target =~ Ev->_);first
  |$r:tactic
  |(guard_target =~ List.Nodup _->_;intro _ _ _ _ _ _)
  |(intro _ _ _ _ _)))
section
variable{P:Ba}{w:Ra}{K:ϗ}{mg:Str->Option Value}{base:Heap}{ca:Nat->Addr}(a:Jg K mg ca)
include a
instance Mc:ZqF 1 2 "_law_cell_at" ["_law_script","_law_k"]:=Tc 2 2 0 113 [] (hb:=by walk_at "-a1001")
instance Zl:ZqF 1 1 "is_whole" ["thing"]:=Tc 1 1 0 8 [] (hb:=by walk_at "-00")
instance Ff:ZqF 2 3 "is_between" ["thing","least","most"]:=Tc 3 3 1 9 [] (hb:=by walk_at "-0102")
instance Bn:ZqF 3 1 "is_hand" ["thing"]:=Tc 1 1 2 11 [] (hb:=by walk_at "-0u")
instance Wg:ZqF 4 1 "makes_a_pot" ["thing"]:=Tc 1 1 3 57 [] (hb:=by walk_at "-0000000u0u0u")
abbrev uJ:Ev->M Fl:=(Mh (Uw (eT$ Fb uI (ya 1)$ eC$ U 2)$ Ap$ eT$ Gf 1 Wg []$ Qa (ya 2) zb) Mn Wh)
def gX:Ev->M Fl:=
 (lc (Am (uH$ ya 0) (Il 2$ Qg (pd 1)$ Qg (pd 2) Vl) uJ)$ vh$ Di$ So yq$ Qa (ya 0) zb)
instance gi:ZqF 5 1 "checked_pots" ["pots"]:=Tc 3 1 4 58 ["number","made"] (g:=gX) (hb:=by walk_at "-F012b1u2zA0")
def dB:=Hf 2 2 0 17 50 0 [] (hb:=by walk_at "-01")
instance Dh:ZqF 1 1 "whole_of" ["made"]:=Tc 1 1 0 59 [] (hb:=by walk_at "-00")
instance:ZqC 6 1 2 "Held" ["self","whole"] dB.f:=⟨λa=>⟨_,a.uB,a.wx,dB.ok a⟩,rfl⟩
def bz:=Hf 2 2 5 30 62 0 [] (hb:=by walk_at "-0100c.y00zR00c.y00n")
def Yt:=eg 1 1 0 44 62 14 [] (hb:=by walk_at "-zA0")
instance Iy:Uf 1 1 "made_of" ["self"] [(9,Yt)]:=.Tf 1 9 "made_of" Yt .nil
abbrev UN:Ev->M Fl:=(Mh (YB (eT$ Fb (Uy J8) (ya 0)$ qJ (ya 3) A5$ BD$ eC$ U 2)$ eT$ Fb oLt (Fb Kb (ya 3)$ eC$ U 4)$ Fb jh (ya 1)$ eC$ U 1) Mn Wh)
def tW:Ev->M Fl:=
 (lc (Mh (Ap$ eT$ Gf 3 Ff []$ Qa (ya 1)$ Qa (eC$ U 1)$ Qa (eC$ U 50) zb) Mn Wh)$ Qk (Gi$ ya 2) (pd 3) UN)
instance Fh:ZqF 3 3 "check_span" ["hand","every","pots"]:=Tc 4 3 2 100 ["made"] (g:=tW) (hb:=by walk_at "-b1uf23bs0331")
abbrev lnB:Ev->M Fl:=(yt (eC$ ϒ E8) (Vd (bc [14,15] "known")$ ya 0)$ ya 2)
def bH:Ev->M Fl:=
 (Qk (Gi$ ya 1) (pd 2) lnB)
def Cu:=Hf 3 2 0 57 108 2 ["word"] (g:=bH) (hb:=by walk_at "-f12m02")
instance zD:Uf 1 2 "learn" ["self","words"] [(15,Cu)]:=.Tf 1 15 "learn" Cu .nil
def AD:=Hf 4 4 0 56 108 1 [] (hb:=by walk_at "-m101m201m301")
instance Fu:Uf 1 4 "hold" ["self","account","claim","seen"] [(15,AD)]:=.Tf 1 15 "hold" AD .nil
instance Fp:ZqF 3 1 "is_day" ["thing"]:=Tc 1 1 2 13 [] (hb:=by walk_at "-0u")
instance Jn:ZqF 3 1 "is_word" ["thing"]:=Tc 1 1 2 12 [] (hb:=by walk_at "-0u")
instance Ck:ZqF 3 1 "is_amount" ["thing"]:=Tc 1 1 2 15 [] (hb:=by walk_at "-0u")
instance Ln:ZqF 3 1 "is_side" ["thing"]:=Tc 1 1 2 10 [] (hb:=by walk_at "-0")
instance Tl:ZqF 4 1 "is_tie" ["thing"]:=Tc 1 1 3 27 [] (hb:=by walk_at "-000000")
instance Lq:ZqF 5 1 "are_ties" ["thing"]:=Tc 1 1 4 29 [] (hb:=by walk_at "-b00ubzc.y000zc.y0000")
instance uo:ZqF 3 1 "are_shares" ["thing"]:=Tc 1 1 2 28 [] (hb:=by walk_at "-000u0u")
instance Fk:ZqF 3 1 "is_number" ["thing"]:=Tc 1 1 2 14 [] (hb:=by walk_at "-0u")
instance aj:ZqF 6 1 "is_stand" ["thing"]:=Tc 1 1 5 30 [] (hb:=by walk_at "-00000")
abbrev zBD(x q:Str)(s:Stmt)(c:ab):Prop:=∀ (kV b d:Value) (an:Option Addr) (a ct:Value) (us:em),us.length=c.length->bindArgs (Ϯ x q (xl s) (Nj s) (Kf s) Fc kV b d an a ct) ⟨us,[]⟩=pure (c.zip us)
def Zt{N P}{sc}(a:sc.kind=Ϥ)(b:sc.isCoroutine=J8)(c:sc.isGenerator=J8)(h:N.Nodup/\N.take P.length=P/\(∀ x∈P,sc.names.lookup x=BD .local\/sc.names.lookup x=BD Gc)/\∀ y∈sc.names,y.2≠ xb):Ec N P sc:=⟨a,b,c,h.1,h.2.1,h.2.2.1,h.2.2.2⟩
abbrev YU:Stmt:=Yi 31
def ZO:Ev->M Fl:=
 (lc (Xe 3$ Ri$ Qa (ya 0)$ Qa (ya 1)$ Qa (iw (eT$ Fb Br (ya 2)$ eC Ϝ) (Ri zb)$ ya 2) zb)$ lc (Mh (Ap$ eT$ Gf 1 aj []$ Qa (ya 3) zb) Mn Wh)$ vh$ ya 3)
def Gh:lv->M D:=Yd λa=>Uc$ Ch 4 ZO a
def IT:Ec ["number","shares","ties","made"] ["number","shares","ties"]$ Kf YU:=Zt rfl rfl rfl (by decide +kernel)
def zj0:vJ "stand" "stand" YU ["number","shares","ties"] [Fc]:=λe e e e e e e e e e d b c=>⟨λa=>QF.ap [0,0,0] d (by simpa using a) (by intro _ _ _;show Qe _ _ _ _;exact Nc rfl b c rfl rfl),λa=>QF.ap [0,0] d (by simpa using a) (by intro _ _;show Qe _ _ _ _;exact Nc rfl b c rfl rfl)⟩
def aR:Wt ⟨K,ca,tx K⟩ P w mg base 7 "stand" ["number","shares","ties"] [Fc] Gh:=
 Wt.Yd$ Wt.Uc (O7 a.Gh IT λv v v v v v v b=>
  by have:=IT.nd;walk_at "+30122b33")
instance El:ZqF 8 2 "first" ["left","right"]:=Tc 2 2 7 32 [] (hb:=by exact λa b c=>
 (Qh$ Ss$ j4 (aR a) rfl (b.mono$ by decide) rfl Ć X6$ by walk_at "+01"))
def rq:=Hf 7 7 0 45 71 0 [] (hb:=by walk_at "-010203040zA50zA6")
instance:ZqC 11 1 7 "Calm" ["self","pot","side","mine","grant","may","strikes"] rq.f:=⟨λa=>⟨_,a.vB,a.Qw,rq.ok a⟩,rfl⟩
abbrev ĥ:Stmt:=Yi 75
def BV:Ev->M Fl:=
 (lc (Xe 4$ Gf 2 El []$ Qa (ya 2)$ Qa (ya 3) zb)$ vh$ lq 11 7 rq$ Qa (ya 0)$ Qa (ya 1)$ Qa (ya 4)$ Qa (eC Ϝ)$ Qa (Oi$ Qa (ya 4) zb)$ Qa (Oi zb) zb)
def Zd:lv->M D:=Yd$ Ch 5 BV
def wT:Ec ["pot","side","left","right","mine"] ["pot","side","left","right"]$ Kf ĥ:=Zt rfl rfl rfl (by decide +kernel)
def r8:Ei ⟨K,ca,tx K⟩ P w mg base 9 "first_account" ["pot","side","left","right"] Zd:=
 Ei.Yd (mC a.Zd wT λv v v v v v v b=>
  by have:=wT.nd;walk_at "+423R014v4v")
abbrev nV:Ev->M Fl:=(Mh (eT$ Fb wl (Fb Kb (ya 6)$ ya 7)$ ya 1) (Wl$ vf [(15,AD)] 4 "hold" (ya 0)$ Qa (Gf 4 Zd []$ Qa (ya 5)$ Qa (ya 7)$ Qa (Fb Kb (ya 6)$ eC$ U 2)$ Qa (Fb Kb (ya 6)$ eC$ U 3) zb)$ Qa (eC$ .gt ["held"])$ Qa (eC$ Ϭ [] []) zb) Wh)
abbrev KF:Ev->M Fl:=(Qk (Gi$ Ri$ Qa (eC$ U 0)$ Qa (eC$ U 1) zb) (pd 7) nV)
abbrev hU:Stmt:=qv (Yi 108) 0
def FR:Ev->M Fl:=
 (lc (Wl$ Gf 3 Fh []$ Qa (ya 1)$ Qa (ya 2)$ Qa (ya 3) zb)$ lc (Jl [15] "hand" (ya 1)$ ya 0)$ lc (Jl [14,15,16] "every" (ya 2)$ ya 0)$ lc (Jl [14,15] "last_look" (eC$ U 0)$ ya 0)$ lc (Jl [15] "gave" (eC$ U 0)$ ya 0)$ lc (Jl [14,15] "known" cq$ ya 0)$ lc (Jl [15] "accounts" cq$ ya 0)$ lc (Jl [9,15] "claims" cq$ ya 0)$ lc (Jl [15] "seen" cq$ ya 0)$ lc (Jl [15] "asked" cq$ ya 0)$ lc (Jl [15] "finishing" cq$ ya 0)$ lc (Wl$ vf [(15,Cu)] 2 "learn" (ya 0)$ Qa (iw (eT$ Fb Br (ya 4)$ eC Ϝ) (Oi zb)$ ya 4) zb)$ Am (uH$ ya 3) (Il 2$ Qg (pd 5)$ Qg (pd 6) Vl) KF)
def Pp:lv->M D:=Yd$ Ch 8 FR
def vR:Ec ["self","hand","every","pots","words","pot","made","side"] ["self","hand","every","pots","words"]$ Kf hU:=Zt rfl rfl rfl (by decide +kernel)
def ŵ:vJ "__init__" "Keeper.__init__" hU ["self","hand","every","pots","words"] [Fc]:=λe e e e e e e e e e d b c=>⟨λa=>QF.ap [0,0,0,0,0] d (by simpa using a) (by intro _ _ _ _ _;show Qe _ _ _ _;exact Nc rfl b c rfl rfl),λa=>QF.ap [0,0,0,0] d (by simpa using a) (by intro _ _ _ _;show Qe _ _ _ _;exact Nc rfl b c rfl rfl)⟩
def ĝ:bu ⟨K,ca,tx K⟩ P w mg base 10 (ca 55) ["self","hand","every","pots","words"] [Fc] Pp:=
 bu.Yd (RM a.Pp vR λv v v v v v b=>
  by have c:=vR.nd;exact(Vc (by walk_at "+123")$ Vc (by walk_at "+01")$ Vc (by walk_at "+02")$ Vc (by walk_at "+0")$ Vc (by walk_at "+0")$ Vc (by walk_at "+0n")$ Vc (by walk_at "+0n")$ Vc (by walk_at "+0n")$ Vc (by walk_at "+0n")$ Vc (by walk_at "+0n")$ Vc (by walk_at "+0n")$ Vc (by walk_at "+04v4")$ Qh$ yz Uo rfl (by walk_at "+3") (by walk_at "+56")$ Qh$ vw Uo rfl (by walk_at "") (by walk_at "+7")$ Qh$ Oo (by walk_at "+671") (Qh$ iz$ FH (k:=1) (ps:=["self","account","claim","seen"]) rfl (Eh 0) (Fu.ok a) (b.mono$ by decide)$ fm (Ps (r8 a) rfl (b.mono$ by decide) rfl$ by walk_at "+5766")$ fm (bU (ss:=["held"]) rfl a.Qu)$ fm vV wr) xq))
instance dj:ZqF 1 2 "words_of" ["hand","words"]:=Tc 2 2 0 110 [] (hb:=by walk_at "-zc0.I101120")
abbrev sW:Ev->M Fl:=(yt (lq 15 5 Pp$ Uz []$ Qa (ya 6)$ Qa (ya 3)$ Qa (Vd (bc [9,14,16] "pots")$ ya 0)$ Qa (Gf 2 dj []$ Qa (ya 6)$ Qa (ya 5) zb) zb) (Vd (bc [16] "keepers")$ ya 0)$ ya 6)
abbrev pV:Ev->M Fl:=(Mh (eT$ Fb ot (ya 8)$ Vd (bc [16] "keepers")$ ya 0) Mn Wh)
instance:ZqC 9 6 2 "Book" ["self","pots"] bz.f:=⟨λa=>⟨_,a.dA,a.ux,bz.ok a⟩,rfl⟩
abbrev xR:Stmt:=qv (Yi 111) 0
def YV:Ev->M Fl:=
 (lc (Jl [16] "public" (lq 9 2 bz$ Qa (ya 1) zb)$ ya 0)$ lc (Jl [9,14,16] "pots" (vf [(9,Yt)] 1 "made_of" (Vd (bc [16] "public")$ ya 0) zb)$ ya 0)$ lc (Jl [14,15,16] "every" (ya 3)$ ya 0)$ lc (Jl [16] "keepers" cq$ ya 0)$ lc (Jl [16] "under_way" (dt zb)$ ya 0)$ lc (Jl [16] "things" JN$ ya 0)$ lc (Xe 5$ iw (eT$ Fb Br (ya 4)$ eC Ϝ) (eC$ Ϭ [] [])$ ya 4)$ lc (Qk (Gi$ Di$ Vd pC$ ya 2) (pd 6) sW)$ Am (Wu$ ya 5) (Il 2$ Qg (pd 7)$ Qg (pd 8) Vl) pV)
def wo:lv->M D:=Yd$ Ch 9 YV
def DX:Ec ["self","pots","keeps","every","words","owners","hand","word","owner"] ["self","pots","keeps","every","words"]$ Kf xR:=Zt rfl rfl rfl (by decide +kernel)
def p6:vJ "__init__" "Hall.__init__" xR ["self","pots","keeps","every","words"] [Fc]:=λe e e e e e e e e e d b c=>⟨λa=>QF.ap [0,0,0,0,0] d (by simpa using a) (by intro _ _ _ _ _;show Qe _ _ _ _;exact Nc rfl b c rfl rfl),λa=>QF.ap [0,0,0,0] d (by simpa using a) (by intro _ _ _ _;show Qe _ _ _ _;exact Nc rfl b c rfl rfl)⟩
def ι:bu ⟨K,ca,tx K⟩ P w mg base 12 (ca 79) ["self","pots","keeps","every","words"] [Fc] wo:=
 bu.Yd (RM a.wo DX λv v v v v v b=>
  by have d:=DX.nd;exact(Vc (by walk_at "+0R1")$ Vc (by walk_at "+00")$ Vc (by walk_at "+03")$ Vc (by walk_at "+0n")$ Vc (by walk_at "+0l")$ Vc (by walk_at "+0N")$ Vc (by walk_at "+54o4")$ Vc (vw Uo rfl (by walk_at "+zQ2") (by walk_at "+6")$ Qh$ LN (ao b) (oV (c:=15) (ps:=["self","hand","every","pots","words"]) a.Bu a.ut (ĝ a) (ϐ rfl) Ϟ (λv v=>pb.nil) rfl (b.mono$ by decide) rfl$ by walk_at "+63065") (by walk_at "+0")$ Eh 6)$ by walk_at "+FI578bj80"))
def Vr:=eg 2 2 0 81 111 2 [] (hb:=by walk_at "-bj10d01")
instance rB:Uf 1 2 "keeper" ["self","hand"] [(16,Vr)]:=.Tf 1 16 "keeper" Vr .nil
def Ox:=eg 2 2 0 67 108 12 [] (hb:=by exact λa b c=>
 (Qh$ Ss$ RF (by walk_at "+i10")$ XI$ Zq (x8 rfl$ ao b) bw (by walk_at "+d01") (bU (ss:=["held"]) rfl a.Qu)$ Qm _))
instance nC:Uf 1 2 "holds" ["self","pot"] [(15,Ox)]:=.Tf 1 15 "holds" Ox .nil
def Pu:=eg 1 1 0 48 72 0 []
def mD:=eg 1 1 0 50 73 0 []
def NC:=eg 1 1 0 52 74 0 []
instance GE:Uf 1 1 "word" ["self"] [(11,Pu),(12,mD),(13,NC)]:=.Tf 1 11 "word" Pu$ .Tf 1 12 "word" mD$ .Tf 1 13 "word" NC .nil
instance sk:ZqF 8 3 "following" ["one","shares","ties"]:=Tc 3 3 7 36 [] (hb:=by exact λa b c=>
 (Qh$ Ss$ zgy (aR a) rfl (b.mono$ by decide) rfl$ by walk_at "+012"))
instance Ak:ZqF 1 3 "with_more" ["shares","side","amount"]:=Tc 3 3 0 35 [] (hb:=by walk_at "-a1020002")
instance xu:ZqF 9 5 "tied" ["one","payer","amount","word","day"]:=Tc 6 5 8 38 ["tie"] (hb:=by walk_at "-51234b5001205")
instance Ig:ZqF 10 3 "stand_wished" ["account","wish","known"]:=Tc 5 3 9 105 ["mine","side"] (hb:=by exact λa b c=>
 (Vc (by walk_at "+30")$ Vc (by walk_at "+40")$ Vc (by walk_at "+b1")$ Vc (by walk_at "+a1134111") Px))
instance Hg:ZqF 1 1 "allowance_of" ["wish"]:=Tc 1 1 0 106 [] (hb:=by walk_at "-000")
instance yl:ZqF 1 1 "deals" ["one"]:=Tc 1 1 0 33 [] (hb:=by walk_at "-0zc.y000")
instance Wf:ZqF 7 2 "is_stand_of" ["thing","coin"]:=Tc 2 2 6 34 [] (hb:=by walk_at "-001")
def bh:=eg 3 3 0 46 71 1 [] (hb:=by walk_at "-012")
instance jo:Uf 1 3 "agree_of" ["self","side","one"] [(10,bh),(11,bh),(12,bh),(13,bh)]:=.Tf 1 10 "agree_of" bh$ .Tf 1 11 "agree_of" bh$ .Tf 1 12 "agree_of" bh$ .Tf 1 13 "agree_of" bh .nil
instance:ZqC 12 1 7 "Offered" ["self","pot","side","mine","grant","may","strikes"] rq.f:=⟨λa=>⟨_,a.Zs,a.Bq,rq.ok a⟩,rfl⟩
abbrev D2:Stmt:=Yi 76
def kW:Ev->M Fl:=
 (lc (Mh (Uw (eT$ Fb sj (Vd (bc [7,8,10,11,12,13] "side")$ ya 0)$ eC$ U 0)$ eT$ Fb sj (vf [(11,Pu),(12,mD),(13,NC)] 1 "word" (ya 0) zb)$ eC$ ϙ "calm") Mn Wh)$ lc (Xe 3$ Ri$ Qa (Fb jh (Fb Kb (Vd (bc [10,11,12,13] "mine")$ ya 0)$ eC$ U 0)$ eC$ U 1)$ Qa (ya 1)$ Qa (ya 2) zb)$ lc (Mh (Ap$ eT$ Gf 2 Wf []$ Qa (ya 3)$ Qa (Gf 1 yl []$ Qa (Vd (bc [10,11,12,13] "mine")$ ya 0) zb) zb) Mn Wh)$ lc (Xe 4$ lq 12 7 rq$ Qa (Vd (bc [10,11,12,13] "pot")$ ya 0)$ Qa (Vd (bc [7,8,10,11,12,13] "side")$ ya 0)$ Qa (Vd (bc [10,11,12,13] "mine")$ ya 0)$ Qa (Vd (bc [10,11,12,13] "grant")$ ya 0)$ Qa (Oi$ Qa (Vd (bc [10,11,12,13] "mine")$ ya 0)$ Qa (ya 3) zb)$ Qa (Vd (bc [10,11,12,13] "strikes")$ ya 0) zb)$ vh$ Ri$ Qa (ya 4)$ Qa (Ri$ Qa (eC$ ϙ "offer")$ Qa (Vd (bc [10,11,12,13] "pot")$ ya 0)$ Qa (vf [(10,bh),(11,bh),(12,bh),(13,bh)] 3 "agree_of" (ya 0)$ Qa (eC$ U 0)$ Qa (ya 3) zb) zb) zb)
def Rf:lv->M D:=Yd$ Ch 5 kW
def iQ:Ec ["account","shares","ties","one","behind"] ["account","shares","ties"]$ Kf D2:=Zt rfl rfl rfl (by decide +kernel)
def vY:Ei ⟨K,ca,tx K⟩ P w mg base 8 "offered" ["account","shares","ties"] Rf:=
 Ei.Yd (mC a.Rf iQ λv v v v v v v b=>
  by have:=iQ.nd;walk_at "+b003x012b304R0000v0304003")
instance Qp:ZqF 3 1 "is_pot" ["thing"]:=Tc 1 1 2 16 [] (hb:=by walk_at "-0u")
instance di:ZqF 4 1 "is_of_a_side" ["thing"]:=Tc 1 1 3 46 [] (hb:=by walk_at "-000")
instance zh:ZqF 7 1 "is_thing" ["thing"]:=Tc 1 1 6 47 [] (hb:=by exact λa b c=>
 (Vc (by walk_at "+b000")$ Vc (by walk_at "+b0")$ Vc (by walk_at "+a000")$ Vc (by walk_at "+a000") Px))
instance vk:ZqF 8 1 "is_strike" ["thing"]:=Tc 1 1 7 65 [] (hb:=by walk_at "-00")
instance Pl:ZqF 8 1 "is_agree" ["thing"]:=Tc 1 1 7 64 [] (hb:=by walk_at "-00")
instance Ae:ZqF 9 1 "has_its_parts" ["letter"]:=Tc 1 1 8 66 [] (hb:=by exact λa b c=>
 (Vc (by walk_at "+a000")$ Vc (by walk_at "+a0000")$ Vc (by walk_at "+a000")$ Vc (by walk_at "+a0000") Px))
instance Ke:ZqF 10 1 "is_letter" ["thing"]:=Tc 1 1 9 67 [] (hb:=by walk_at "-b00000")
instance (priority:=1001) mo7_agree_of:Uf 1 3 "agree_of" ["self","side","one"] [(11,bh)]:=.Tf 1 11 "agree_of" bh .nil
instance ki:ZqF 8 2 "is_following" ["thing","one"]:=Tc 2 2 7 70 [] (hb:=by walk_at "-0101")
def Kn:=eg 3 3 0 47 71 2 [] (hb:=by walk_at "-012")
instance Aw:Uf 1 3 "strike_of" ["self","side","one"] [(11,Kn)]:=.Tf 1 11 "strike_of" Kn .nil
instance:ZqC 13 1 7 "Waiting" ["self","pot","side","mine","grant","may","strikes"] rq.f:=⟨λa=>⟨_,a.xt,a.Cq,rq.ok a⟩,rfl⟩
def Wy:=Hf 5 2 10 49 72 1 ["one","agree","behind"] (hb:=by walk_at "-b01121302b103204R0023v020400200")
instance (priority:=1002) mo9_agree_of:Uf 1 3 "agree_of" ["self","side","one"] [(12,bh)]:=.Tf 1 12 "agree_of" bh .nil
instance (priority:=1001) mo10_strike_of:Uf 1 3 "strike_of" ["self","side","one"] [(12,Kn)]:=.Tf 1 12 "strike_of" Kn .nil
def Ez:=Hf 5 2 10 51 73 1 ["one","agree","behind"] (hb:=by walk_at "-2x0302b1103004R0023v20vx04000")
instance (priority:=1002) mo11_strike_of:Uf 1 3 "strike_of" ["self","side","one"] [(13,Kn)]:=.Tf 1 13 "strike_of" Kn .nil
def wz:=Hf 4 2 10 53 74 1 ["old","behind"] (hb:=by walk_at "-2x0b110023R0000v00v23")
instance QA:Uf 11 2 "taken" ["self","letter"] [(11,Wy),(12,Ez),(13,wz)]:=.Tf 11 11 "taken" Wy$ .Tf 11 12 "taken" Ez$ .Tf 11 13 "taken" wz .nil
abbrev P4:Stmt:=Yi 107
def wP:Ev->M Fl:=
 (lc (Mh (eT$ Fb wl (Vd (bc [7,8,10,11,12,13] "side")$ ya 0)$ eC$ U 0) (vh$ Gf 3 Rf []$ Qa (ya 0)$ Qa (Fb Kb (ya 1)$ eC$ U 1)$ Qa (Fb Kb (ya 1)$ eC$ U 2) zb) Wh)$ lc (Xe 2$ Ri$ Qa (eC$ ϙ "offer")$ Qa (Vd (bc [10,11,12,13] "pot")$ ya 0)$ Qa (vf [(10,bh),(11,bh),(12,bh),(13,bh)] 3 "agree_of" (ya 0)$ Qa (eC$ U 0)$ Qa (ya 1) zb) zb)$ vh$ Ri$ Qa (Fb Kb (vf [(11,Wy),(12,Ez),(13,wz)] 2 "taken" (ya 0)$ Qa (ya 2) zb)$ eC$ U 0)$ Qa (Ri$ Qa (eC$ ϙ "ask")$ Qa (Vd (bc [10,11,12,13] "pot")$ ya 0)$ Qa (Fb Kb (ya 1)$ eC$ U 1)$ Qa (Fb Kb (ya 1)$ eC$ U 2) zb) zb)
def Sf:lv->M D:=Yd$ Ch 3 wP
def bM:Ec ["account","one","offer"] ["account","one"]$ Kf P4:=Zt rfl rfl rfl (by decide +kernel)
def ć:Ei ⟨K,ca,tx K⟩ P w mg base 12 "step_to" ["account","one"] Sf:=
 Ei.Yd (mC a.Sf bM λv v v v v v v b=>
  by have c:=bM.nd;exact(Vc (Oo (by walk_at "+0") (Qh$ Ss$ Ps (vY a) rfl (b.mono$ by decide) rfl$ by walk_at "+011") xq)$ Vc (UC (i:=2) bM.nd rfl (ϐ rfl)$ lT$ fm bZ$ fm (by walk_at "+0")$ fm (FH (k:=1) (ps:=["self","side","one"]) rfl (Eh 0) (jo.ok a) (b.mono$ by decide)$ by walk_at "+1") wr)$ by walk_at "+02011"))
instance Rh:ZqF 1 2 "shown_in_time" ["tie","shown"]:=Tc 2 2 0 40 [] (hb:=by exact λb a c=>
 (Qh$ Ss$ RF (by walk_at "+i01")$ XI$ Zq gE DE (OO (ao a) (Eh 1) (by walk_at "+0")$ λv v=>rfl) (by walk_at "+0")$ Qm _))
instance Nm:ZqF 2 3 "lot_of_paid" ["view","seen","tie"]:=Tc 3 3 1 80 [] (hb:=by walk_at "-a21b02")
instance bo:ZqF 2 3 "lot_of_due" ["view","seen","tie"]:=Tc 3 3 1 81 [] (hb:=by walk_at "-a21b02aD20002")
instance Rl:ZqF 3 3 "lot_of" ["view","pot","tie"]:=Tc 3 3 2 82 [] (hb:=by walk_at "-a21012012")
abbrev mH:Ev->M Fl:=(lc (Xe 6$ Gf 3 Rl []$ Qa (ya 0)$ Qa (ya 1)$ Qa (ya 5) zb)$ lc (yt (Ri$ Qa (ya 6)$ Qa (Fb Kb (ya 5)$ eC$ U 1)$ Qa (Fb Kb (ya 5)$ eC$ U 3) zb) (ya 4)$ Fb Kb (ya 5)$ eC$ U 2)$ Mh (eT$ Vd (AJ J8 ["won","sure","back"])$ ya 6) (qz (λa b=>a+b) 3$ Fb Kb (ya 5)$ eC$ U 1) Wh)
def cX:Ev->M Fl:=
 (lc (Xe 3$ Fb Kb (Fb Kb (ya 2)$ eC$ U 1)$ Fb Kb (ya 1)$ eC$ U 0)$ lc (Xe 4 cq)$ lc (Qk (Gi$ Fb Kb (ya 2)$ eC$ U 2) (pd 5) mH)$ vh$ Ri$ Qa (ya 3)$ Qa (ya 4) zb)
instance xg:ZqF 4 3 "read_stand" ["view","pot","one"]:=Tc 7 3 3 83 ["firm","lots","tie","lot"] (g:=cX) (hb:=by exact λa b c=>
 (Vc (by walk_at "+321")$ Vc (by walk_at "+4n")$ Vc (vw Uo rfl (by walk_at "+2") (by walk_at "+5")$ Vc (by walk_at "+6015")$ Vc (by walk_at "+m65545")$ Qh$ Oo (ũ (ss:=["won","sure","back"]) rfl a.SA$ Eh 6) (by walk_at "+35") xq)$ by walk_at "+34"))
abbrev nN:Ev->M Fl:=(Wl$ Dw Xj (ya 1)$ Qa (Di$ Uk (io$ Gi$ Fb Kb (ya 2)$ eC$ U 1) [0,2] (pd 0) zl$ Gf 3 xg []$ Qa (ya 2)$ Qa (ya 3)$ Qa (ya 0) zb) zb)
def ER:Ev->M Fl:=
 (lc (Xe 1$ dt zb)$ lc (Qk (Gi$ Vd (bc [9,14,16] "pots")$ ya 0) (pd 2) nN)$ vh$ ya 1)
instance mi:ZqF 5 1 "read_pots" ["view"]:=Tc 3 1 4 84 ["readings","pot"] (g:=ER) (hb:=by walk_at "-1lf021zc02/10.y202301")
abbrev KH:Ev->M Fl:=(Wl$ Dw ww (ya 3)$ Qa (Di$ Uk (io$ Jo$ So Gq$ Qa (ya 2) zb) [4] (pd 0) zl$ Fb jh (ya 2)$ Oi$ Qa (ya 0) zb) zb)
abbrev JF:Ev->M Fl:=(lc (Xe 3$ dt zb)$ lc (Qk (Gi$ ya 1) (pd 4) KH)$ Xe 1$ ya 3)
def wR:Ev->M Fl:=
 (lc (Xe 1$ Oi$ Qa (Oi zb) zb)$ lc (Qk (Gi$ ya 0) (pd 2) JF)$ vh$ ya 1)
instance Zf:ZqF 1 1 "all_choices" ["readings"]:=Tc 5 1 0 85 ["choices","stands","longer","chosen"] (g:=wR) (hb:=by walk_at "-1vvf023lf143zc4.y202v0131")
abbrev bQ:Ev->M Fl:=(Wl$ Dw Xj (jE YA (ya 1)$ Qa (ya 3)$ Qa (dt zb) zb)$ Qa (ya 4) zb)
abbrev WM:Ev->M Fl:=(Am (Wu$ Fb Kb (ya 2)$ eC$ U 1) (Il 2$ Qg (pd 3)$ Qg (pd 4) Vl) bQ)
def BQ:Ev->M Fl:=
 (lc (Xe 1 cq)$ lc (Qk (Gi$ ya 0) (pd 2) WM)$ vh$ ya 1)
instance Gg:ZqF 1 1 "lots_by_word" ["reads"]:=Tc 5 1 0 87 ["by_word","read","word","lot"] (g:=BQ) (hb:=by exact λa b c=>
 (Vc (by walk_at "+1n")$ Vc (vw Uo rfl (sO rfl$ Eh 0) (by walk_at "+2")$ Qh$ yz Uo rfl (by walk_at "+I2") (by walk_at "+34")$ Qh$ iz$ YI uf Xm Ym DM NM (qO zd ql PySem.F.type_dict_setdefault š P1 (Eh 1)$ by walk_at "+3l")$ fm (Eh 4) wr)$ by walk_at "+1"))
instance bj:ZqF 1 1 "fates_of" ["lots"]:=Tc 1 1 0 88 [] (hb:=by walk_at "-vzc.y0000")
instance lg:ZqF 1 3 "comes_by_fate" ["lot","fate","every"]:=Tc 3 3 0 89 [] (hb:=by walk_at "-a011001120")
instance Be:ZqF 2 3 "sum_by_fate" ["lots","fate","every"]:=Tc 3 3 1 90 [] (hb:=by walk_at "-zc12/10.y000230")
abbrev V5:Stmt:=Yi 91
def sX:Ev->M Fl:=
 (vh$ LG [0,1] (Gf 3 Be []$ Qa (ya 1)$ Qa (ya 0)$ Qa (ya 2) zb)$ Qa (Gf 1 bj []$ Qa (ya 0) zb) zb)
def Se:lv->M D:=Yd λa=>Uc$ Ch 2 sX a
def rS:Ec ["lots","every"] ["lots","every"]$ Kf V5:=Zt rfl rfl rfl (by decide +kernel)
def ς:Ei ⟨K,ca,tx K⟩ P w mg base 5 "least_fate" ["lots","every"] Se:=
 Ei.Yd$ Ei.Uc (MQ a.Se rS λv v v v v v c=>
  by have e:=rS.nd;exact(Qh$ Ss$ lU (x:="fate") (M':=["lots","every"]) (ix:=[0,1]) (t:=SI K) (k:=2) (c.mono$ by decide) ⟨rfl,rfl,rfl,rfl,rfl,rfl⟩ rfl ⟨(UW K),λd b=>a.EE _ (UW K) d b,rfl,a.tb.hd _ ⋯,rfl,rfl,rfl,a.mR,a.tb.bb⟩ rfl a.Jr rfl rfl rfl (λv v v v v=>rfl) (by walk_at "+0")$ λv v v v v c=>(by walk_at "+102")))
abbrev eU:Ev->M Fl:=(qz (λa b=>a+b) 4$ Gf 3 Be []$ Qa (ya 6)$ Qa (Fb Hi (ya 2)$ ya 5)$ Qa (ya 3) zb)
def OY:Ev->M Fl:=
 (lc (Xe 4$ So vA$ Qa (Di$ Uk (io$ Gi$ ya 0) [] (pd 0) zl$ Fb Kb (ya 0)$ eC$ U 0) zb)$ lc (Am (Wu$ ya 1) (Il 2$ Qg (pd 5)$ Qg (pd 6) Vl) eU)$ vh$ ya 4)
instance Ol:ZqF 3 4 "sum_of" ["reads","by_word","fates","every"]:=Tc 7 4 2 92 ["total","word","lots"] (g:=OY) (hb:=by exact λb a c=>
 (Vc (by walk_at "+4zc.y000")$ Vc (yz Uo rfl (aO$ Eh 1) (by walk_at "+56")$ Qh$ sZ (i:=4) xV c rfl (ϐ rfl)$ Ps (Be.ok b) rfl (a.mono$ by decide) rfl$ fm (Eh 6)$ fm (OO (ao a) (Eh 2) (Eh 5)$ λv v=>rfl)$ fm (Eh 3) wr)$ by walk_at "+4"))
abbrev kZ:Ev->M Fl:=(yt (Gf 2 Se []$ Qa (ya 6)$ Qa (ya 2) zb) (ya 4)$ ya 5)
def jY:Ev->M Fl:=
 (lc (Xe 3$ Gf 1 Gg []$ Qa (ya 0) zb)$ lc (Xe 4 cq)$ lc (Am (Wu$ ya 3) (Il 2$ Qg (pd 5)$ Qg (pd 6) Vl) kZ)$ vh$ Ri$ Qa (Gf 4 Ol []$ Qa (ya 0)$ Qa (ya 3)$ Qa (ya 4)$ Qa (ya 2) zb)$ Qa (ya 1)$ Qa (ya 4) zb)
instance Vf:ZqF 6 3 "least_paper" ["reads","chosen","every"]:=Tc 7 3 5 93 ["by_word","fates","word","lots"] (g:=jY) (hb:=by exact λb a c=>
 (Vc (by walk_at "+30")$ Vc (by walk_at "+4n")$ Vc (yz Uo rfl (aO$ Eh 3) (by walk_at "+56")$ Qh$ LN (ao a) (Ps (ς b) rfl (a.mono$ by decide) rfl$ by walk_at "+62") (Eh 4)$ Eh 5)$ by walk_at "+034214"))
instance He:ZqF 1 2 "chosen_readings" ["readings","chosen"]:=Tc 2 2 0 86 [] (hb:=by walk_at "-zc.010101")
abbrev İ:Stmt:=Yi 94
def zT:Ev->M Fl:=
 (lc (Xe 1$ Gf 1 mi []$ Qa (ya 0) zb)$ lc (Xe 2$ Di$ Uk (io$ Gi$ Gf 1 Zf []$ Qa (ya 1) zb) [1,0] (pd 0) zl$ Gf 3 Vf []$ Qa (Gf 2 He []$ Qa (ya 2)$ Qa (ya 0) zb)$ Qa (ya 0)$ Qa (Vd (bc [14,15,16] "every")$ ya 3) zb)$ vh$ LG [] (Fb Kb (ya 0)$ eC$ U 0)$ Qa (ya 2) zb)
def Dj:lv->M D:=Yd λa=>Uc$ Ch 3 zT a
def aY:Ec ["view","readings","papers"] ["view"]$ Kf İ:=Zt rfl rfl rfl (by decide +kernel)
def zn8:Ei ⟨K,ca,tx K⟩ P w mg base 7 "paper" ["view"] Dj:=
 Ei.Yd$ Ei.Uc (MQ a.Dj aY λv v v v v v c=>
  by have e:=aY.nd;exact(Vc (by walk_at "+10")$ Vc (by walk_at "+q210.y102003")$ Qh$ Ss$ lU (x:="told") (M':=[]) (ix:=[]) (t:=AH K) (k:=0) (c.mono$ by decide) ⟨rfl,rfl,rfl,rfl,rfl,rfl⟩ rfl ⟨(GW K),λd b=>a.EE _ (GW K) d b,rfl,a.tb.hd _ ⋯,rfl,rfl,rfl,a.mR,a.tb.bb⟩ rfl a.Jr rfl rfl rfl (λv v v v v=>rfl) (fm (Eh 2) wr)$ λv v v v v c=>(by walk_at "+0")))
instance si:ZqF 8 1 "worth" ["view"]:=Tc 1 1 7 95 [] (hb:=by exact λa b c=>
 (Qh$ Ss$ xK sM (AO rfl) (Ps (zn8 a) rfl (b.mono$ by decide) rfl$ fm (Eh 0) wr) zA$ λd d=>rfl))
instance df:ZqF 1 2 "stands_told" ["account","claim"]:=Tc 2 2 0 101 [] (hb:=by exact λa b c=>
 (Vc (by walk_at "+a10") Px))
def bD:=Hf 5 5 0 54 79 0 [] (hb:=by walk_at "-01020zA30zc.y400zA0C0")
def Cr:=eg 1 1 0 58 108 3 [] (hb:=by walk_at "-zO0")
instance ZA:Uf 1 1 "words" ["self"] [(15,Cr)]:=.Tf 1 15 "words" Cr .nil
abbrev GQ:Ev->M Fl:=(Wl$ Dw Xj (ya 2)$ Qa (Ri$ Qa (Vd (bc [7,8,10,11,12,13] "side")$ ya 4)$ Qa (Gf 2 df []$ Qa (ya 4)$ Qa (Fb Hi (Vd (bc [9,15] "claims")$ ya 0)$ ya 3) zb)$ Qa (Fb Hi (Vd (bc [15] "seen")$ ya 0)$ ya 3) zb) zb)
instance:ZqC 14 1 5 "View" ["self","every","look","words","pots"] bD.f:=⟨λa=>⟨_,a.VA,a.Vx,bD.ok a⟩,rfl⟩
def IW:Ev->M Fl:=
 (lc (Xe 2$ dt zb)$ lc (Qt (ya 1)$ Am (lx$ ya 1) (Il 2$ Qg (pd 3)$ Qg (pd 4) Vl) GQ)$ vh$ Di$ lq 14 5 bD$ Qa (Vd (bc [14,15,16] "every")$ ya 0)$ Qa (Vd (bc [14,15] "last_look")$ ya 0)$ Qa (vf [(15,Cr)] 1 "words" (ya 0) zb)$ Qa (ya 2) zb)
def wC:=eg 5 2 2 62 108 7 ["pots","pot","account"] (g:=IW) (hb:=by walk_at "-2lhFL134244d03d03zR0002")
instance Wx:Uf 3 2 "view_by" ["self","accounts"] [(15,wC)]:=.Tf 3 15 "view_by" wC .nil
def kF:=eg 1 1 3 63 108 8 [] (hb:=by walk_at "-00")
instance lD:Uf 4 1 "view" ["self"] [(15,kF)]:=.Tf 4 15 "view" kF .nil
def Dz:=eg 1 1 8 64 108 9 [] (hb:=by exact λa b c=>
 (Qh$ Ss$ Ps (Ei.alias (si.ok a) a.oi) rfl (b.mono$ by decide) rfl$ by walk_at "+0"))
instance Zz:Uf 9 1 "worth" ["self"] [(15,Dz)]:=.Tf 9 15 "worth" Dz .nil
def au:=eg 4 3 9 66 108 11 ["accounts"] (hb:=by exact λa b c=>
 (Vc (by walk_at "+3H0")$ Vc (by walk_at "+m131")$ Qh$ Ss$ Zq eL ON (Ps (Ei.alias (si.ok a) a.oi) rfl (b.mono$ by decide) rfl$ by walk_at "+03") (by walk_at "+02")$ Qm _))
instance zx:Uf 10 3 "is_good" ["self","account","allowance"] [(15,au)]:=.Tf 10 15 "is_good" au .nil
abbrev YM:Ev->M Fl:=(Xe 3$ Fb Kb (ya 2)$ eC$ U 1)
abbrev JO:Ev->M Fl:=(Xe 4$ Vd (bc [7,8,10,11,12,13] "side")$ Fb Hi (Vd (bc [15] "accounts")$ ya 0)$ ya 3)
abbrev kL:Ev->M Fl:=(Xe 5$ Gf 1 Hg []$ Qa (ya 2) zb)
abbrev pK:Ev->M Fl:=(Xe 6$ Gf 2 Sf []$ Qa (Fb Hi (Vd (bc [15] "accounts")$ ya 0)$ ya 3)$ Qa (ya 1) zb)
abbrev EO:Ev->M Fl:=(Mh (Ap$ eT$ vf [(15,au)] 3 "is_good" (ya 0)$ Qa (Fb Kb (ya 6)$ eC$ U 0)$ Qa (ya 5) zb) Mn Wh)
abbrev iP:Ev->M Fl:=(Mh (eT$ Fb wl (ya 4)$ eC$ U 0) (lc (yt (Fb Kb (ya 6)$ eC$ U 0) (Vd (bc [15] "accounts")$ ya 0)$ ya 3)$ WI [15] "gave" (ya 5)$ ya 0)$ yt (Ri$ Qa (ya 5)$ Qa (Fb Kb (ya 1)$ eC$ U 1)$ Qa (Fb Kb (ya 1)$ eC$ U 2) zb) (Vd (bc [15] "asked")$ ya 0)$ ya 3)
abbrev uL:Ev->M Fl:=(Mh (eT$ Fb wl (Fb Kb (ya 2)$ eC$ U 0)$ eC$ ϙ "settle") Mn Wh)
abbrev yO:Ev->M Fl:=(vh$ Ri$ Qa (eC$ ϒ E8)$ Qa (Oi$ Qa (Fb Kb (ya 6)$ eC$ U 1) zb) zb)
def gK:Ev->M Fl:=
 (lc YM$ lc JO$ lc kL$ lc pK$ lc EO$ lc iP$ lc uL yO)
def rA:=Hf 7 3 12 69 108 14 ["pot","side","allowance","step"] (g:=gK) (hb:=by exact λa b c=>
 (Vc (by walk_at "+32")$ Vc (by walk_at "+4d03")$ Vc (by walk_at "+52")$ Vc (UC (i:=6) c rfl (ϐ rfl)$ Ps (ć a) rfl (b.mono$ by decide) rfl$ by walk_at "+d031")$ Vc (by walk_at "+b065")$ Vc (Oo (by walk_at "+4") (Vc (by walk_at "+m603")$ Qh$ wN rfl (fO a) (Eh 0)$ Eh 5)$ by walk_at "+m51103")$ by walk_at "+b2v6"))
instance Bw:Uf 13 3 "wish_for" ["self","one","wish"] [(15,rA)]:=.Tf 13 15 "wish_for" rA .nil
abbrev UU:Ev->M Fl:=(Mh (Ap$ eT$ vf [(15,Ox)] 2 "holds" (ya 0)$ Qa (Fb Kb (ya 1)$ eC$ U 1) zb) Mn Wh)
abbrev CT:Ev->M Fl:=(Mh (eT$ Fb wl (Fb Kb (ya 1)$ eC$ U 0)$ eC$ ϙ "finish") Mn Wh)
abbrev uR:Ev->M Fl:=(Xe 2$ Fb Hi (Vd (bc [15] "accounts")$ ya 0)$ Fb Kb (ya 1)$ eC$ U 1)
abbrev LY:Ev->M Fl:=(Mh (eT$ Fb sj (vf [(11,Pu),(12,mD),(13,NC)] 1 "word" (ya 2) zb)$ eC$ ϙ "calm") Mn Wh)
abbrev FV:Ev->M Fl:=(mI (Xe 3$ Gf 3 Ig []$ Qa (ya 2)$ Qa (ya 1)$ Qa (Vd (bc [14,15] "known")$ ya 0) zb) [])
abbrev jZ:Ev->M Fl:=(vh$ vf [(15,rA)] 3 "wish_for" (ya 0)$ Qa (ya 3)$ Qa (ya 1) zb)
def lZ:Ev->M Fl:=
 (lc UU$ lc CT$ lc uR$ lc LY$ lc FV jZ)
def sB:=Hf 4 2 13 68 108 13 ["account","one"] (g:=lZ) (hb:=by exact λb c d=>
 (Vc (by walk_at "+b01")$ Vc (by walk_at "+b1")$ Vc (by walk_at "+2d01")$ Vc (by walk_at "+b2")$ Vc (MY rfl rfl (λv v a=>(by walk_at "+3210")) .nil)$ by walk_at "+031"))
instance FC:Uf 14 2 "wish" ["self","wish"] [(15,sB)]:=.Tf 14 15 "wish" sB .nil
abbrev CM:Ev->M Fl:=(lc (Xe 4$ qJ (Fb Kb (Vd (bc [9,14,16] "pots")$ ya 0)$ Fb Kb (ya 3)$ eC$ U 1) A5$ BD$ eC$ U 2)$ lc (Xe 5$ iw (eT$ Fb wl (Fb Kb (ya 4)$ eC$ U 0)$ ya 1) (Fb Kb (ya 4)$ eC$ U 1)$ Fb Kb (ya 4)$ eC$ U 0)$ Mh (eT$ Fb Pq (ya 5)$ Vd (bc [16] "keepers")$ ya 0) (Wl$ Dw Xj (Vd (bc [16] "under_way")$ ya 0)$ Qa (Ri$ Qa (ya 5)$ Qa (ya 3) zb) zb) Mn)
def SN:Ev->M Fl:=
 (Qk (Gi$ ya 2) (pd 3) CM)
def lw:=Hf 6 3 0 88 111 9 ["letter","hands","to"] (g:=SN) (hb:=by exact λa b c=>
 (Qh$ vw Uo rfl (sO rfl$ Eh 2) (by walk_at "+3")$ Vc (by walk_at "+4x03")$ Vc (by walk_at "+54144")$ Qh$ Oo (by walk_at "+i50") (by walk_at "+053") Px))
instance CD:Uf 1 3 "send" ["self","sender","letters"] [(16,lw)]:=.Tf 1 16 "send" lw .nil
def nt:=Hf 4 3 14 91 111 12 ["told"] (hb:=by walk_at "-30120133")
instance (priority:=1001) mo21_wish:Uf 15 3 "wish" ["self","hand","wish"] [(16,nt)]:=.Tf 15 16 "wish" nt .nil
def ez:=eg 1 1 0 82 111 3 [] (hb:=by walk_at "-zA0")
instance BC:Uf 1 1 "road" ["self"] [(16,ez)]:=.Tf 1 16 "road" ez .nil
def wD:=eg 2 2 2 92 111 13 [] (hb:=by walk_at "-b10")
instance Kr:Uf 3 2 "check_letter" ["self","k"] [(16,wD)]:=.Tf 3 16 "check_letter" wD .nil
abbrev UQ:Ev->M Fl:=(mI (Xe 2$ Gf 3 Rf []$ Qa (Fb Hi (Vd (bc [15] "accounts")$ ya 0)$ Fb Kb (ya 1)$ eC$ U 1)$ Qa (Fb Kb (ya 1)$ eC$ U 2)$ Qa (Fb Kb (ya 1)$ eC$ U 3) zb) [])
abbrev AY:Ev->M Fl:=(Mh (Ap$ eT$ vf [(15,au)] 3 "is_good" (ya 0)$ Qa (Fb Kb (ya 2)$ eC$ U 0)$ Qa (eC$ U 0) zb) Mn Wh)
abbrev cV:Ev->M Fl:=(yt (Fb Kb (ya 2)$ eC$ U 0) (Vd (bc [15] "accounts")$ ya 0)$ Fb Kb (ya 1)$ eC$ U 1)
abbrev nX:Ev->M Fl:=(vh$ Oi$ Qa (Fb Kb (ya 2)$ eC$ U 1) zb)
def pY:Ev->M Fl:=
 (lc UQ$ lc AY$ lc cV nX)
def LF:=Hf 3 2 10 71 108 16 ["step"] (g:=pY) (hb:=by exact λa c d=>
 (Vc (MY rfl rfl (λv v b=>(Qh$ UC (i:=2) d rfl (ϐ rfl)$ Ps (vY a) rfl (c.mono$ by decide) rfl$ by walk_at "+d0111")) .nil)$ by walk_at "+b02m201v2"))
instance Gw:Uf 11 2 "take_ask" ["self","letter"] [(15,LF)]:=.Tf 11 15 "take_ask" LF .nil
def Lu:=eg 2 2 0 72 108 17 [] (hb:=by walk_at "-a1j101d01")
instance jt:Uf 1 2 "is_as_asked" ["self","letter"] [(15,Lu)]:=.Tf 1 15 "is_as_asked" Lu .nil
abbrev VL:Ev->M Fl:=(Xe 2$ Fb Kb (ya 1)$ eC$ U 1)
abbrev FM:Ev->M Fl:=(Xe 3$ vf [(11,Wy),(12,Ez),(13,wz)] 2 "taken" (Fb Hi (Vd (bc [15] "accounts")$ ya 0)$ ya 2)$ Qa (ya 1) zb)
abbrev hO:Ev->M Fl:=(Xe 4$ vf [(15,Lu)] 2 "is_as_asked" (ya 0)$ Qa (ya 1) zb)
abbrev bN:Ev->M Fl:=(Xe 5$ iw (eT$ ya 4) (Fb Kb (Fb Hi (Vd (bc [15] "asked")$ ya 0)$ ya 2)$ eC$ U 0)$ eC$ U 0)
abbrev DL:Ev->M Fl:=(Mh (Ap$ eT$ vf [(15,au)] 3 "is_good" (ya 0)$ Qa (Fb Kb (ya 3)$ eC$ U 0)$ Qa (ya 5) zb) Mn Wh)
abbrev WN:Ev->M Fl:=(yt (Fb Kb (ya 3)$ eC$ U 0) (Vd (bc [15] "accounts")$ ya 0)$ ya 2)
abbrev BN:Ev->M Fl:=(Mh (eT$ ya 4) (lc (Wl$ jE GA (Vd (bc [15] "asked")$ ya 0)$ Qa (ya 2) zb)$ WI [15] "gave" (ya 5)$ ya 0) Wh)
abbrev rP:Ev->M Fl:=(vh$ iw (eT$ Fb Br (Fb Kb (ya 3)$ eC$ U 1)$ eC Ϝ) (Oi zb)$ Oi$ Qa (Fb Kb (ya 3)$ eC$ U 1) zb)
def cO:Ev->M Fl:=
 (lc VL$ lc FM$ YF [(13,11),(11,13),(11,12)] [11,12,13] (Fb Kb (ya 3)$ eC$ U 0) (Fb Hi (Vd (bc [15] "accounts")$ ya 0)$ ya 2) Mn$ lc hO$ lc bN$ lc DL$ lc WN$ lc BN rP)
def kB:=Hf 6 2 11 73 108 18 ["pot","step","as_asked","allowance"] (g:=cO) (hb:=by exact λa b c=>
 (Vc (by walk_at "+21")$ Vc (by walk_at "+3d021")$ Ü (ao b) (wM a.ni a.yj a.Zk a.Tk$ wM a.yj a.ni a.Yk a.Xk$ wM a.yj a.Dk a.Lk a.Vk î) (tN a.yj$ tN a.Dk$ tN a.ni ycf) rfl (by walk_at "+3") (by walk_at "+d02") Px$ Vc (by walk_at "+401")$ Vc (by walk_at "+54d02")$ Vc (by walk_at "+b035")$ Vc (by walk_at "+m302")$ Vc (Oo (gC$ Eh 4) (Vc (iz$ qO zd Zo PySem.F.type_dict_pop x3 Û (by walk_at "+0")$ fm (Eh 2) wr)$ Qh$ wN rfl (fO a) (Eh 0)$ Eh 5) xq)$ by walk_at "+3vv3"))
instance nv:Uf 12 2 "take_step" ["self","letter"] [(15,kB)]:=.Tf 12 15 "take_step" kB .nil
def eo:=Hf 2 2 12 70 108 15 [] (hb:=by walk_at "-b1b1b01a10101")
instance IC:Uf 13 2 "take" ["self","letter"] [(15,eo)]:=.Tf 13 15 "take" eo .nil
def iD:=Hf 3 3 13 90 111 11 [] (hb:=by walk_at "-01d012")
instance Tu:Uf 14 3 "hand_over" ["self","to","letter"] [(16,iD)]:=.Tf 14 16 "hand_over" iD .nil
abbrev OS:Stmt:=qv (Yi 111) 14
def ES:Ev->M Fl:=
 (lc (Wl$ vf [(16,wD)] 2 "check_letter" (ya 0)$ Qa (ya 1) zb)$ lc (Xe 3$ Fb Kb (Vd (bc [16] "under_way")$ ya 0)$ ya 1)$ lc (Mh (Ap$ eT$ ya 2) (Wl$ Dw vC (Vd (bc [16] "under_way")$ ya 0)$ Qa (ya 1) zb) Wh)$ Wl$ vf [(16,iD)] 3 "hand_over" (ya 0)$ Qa (Fb Kb (ya 3)$ eC$ U 0)$ Qa (Fb Kb (ya 3)$ eC$ U 1) zb)
def Nd:lv->M D:=Yd$ Ch 4 ES
def rQ:Ec ["self","k","stays","sent"] ["self","k","stays"]$ Kf OS:=Zt rfl rfl rfl (by decide +kernel)
def B4:vJ "deliver" "Hall.deliver" OS ["self","k","stays"] [Rg J8]:=λe e e e e e e e e e d b c=>⟨λa=>QF.ap [0,0,0] d (by simpa using a) (by intro _ _ _;show Qe _ _ _ _;exact Nc rfl b c rfl rfl),λa=>QF.ap [0,0] d (by simpa using a) (by intro _ _;show Qe _ _ _ _;exact Nc rfl b c rfl rfl)⟩
def i4:bu ⟨K,ca,tx K⟩ P w mg base 15 (ca 93) ["self","k","stays"] [Rg J8] Nd:=
 bu.Yd (RM a.Nd rQ λv v v v v v b=>
  by have c:=rQ.nd;exact(Vc (by walk_at "+01")$ Vc (by walk_at "+3x01")$ Vc (Oo (HE$ gC$ Eh 2) (Qh$ iz$ YI uf PySem.F.slot_list_pop PySem.F.type_list_pop Ŋ X4 (by walk_at "+0")$ fm (Eh 1) wr) xq)$ by walk_at "+033"))
abbrev yA:Ev->M Fl:=(Mh (eT$ Fb sj (vf [(16,ez)] 1 "road" (ya 0) zb)$ Oi zb) (Wl$ vf [(16,λa=>Nd$ a++[ϒ J8])] 2 "deliver" (ya 0)$ Qa (eC$ U 0) zb) Wh)
abbrev N0:Stmt:=Yi 114
def bW:Ev->M Fl:=
 (lc (Qk (Jo$ eC$ U 12) (pd 1) yA)$ vh$ Fb wl (vf [(16,ez)] 1 "road" (ya 0) zb)$ Oi zb)
def jc:lv->M D:=Yd$ Ch 2 bW
def xX:Ec ["_law_hall","_law_k"] ["_law_hall"]$ Kf N0:=Zt rfl rfl rfl (by decide +kernel)
def XS:Ei ⟨K,ca,tx K⟩ P w mg base 16 "_law_deliver" ["_law_hall"] jc:=
 Ei.Yd (mC a.jc xX λz z z z z z z b=>
  by have d:=xX.nd;exact(Vc (vw Uo rfl (by walk_at "") (by walk_at "+1")$ Qh$ Oo (by walk_at "+0v") (Qh$ iz$ x4 (n:=2) (dds:=[ϒ J8]) (dvs:=[Ϫ J8]) (k:=15) (c:=16) (ps:=["self","k","stays"]) rfl (Eh 0) (a.tc.get 16$ by decide) ((a.te.get (16,_)$ by repeat (first|with_reducible exact ua|refine ra _ ?_)).get ("deliver",93)$ by repeat (first|with_reducible exact ua|refine ra _ ?_)) (i4 a) (ϛ rfl Ϟ) (λz z=>(pb.cons (by rw[Na]) pb.nil)) rfl (b.mono$ by decide)$ by walk_at "") xq)$ by walk_at "+0v"))
def yD:=eg 1 1 0 60 108 5 [] (hb:=by walk_at "-0")
instance KA:Uf 1 1 "given" ["self"] [(15,yD)]:=.Tf 1 15 "given" yD .nil
instance qf:ZqF 10 1 "_law_sums" ["_law_hall"]:=Tc 1 1 9 115 [] (hb:=by walk_at "-zc0.y02020")
def nw:=eg 1 1 0 80 111 1 [] (hb:=by walk_at "-0")
instance bC:Uf 1 1 "book" ["self"] [(16,nw)]:=.Tf 1 16 "book" nw .nil
def Qs:=eg 1 1 0 32 62 2 [] (hb:=by walk_at "-0")
instance jA:Uf 1 1 "today" ["self"] [(9,Qs)]:=.Tf 1 9 "today" Qs .nil
def jB:=eg 2 2 2 31 62 1 [] (hb:=by walk_at "-b10")
instance Zu:Uf 3 2 "check_pot" ["self","pot"] [(9,jB)]:=.Tf 3 9 "check_pot" jB .nil
def OC:=eg 1 1 0 18 51 0 []
instance VB:Uf 1 1 "told" ["self"] [(6,OC)]:=.Tf 1 6 "told" OC .nil
def LC:=eg 2 2 3 38 62 8 [] (hb:=by walk_at "-01x01")
instance (priority:=1001) mo34_told:Uf 4 2 "told" ["self","pot"] [(9,LC)]:=.Tf 4 9 "told" LC .nil
def Zy:=Hf 2 2 3 39 62 9 [] (hb:=by walk_at "-01Hx01")
instance zu:Uf 4 2 "shown_for" ["self","pot"] [(9,Zy)]:=.Tf 4 9 "shown_for" Zy .nil
abbrev jJ:Ev->M Fl:=(Wl$ jE DA (ya 1)$ Qa (ya 2) zb)
def BR:Ev->M Fl:=
 (lc (Xe 1 cq)$ lc (Qk (Gi$ Vd (bc [9] "shown")$ ya 0) (pd 2) jJ)$ vh$ Di$ So xx$ Qa (ya 1) zb)
def zC:=eg 3 1 0 43 62 13 ["words","shown"] (g:=BR) (hb:=by exact λa b c=>
 (Vc (by walk_at "+1n")$ Vc (vw Uo rfl (by walk_at "+0") (by walk_at "+2")$ Qh$ iz$ qO zd Um PySem.F.type_dict_update Ψ n0 (Eh 1)$ fm (Eh 2) wr)$ by walk_at "+zO1"))
instance uu:Uf 1 1 "all_shown" ["self"] [(9,zC)]:=.Tf 1 9 "all_shown" zC .nil
instance Vg:ZqF 1 2 "is_given_up" ["account","claim"]:=Tc 2 2 0 103 [] (hb:=by exact λa b c=>
 (Qh$ Ss$ RF (by walk_at "+1")$ RF aS$ XI aS))
abbrev gQ:Ev->M Fl:=(lc (Xe 6$ Fb Hi (Vd (bc [9,15] "claims")$ ya 0)$ ya 4)$ Mh (YB (eT$ Gf 2 Vg []$ Qa (ya 5)$ Qa (ya 6) zb) zL) Mn Wh)
def lV:Ev->M Fl:=
 (lc (Xe 2$ dt zb)$ lc (Xe 3$ Di$ Uk (io$ Gi$ vf [(9,Yt)] 1 "made_of" (ya 1) zb) [] (pd 0) zl$ Fb Kb (ya 0)$ eC$ U 4)$ lc (Qt (Vd (bc [15] "accounts")$ ya 0)$ Am (lx$ Vd (bc [15] "accounts")$ ya 0) (Il 2$ Qg (pd 4)$ Qg (pd 5) Vl) gQ)$ vh$ ya 2)
def WB:=Hf 7 2 1 75 108 20 ["deeds","waits","pot","account","claim"] (g:=lV) (hb:=by exact λa b c=>
 (Vc (by walk_at "+2l")$ Vc (by walk_at "+q3.y100")$ Vc (ZI$ yz Uo rfl (by walk_at "+L0") (by walk_at "+45")$ Vc (by walk_at "+6d04")$ Qh$ Oo (L2.PW.pt$ zP (by walk_at "+56")$ PN SY) Px xq)$ by walk_at "+2"))
instance fu:Uf 2 2 "strike_all" ["self","book"] [(15,WB)]:=.Tf 2 15 "strike_all" WB .nil
abbrev B5:Ev->M Fl:=(Wl$ Dw ww (ya 2)$ Qa (Di$ Uk (io$ Gi$ Fb Kb (ya 3)$ eC$ U 2) [0] (pd 0) (eT$ Fb sj (Fb Kb (ya 0)$ eC$ U 0)$ Vd (bc [7,8,10,11,12,13] "side")$ ya 2)$ ya 0) zb)
def zZ:Ev->M Fl:=
 (lc (Xe 2$ dt zb)$ lc (Qk (Gi$ Gf 2 df []$ Qa (ya 0)$ Qa (ya 1) zb) (pd 3) B5)$ vh$ ya 2)
instance Zj:ZqF 2 2 "ties_to" ["account","claim"]:=Tc 4 2 1 102 ["ties","one"] (g:=zZ) (hb:=by walk_at "-2lf0132zc0.y300202")
def qC:=eg 3 3 0 76 108 21 [] (hb:=by walk_at "-aj20i2d010200")
instance Xt:Uf 1 3 "is_to_show" ["self","pot","tie"] [(15,qC)]:=.Tf 1 15 "is_to_show" qC .nil
def JC:=Hf 3 3 3 34 62 4 [] (hb:=by walk_at "-01b2aj2x01m0x012")
instance dC:Uf 4 3 "show" ["self","pot","word"] [(9,JC)]:=.Tf 4 9 "show" JC .nil
abbrev swI:Ev->M Fl:=(Mh (eT$ vf [(15,qC)] 3 "is_to_show" (ya 0)$ Qa (ya 3)$ Qa (ya 5) zb) (lc (Wl$ vf [(9,JC)] 3 "show" (ya 1)$ Qa (ya 3)$ Qa (Fb Kb (ya 5)$ eC$ U 2) zb)$ lc (yt (Vd (bc [14,15] "last_look")$ ya 0) (Fb Hi (Vd (bc [15] "seen")$ ya 0)$ ya 3)$ Fb Kb (ya 5)$ eC$ U 2)$ Wl$ Dw Xj (ya 2)$ Qa (Ri$ Qa (eC$ ϙ "show")$ Qa (ya 3)$ Qa (Fb Kb (ya 5)$ eC$ U 2) zb) zb) Wh)
abbrev Ky:Ev->M Fl:=(Qk (Gi$ Gf 2 Zj []$ Qa (ya 4)$ Qa (Fb Hi (Vd (bc [9,15] "claims")$ ya 0)$ ya 3) zb) (pd 5) swI)
def dR:Ev->M Fl:=
 (lc (Xe 2$ dt zb)$ lc (Qt (Vd (bc [15] "accounts")$ ya 0)$ Am (lx$ Vd (bc [15] "accounts")$ ya 0) (Il 2$ Qg (pd 3)$ Qg (pd 4) Vl) Ky)$ vh$ ya 2)
def pA:=Hf 6 2 4 77 108 22 ["deeds","pot","account","tie"] (g:=dR) (hb:=by walk_at "-2lhFL034f4d035a035135m0d0352352")
instance sw:Uf 5 2 "show_all" ["self","book"] [(15,pA)]:=.Tf 5 15 "show_all" pA .nil
abbrev fT:Ev->M Fl:=(Mh (YB (eT$ Fb Pq (ya 3)$ Vd (bc [15] "finishing")$ ya 0) zL) Mn Wh)
def WY:Ev->M Fl:=
 (lc (Xe 2$ dt zb)$ lc (Qt (Vd (bc [15] "accounts")$ ya 0)$ Am (lx$ Vd (bc [15] "accounts")$ ya 0) (Il 2$ Qg (pd 3)$ Qg (pd 4) Vl) fT)$ vh$ ya 2)
def yC:=Hf 5 2 0 78 108 23 ["deeds","pot","account"] (g:=WY) (hb:=by exact λa b c=>
 (Vc (by walk_at "+2l")$ Vc (ZI$ yz Uo rfl (by walk_at "+L0") (by walk_at "+34")$ Qh$ Oo (L2.PW.pt$ zP (by walk_at "+i30")$ PN SY) Px xq)$ by walk_at "+2"))
instance Ax:Uf 1 2 "lay_all" ["self","book"] [(15,yC)]:=.Tf 1 15 "lay_all" yC .nil
abbrev nL:Ev->M Fl:=(lc (yt (vf [(9,LC)] 2 "told" (ya 1)$ Qa (ya 2) zb) (Vd (bc [9,15] "claims")$ ya 0)$ ya 2)$ yt (vf [(9,Zy)] 2 "shown_for" (ya 1)$ Qa (ya 2) zb) (Vd (bc [15] "seen")$ ya 0)$ ya 2)
abbrev bO:Ev->M Fl:=(Jl [14,15] "last_look" (vf [(9,Qs)] 1 "today" (ya 1) zb)$ ya 0)
abbrev UH:Ev->M Fl:=(Qt (Vd (bc [15] "accounts")$ ya 0)$ Am (BH$ Vd (bc [15] "accounts")$ ya 0) (pd 2) nL)
abbrev yN:Ev->M Fl:=(Wl$ vf [(15,Cu)] 2 "learn" (ya 0)$ Qa (vf [(9,zC)] 1 "all_shown" (ya 1) zb) zb)
abbrev mN:Ev->M Fl:=(vh$ Fb lE (Fb jh (vf [(15,WB)] 2 "strike_all" (ya 0)$ Qa (ya 1) zb)$ vf [(15,pA)] 2 "show_all" (ya 0)$ Qa (ya 1) zb)$ vf [(15,yC)] 2 "lay_all" (ya 0)$ Qa (ya 1) zb)
def TW:Ev->M Fl:=
 (lc bO$ lc UH$ lc yN mN)
def Sw:=Hf 3 2 5 74 108 19 ["pot"] (g:=TW) (hb:=by exact λa b c=>
 (Vc (by walk_at "+01")$ Vc (by walk_at "+hFK02m1202m1202")$ Vc (by walk_at "+01")$ Qh$ Ss$ Lx zwt bw (by walk_at "+0101")$ by walk_at "+01"))
instance Ts:Uf 6 2 "look" ["self","book"] [(15,Sw)]:=.Tf 6 15 "look" Sw .nil
abbrev ď:Ev->M Fl:=(vh$ eC$ ϒ E8)
def YC:=Hf 2 2 6 100 111 21 [] (hb:=by walk_at "-010")
instance (priority:=1001) mo43_look:Uf 7 2 "look" ["self","hand"] [(16,YC)]:=.Tf 7 16 "look" YC .nil
abbrev w1_:Ev->M Fl:=(Xe 7$ Oi zb)
abbrev V3:Ev->M Fl:=(Mh (YB (eT$ Fb uI (ya 6)$ eC$ U 0)$ eT$ Fb wl (Fb Kb (ya 1)$ Fb bx (ya 6)$ eC$ U 1)$ ya 4) (Xe 7$ Fb Kb (ya 5)$ ya 6) Wh)
abbrev Ś:Ev->M Fl:=(Mh (eT$ Fb sj (vf [(16,YC)] 2 "look" (ya 0)$ Qa (ya 6) zb)$ ya 7) (vh$ eC$ ϒ J8) Wh)
abbrev Cw:Ev->M Fl:=(lc w1_$ lc V3 Ś)
abbrev iY:Ev->M Fl:=(Xe 4$ vf [(9,Qs)] 1 "today" (vf [(16,nw)] 1 "book" (ya 0) zb) zb)
abbrev CJ:Ev->M Fl:=(Mh (Uw (eT$ Fb wl (Fb pq (ya 3)$ eC$ U 2)$ eC$ U 0)$ Uw (eT$ Fb sj (Fb pq (ya 4)$ ya 2)$ eC$ U 0)$ eT$ Fb wl (ya 4)$ eC$ U 0) ď Wh)
abbrev jK:Ev->M Fl:=(Xe 5$ Oi$ Qa (Oi zb)$ Qa (Oi$ Qa (Ri$ Qa (eC$ ϙ "show")$ Qa (eC$ U 0)$ Qa (eC$ U 7) zb) zb)$ Qa (Oi$ Qa (Ri$ Qa (eC$ ϙ "show")$ Qa (eC$ U 1)$ Qa (eC$ U 7) zb) zb) zb)
abbrev gJ:Ev->M Fl:=(Qk (Jo$ eC$ U 3) (pd 6) Cw)
abbrev ŧ:Stmt:=Yi 118
def jU:Ev->M Fl:=
 (lc iY$ lc CJ$ lc jK$ lc gJ$ vh$ eC$ ϒ E8)
def ve:lv->M D:=Yd$ Ch 8 jU
def FU:Ec ["_law_hall","_law_shows","_law_every","_law_cell","_law_today","_law_dues","_law_hand","_law_due"] ["_law_hall","_law_shows","_law_every","_law_cell"]$ Kf ŧ:=Zt rfl rfl rfl (by decide +kernel)
def O9:Ei ⟨K,ca,tx K⟩ P w mg base 8 "_law_looks" ["_law_hall","_law_shows","_law_every","_law_cell"] ve:=
 Ei.Yd (mC a.ve FU λv v v v v v v b=>
  by have:=FU.nd;walk_at "+40a34245vvvvf67va6164756a067")
def xB:=eg 1 1 0 59 108 4 [] (hb:=by walk_at "-0")
instance Cz:Uf 1 1 "looked" ["self"] [(15,xB)]:=.Tf 1 15 "looked" xB .nil
def tD:=Hf 1 1 0 33 62 3 [] (hb:=by exact λa b c=>
 (Qh$ wN rfl (fO a) (Eh 0) zA))
instance uw:Uf 1 1 "next_day" ["self"] [(9,tD)]:=.Tf 1 9 "next_day" tD .nil
abbrev du:Ev->M Fl:=(Mh (eT$ Fb bR (Fb bx (vf [(9,Qs)] 1 "today" (Vd (bc [16] "public")$ ya 0) zb)$ vf [(15,xB)] 1 "looked" (ya 1) zb)$ Vd (bc [14,15,16] "every")$ ya 0) (Wl$ vf [(15,Sw)] 2 "look" (ya 1)$ Qa (Vd (bc [16] "public")$ ya 0) zb) Wh)
def OX:Ev->M Fl:=
 (lc (Qt (Vd (bc [16] "keepers")$ ya 0)$ Am (SK$ Vd (bc [16] "keepers")$ ya 0) (pd 1) du)$ Wl$ vf [(9,tD)] 1 "next_day" (Vd (bc [16] "public")$ ya 0) zb)
def mB:=Hf 2 1 6 101 111 22 ["keeper"] (g:=OX) (hb:=by exact λa b c=>
 (Vc (ZI$ yz Uo rfl (zlu$ by walk_at "+0") (by walk_at "+1")$ Qh$ Oo (by walk_at "+010") (Qh$ iz$ FH (k:=6) (ps:=["self","book"]) rfl (Eh 1) (Ts.ok a) (b.mono$ by decide)$ by walk_at "+0") xq)$ by walk_at "+0"))
instance (priority:=1001) mo46_next_day:Uf 7 1 "next_day" ["self"] [(16,mB)]:=.Tf 7 16 "next_day" mB .nil
instance Bh:ZqF 1 2 "_law_shown" ["_law_due","_law_today"]:=Tc 3 2 0 116 ["_law_found"] (hb:=by walk_at "-2na01m022")
abbrev KC:Ev->M Fl:=(Mh (eT$ Fb lF (vf [(9,Zy)] 2 "shown_for" (vf [(16,nw)] 1 "book" (ya 0) zb)$ Qa (ya 4) zb)$ Gf 2 Bh []$ Qa (Fb Kb (ya 1)$ ya 4)$ Qa (ya 3) zb) (vh$ eC$ ϒ J8) Wh)
abbrev DC:Ev->M Fl:=(Mh (eT$ Fb sj (Fb (Uy J8) (eC$ U 7)$ vf [(15,Cr)] 1 "words" (vf [(16,Vr)] 2 "keeper" (ya 0)$ Qa (ya 5) zb) zb)$ Fb uI (ya 3)$ Fb jh (Fb Kb (ya 1)$ eC$ U 1)$ ya 2) (vh$ eC$ ϒ J8) Wh)
def GG:Ev->M Fl:=
 (lc (Xe 3$ vf [(9,Qs)] 1 "today" (vf [(16,nw)] 1 "book" (ya 0) zb) zb)$ lc (Qk (Jo$ eC$ U 2) (pd 4) KC)$ lc (Qk (Jo$ eC$ U 2) (pd 5) DC)$ vh$ eC$ ϒ E8)
instance Ah:ZqF 5 3 "_law_right" ["_law_hall","_law_shows","_law_every"]:=Tc 6 3 4 117 ["_law_today","_law_pot","_law_hand"] (g:=GG) (hb:=by exact λb a c=>
 (Vc (by walk_at "+30")$ Vc (vw Uo rfl (by walk_at "") (by walk_at "+4")$ Qh$ Oo (Ar (ygd$ ao a) t4 (by walk_at "+04") (by walk_at "+143")$ Qm _) (by walk_at "") xq)$ by walk_at "+f5as05312"))
abbrev u1:Ev->M Fl:=(Xe 1$ Gf 2 Mc []$ Qa (ya 0)$ Qa (eC$ U 0) zb)
abbrev u2:Ev->M Fl:=(Xe 2$ Fb jh (eC$ U 1)$ Fb pq (ya 1)$ eC$ U 9)
abbrev u3:Ev->M Fl:=(Xe 3$ Ri$ Qa (Fb jh (eC$ U 2)$ Fb pq (Gf 2 Mc []$ Qa (ya 0)$ Qa (eC$ U 1) zb)$ Fb bx (Fb sC (eC$ U 10)$ eC$ U 12)$ eC$ U 1)$ Qa (Fb jh (eC$ U 2)$ Fb pq (Gf 2 Mc []$ Qa (ya 0)$ Qa (eC$ U 2) zb)$ Fb bx (Fb sC (eC$ U 10)$ eC$ U 12)$ eC$ U 1) zb)
abbrev u4:Ev->M Fl:=(Xe 4$ dt$ Qa (Fb jh (Fb jh (Ri$ Qa (eC$ U 0)$ Qa (eC$ U 1) zb)$ ya 3)$ Ri$ Qa (eC$ U 50) zb)$ Qa (Fb jh (Fb jh (Ri$ Qa (eC$ U 1)$ Qa (eC$ U 2) zb)$ ya 3)$ Ri$ Qa (eC$ U 50) zb) zb)
abbrev bF:Ev->M Fl:=(Mh (eT$ Fb wl (Fb pq (Fb xz (ya 1)$ Fb jh (eC$ U 9)$ Fb Tw (eC$ U 9)$ ya 5)$ eC$ U 2)$ eC$ U 1) (tM (Fb jh (Fb jh (Ri$ Qa (Fb jh (ya 5)$ eC$ U 1)$ Qa (ya 5) zb)$ ya 3)$ Ri$ Qa (eC$ U 50) zb) (ya 4)$ ya 5) Wh)
abbrev u5:Ev->M Fl:=(Qk (Jo$ eC$ U 2) (pd 5) bF)
abbrev u6:Ev->M Fl:=(Xe 6$ Fb Kb (Oi$ Qa (Oi$ Qa (eC$ U 0)$ Qa (eC$ U 1)$ Qa (eC$ U 2) zb)$ Qa (Oi$ Qa (eC$ U 2)$ Qa (eC$ U 1)$ Qa (eC$ U 0) zb)$ Qa (Oi$ Qa (eC$ U 1)$ Qa (eC$ U 0)$ Qa (eC$ U 2) zb)$ Qa (Oi$ Qa (eC$ U 2)$ Qa (eC$ U 0)$ Qa (eC$ U 1) zb)$ Qa (Oi$ Qa (eC$ U 1)$ Qa (eC$ U 2)$ Qa (eC$ U 0) zb)$ Qa (Oi$ Qa (eC$ U 0)$ Qa (eC$ U 2)$ Qa (eC$ U 1) zb) zb)$ Fb pq (Fb xz (ya 1)$ eC$ U 36)$ eC$ U 6)
abbrev u7:Ev->M Fl:=(Xe 7$ lq 16 5 wo$ Uz []$ Qa (ya 4)$ Qa (ya 6)$ Qa (ya 2)$ Qa (Di$ wI [.inl 7]$ Qa (eC$ U 2) zb) zb)
abbrev u8:Ev->M Fl:=(Xe 8$ Fb jh (eC$ U 1)$ Fb pq (Gf 2 Mc []$ Qa (ya 0)$ Qa (eC$ U 3) zb)$ So (Jy Dx)$ Qa (ya 3) zb)
abbrev u9:Ev->M Fl:=(Xe 9$ Fb jh (eC$ U 1)$ Fb pq (Gf 2 Mc []$ Qa (ya 0)$ Qa (eC$ U 4) zb)$ ya 8)
abbrev gO:Ev->M Fl:=(Xe 10$ Fb jh (Fb jh (ya 2)$ eC$ U 1)$ Fb pq (Gf 2 Mc []$ Qa (ya 0)$ Qa (eC$ U 5) zb)$ eC$ U 20)
abbrev tO:Ev->M Fl:=(Xe 11$ Fb jh (Fb jh (ya 10)$ ya 2)$ Fb pq (Gf 2 Mc []$ Qa (ya 0)$ Qa (eC$ U 6) zb)$ eC$ U 15)
abbrev ZT:Ev->M Fl:=(Mh (Uw (Ap$ eT$ vf [(16,nt)] 3 "wish" (ya 7)$ Qa (eC$ U 0)$ Qa (Ri$ Qa (eC$ ϙ "pay")$ Qa (eC$ U 0)$ Qa (ya 8)$ Qa (eC$ U 7)$ Qa (ya 11) zb) zb)$ Ap$ eT$ Gf 1 jc []$ Qa (ya 7) zb) (vh$ eC$ ϒ J8) Wh)
abbrev iR:Ev->M Fl:=(Mh (Uw (Ap$ eT$ vf [(16,nt)] 3 "wish" (ya 7)$ Qa (eC$ U 1)$ Qa (Ri$ Qa (eC$ ϙ "pass")$ Qa (eC$ U 1)$ Qa (ya 9)$ Qa (eC$ U 7)$ Qa (ya 10) zb) zb)$ Ap$ eT$ Gf 1 jc []$ Qa (ya 7) zb) (vh$ eC$ ϒ J8) Wh)
abbrev CO:Ev->M Fl:=(Xe 12$ Oi$ Qa (Fb Tw (Fb xz (Fb bx (ya 11)$ eC$ U 1)$ ya 2)$ ya 2)$ Qa (Fb Tw (Fb xz (Fb bx (ya 10)$ eC$ U 1)$ ya 2)$ ya 2) zb)
abbrev tZ:Ev->M Fl:=(Xe 13$ Gf 1 qf []$ Qa (ya 7) zb)
abbrev BX:Ev->M Fl:=(Mh (Ap$ eT$ Gf 4 ve []$ Qa (ya 7)$ Qa (ya 12)$ Qa (ya 2)$ Qa (Fb xz (ya 1)$ eC$ U 216) zb) (vh$ eC$ ϒ J8) Wh)
abbrev XQ:Ev->M Fl:=(Wl$ vf [(16,mB)] 1 "next_day" (ya 7) zb)
abbrev uY:Ev->M Fl:=(Xe 14$ Gf 1 qf []$ Qa (ya 7) zb)
abbrev RU:Ev->M Fl:=(Mh (Uw (Ap$ eT$ Gf 3 Ah []$ Qa (ya 7)$ Qa (ya 12)$ Qa (ya 2) zb)$ eT$ Fb oLt (So (Jy Dx)$ Qa (Di$ Uk (io$ Jo$ eC$ U 3) [14,13] (pd 0) zl$ Fb bx (Fb Kb (ya 2)$ ya 0)$ Fb Kb (ya 3)$ ya 0) zb)$ eC$ U 0) (vh$ eC$ ϒ J8) Wh)
abbrev nT:Ev->M Fl:=(Xe 13$ ya 14)
abbrev yL:Ev->M Fl:=(lc BX$ lc XQ$ lc uY$ lc RU nT)
abbrev YJ:Ev->M Fl:=(Qk (Jo$ Fb jh (ya 11)$ eC$ U 2) (pd 5) yL)
abbrev iV:Ev->M Fl:=(vh$ Fb wl (vf [(15,Cr)] 1 "words" (vf [(16,Vr)] 2 "keeper" (ya 7)$ Qa (eC$ U 2) zb) zb)$ Oi$ Qa (eC$ U 7) zb)
abbrev yp6:Stmt:=Yi 119
def IU:Ev->M Fl:=
 (lc u1$ lc u2$ lc u3$ lc u4$ lc u5$ lc u6$ lc u7$ lc u8$ lc u9$ lc gO$ lc tO$ lc ZT$ lc iR$ lc CO$ lc tZ$ lc YJ iV)
def En:lv->M D:=Ch 15 IU
def QH:Ec ["_law_script","_law_cell","_law_every","_law_coins","_law_pots","_law_k","_law_keeps","_law_hall","_law_amount","_law_less","_law_until","_law_day","_law_shows","_law_before","_law_after"] ["_law_script"]$ Kf yp6:=Zt rfl rfl rfl (by decide +kernel)
def ł:jO ⟨K,ca,tx K⟩ P w mg 17 "law" ["_law_script"] En:=
 ħ a.En QH λz z z z z z z z b=>
  by have d:=QH.nd;exact(Vc (by walk_at "+10")$ Vc (by walk_at "+21")$ Vc (by walk_at "+300")$ Vc (by walk_at "+4l33")$ Vc (by walk_at "+f5a15M55345")$ Vc (by walk_at "+6vvvvvvv1")$ Vc (UC (i:=7) QH.nd rfl (ϐ rfl)$ oV (c:=16) (ps:=["self","pots","keeps","every","words"]) a.aB a.Qx (ι a) (ϐ rfl) Ϟ (λz z=>pb.nil) rfl (b.mono$ by decide) rfl$ fm (Eh 4)$ fm (Eh 6)$ fm (Eh 2)$ fm (qS$ K1 (kz.cons (kk:=.inl 7) zA zA kz.nil) rfl rfl (List.cons_ne_nil _ _)$ Oe rfl) wr)$ Vc (UC (i:=8) QH.nd rfl (ϐ rfl)$ Lx (OW rfl) bw zA$ Lx wW oX (by walk_at "+0")$ aC (AS rfl) (oQ rfl) rfl a.Jr boot_min$ fm (Eh 3) wr)$ Vc (by walk_at "+908")$ Vc (by walk_at "+:20")$ Vc (by walk_at "+;:20")$ Vc (Oo (L2.PW.pt$ GJ (by walk_at "+78;")$ zH$ HE$ gC$ Ps (XS a) rfl (b.mono$ by decide) rfl$ fm (Eh 7) wr) (by walk_at "") xq)$ Vc (Oo (L2.PW.pt$ GJ (by walk_at "+79:")$ zH$ HE$ gC$ Ps (XS a) rfl (b.mono$ by decide) rfl$ fm (Eh 7) wr) (by walk_at "") xq)$ Vc (by walk_at "+<v;22:22")$ Vc (by walk_at "+=7")$ Vc (vw Uo rfl (by walk_at "+;") (by walk_at "+5")$ Vc (Oo (HE$ gC$ Ps (O9 a) rfl (b.mono$ by decide) rfl$ by walk_at "+7<21") (by walk_at "") xq)$ Vc (by walk_at "+7")$ Vc (by walk_at "+>7")$ Vc (Oo (L2.PW.pt$ GJ (by walk_at "+7<2")$ zH$ Ar gE DE (aC (AS rfl) (oQ rfl) rfl a.Jr boot_min$ by walk_at "+zc>=.y02030") zA$ Qm _) (by walk_at "") xq)$ by walk_at "+=>")$ by walk_at "+7v")
end
end K55
namespace K55
open L2 L4
set_option maxHeartbeats 4000000
section
variable{α:Type}{xs:List α}{σ:Ea}{fi:Ev->M Bool}{fe:Ev->M D}{tg:D->Ev->Option Ev}{nx:NX}{rest:Ev}
def yK(ϋ:Option D->Prop)(v a:α->D)(b:α->Option D) p y(u:∀ i j,i<=xs.length->nx i (σ++j)=BD ((xs[i]?).map v))(w:∀ x o c,ϋ c->tg (v x) (o::c::rest)=BD (BD (a x)::b x::rest)/\ϋ (b x))
  (step:∀ x∈xs,∀ j,fi (BD (a x)::b x::rest) (σ++j)=J (p x) (σ++j)/\(p x=E8->fe (BD (a x)::b x::rest) (σ++j)=J (y x) (σ++j))) (A:xs.length<=1000) :
  ∀ k i o c f,ϋ c->xs.length<k+i->i<=xs.length->f.length<=i->
   Ci nx σ.length tg fi fe k i (o::c::rest) (σ++[Ϗ f])=J () (σ++[Ϗ$ f++((xs.drop i).filter p).map y]):=by
 intro k;induction k with
 |zero=>intro i o c f _ s m;lia
 |succ k q=>
  intro i o c f t s m B;unfold Ci;rw[u i _ m];cases e:xs[i]? with
  |none=>
   have h:=Ub.mp e;rw[wq h];simp
  |some d=>
   obtain⟨h,l⟩:=ba.mp e;have n:xs.drop i=d::xs.drop (i+1):=by rw[<-l];exact fh h
   obtain⟨s1,s2⟩:=step d (by rw[<-l];exact gg h) [Ϗ f];obtain⟨z,r⟩:=w d o c t;simp only[Option.map_some,z];rw[Yl,JD s1,Ad];by_cases g:p d=E8
   ·rw[g,ja rfl,Yl,JD$ s2 g,Ad,Yl,yF ⋯,Ad,q (i+1) _ _ (f++[y d]) r ⋯ ⋯ (by simp;omega),n,Ye,ja g];simp
   ·rw[pa g,q (i+1) _ _ f r ⋯ ⋯ ⋯,n,Ye,pa g]
end
def Fz{xs}(h:Af xs=E8):Yf σ (J (O σ.length)$ σ++[Ϗ xs])=J (ύ xs) σ:=by
 have:=VQ (σ:=σ) (j:=[]) (j':=[]) h
 simp_all
def wH{c:Type}{xs:List c}{src}{s}{ix}{fi}{fe}{ρ}{σ} v y p(l:src ρ σ=J s σ)(k:∀ i j,s.nx i (σ++j)=BD ((xs[i]?).map v))(g:xs.length<=1000)
  (step:∀ x∈xs,∀ j,fi (BD (v x)::A5::(ix.map λi=>(ρ[i]?).getD A5)) (σ++j)=J (p x) (σ++j)/\(p x=E8->fe (BD (v x)::A5::(ix.map λi=>(ρ[i]?).getD A5)) (σ++j)=J (y x) (σ++j))) (e:∀ x∈xs,p x=E8->cl (y x)=E8) :
  Di (Uk (io src) ix (pd 0) fi fe) ρ σ=J (ύ$ (xs.filter p).map y) σ:=by
 show Yf σ (Kc (Kc _ kM) _ σ)=_;rw[Yl,Yl,l,Ad];show Yf σ (Kc (Ci s.nx σ.length _ fi fe 1001 0$ A5::A5::(ix.map λi=>(ρ[i]?).getD A5)) _ _)=_;rw[Yl,yK _ v v _ p y (λi j d=>k i j) (λx o n h=>by subst h;exact⟨rfl,rfl⟩) step g 1001 0 A5 A5 [] rfl ⋯ ⋯ ⋯,Ad];refine Eq.trans (Eb _ ?_)$ Fz (zp λd f=>by obtain⟨x,m,rfl⟩:=Ja.mp f;obtain⟨a,b⟩:=Bm.mp m;exact e x a b);simp
def Nu{b:Type}{xs:List b}{src}{s}{ix}{fe}{ρ}{σ} v y(g:src ρ σ=J s σ)(f:∀ i j,s.nx i (σ++j)=BD ((xs[i]?).map v))(e:xs.length<=1000)
  (step:∀ x∈xs,∀ j,fe (BD (v x)::A5::(ix.map λi=>(ρ[i]?).getD A5)) (σ++j)=J (y x) (σ++j)) (c:∀ x∈xs,cl (y x)=E8) :
  Di (Uk (io src) ix (pd 0) zl fe) ρ σ=J (ύ$ xs.map y) σ:=by
 have:=wH (p:=λh=>E8) v y (fi:=zl) g f e (λd a j=>⟨rfl,λh=>step d a j⟩) (λd a h=>c d a)
 rwa [Jt.mpr λh h=>rfl]at this
def U9{g:Type}{xs:List g}{e}{nx}{ix}{fe}{ρ}{c}(a b y:g->D)(n:e ρ c=J nx c)(m:∀ i j,i<=xs.length->nx i (c++j)=BD ((xs[i]?).map λx=>ϑ [a x,b x]))(l:xs.length<=1000)
  (step:∀ x∈xs,∀ j,fe (BD (a x)::BD (b x)::(ix.map λi=>(ρ[i]?).getD A5)) (c++j)=J (y x) (c++j)) (h:∀ x∈xs,cl (y x)=E8) :
  Di (Uk e ix (Il 2$ Qg (pd 0)$ Qg (pd 1) Vl) zl fe) ρ c=J (ύ$ xs.map y) c:=by
 show Yf c (Kc _ _ c)=_;rw[Yl,n,Ad];show Yf c (Kc (Ci nx c.length _ zl fe 1001 0$ A5::A5::(ix.map λi=>(ρ[i]?).getD A5)) _ _)=_;rw[Yl,yK (λd=>True) _ a _ _ y m (λx o p d=>⟨rfl,trivial⟩) (λx f j=>⟨rfl,λd=>step x f j⟩) l 1001 0 A5 A5 [] trivial ⋯ ⋯ ⋯,Ad];refine Eq.trans (Eb _ ?_)$ Fz (zp λd k=>by obtain⟨x,f,rfl⟩:=Ja.mp k;exact h x f);have fe:List.filter _ xs=xs:=Jt.mpr λd d=>rfl;simp[fe]
noncomputable def Sc:D->Bool
 | U _=>E8
 | Ϝ=>E8
 | ϒ _=>E8
 | ϙ _=>E8
 |_=>J8
noncomputable def bd(d:D)(a b:Int):Bool:=match d with
 | U i=>decide (a<=i) && decide (i<=b)
 |_=>J8
theorem V4 x a:jz .int (ϙ x) a=J (ϒ J8) a:=nr rfl
def Ů(h:Sc d=E8) a:Zl [d] a=J (ϒ$ match d with | U _=>E8|_=>J8) a:=by
 unfold Zl Tc;cases d with
 |int i=>simp
 |ec=>simp
 |bl b=>simp
 |str x=>simp[V4]
 |_=>cases h
def ń(h:Sc d=E8) a b c:Ff [d,U a,U b] c=J (ϒ$ bd d a b) c:=by
 have w:=Ů h;unfold Ff Tc;cases d with
 |int i=>cases e:decide (a<=i)<;>simp[bd,e,w]
 |ec=>simp[bd,w]
 |bl b=>simp[bd,w]
 |str x=>simp[bd,w]
 |_=>cases h
theorem xP a b c d e r f:Kb (ϑ$ a::b::c::d::e::r) (U 4) f=J e f:=qF$ Lr rfl
@[simp] theorem yb7 f lo b a c:qJ f lo b a c=(f a c).bind (fM (qA lo a)$ qA b a):=nr rfl
@[simp] theorem zyq lo a x b:fM lo a x b=(lo b).bind (eN x a):=nr rfl
@[simp] theorem zyr x a lo b:eN x a lo b=(a b).bind (Ey x lo):=nr rfl
@[simp] theorem zr3 b a:qA A5 b a=J A5 a:=nr rfl
@[simp] theorem zr4 f a b:qA (BD f) a b=(f a b).bind kK:=nr rfl
@[simp] theorem zwy i a:kK (U i) a=J (BD i) a:=nr rfl
@[simp] theorem hG xs lo a b:Ey (ϑ xs) lo a b=J (ϑ$ Ru xs lo a) b:=nr rfl
@[simp] theorem ymw a r b:Kb (ύ$ a::r) (U 0) b=J a b:=WC$ Lr rfl
@[simp] theorem ymx a b r c:Kb (ύ$ a::b::r) (U 1) c=J b c:=WC$ Lr rfl
@[simp] theorem ymy a b c r d:Kb (ύ$ a::b::c::r) (U 2) d=J c d:=WC$ Lr rfl
theorem Gs(h:nx i c=BD (BD d))(f:b d e=BD ρ1):mo nx b a (k+1) i e c=(a ρ1 c).bind (fw$ mo nx b a k$ i+1):=by
 rw[mo];simp only[h,f];rfl
def OA(h:nx i b=BD A5):mo nx d a (k+1) i c b=J (Ϙ c) b:=by
 rw[mo];simp only[h]
@[simp] theorem O6 f a b:uH f a b=(f a b).bind wB:=nr rfl
@[simp] theorem Tt b d a c e:Am b d a c e=Hm c (JH d a c) (b c e):=wn ..
theorem oK{xs}(b:Ui a x=BD xs)(h:Af xs=E8):Yf a (yq [x] a)=J (ύ xs) a:=by
 have e:yq [x] a=J (O a.length) (a++[Ϗ xs]):=by unfold yq;simp[b];rfl
 have:=VQ (σ:=a) (j:=[]) (j':=[]) h
 simp_all
section
variable{σ:Ea}{x:D}{xs:lv}
def VY(h:jf σ x=BD xs):wB x σ=J (Hu x) σ:=by unfold wB;rw[h]
def bI(h:jf σ x=BD xs)(a:xs[i]?=BD d):Hu x i σ=BD (BD$ ϑ [U i,d]):=by unfold Hu;rw[h];simp[a]
def eZ(h:jf σ x=BD xs):Hu x xs.length σ=BD A5:=by unfold Hu;rw[h];simp
end
@[simp] theorem b_0:(("accept" : Str) == "offer")=J8:=by decide
@[simp] theorem b_1:(("agree" : Str) == "strike")=J8:=by decide
@[simp] theorem b_2:(("agree" : Str) == "word")=J8:=by decide
@[simp] theorem b_3:(("ask" : Str) == "accept")=J8:=by decide
@[simp] theorem b_4:(("ask" : Str) == "offer")=J8:=by decide
@[simp] theorem b_5:(("ask" : Str) == "struck")=J8:=by decide
@[simp] theorem b_6:(("ask" : Str) == "word")=J8:=by decide
@[simp] theorem yth:(("strike" : Str) == "word")=J8:=by decide
@[simp] theorem yti:(("struck" : Str) == "accept")=J8:=by decide
@[simp] theorem ytj:(("struck" : Str) == "offer")=J8:=by decide
theorem QC{xs}(h:Af xs=E8) a:Yf a (yq [ύ xs] a)=J (ύ xs) a:=oK (F7 xs) h
def Rr(xs:List a)(v:a->D)(i:Nat):(xs.map v)[i]?=(xs[i]?).map v:=Ta ..
def bt(h:a<=i/\i<=b) c:Ff [U i,U a,U b] c=J (ϒ E8) c:=by
 rw[ń rfl];simp[bd,h]
def QR(h:s=0\/s=1) c:Ln [U s] c=J (ϒ E8) c:=by
 unfold Ln Tc;simp[(bt (i:=s) (a:=0) (b:=1) ⋯ c)]
def FY(h:0<=s/\s<=59) a:Jn [U s] a=J (ϒ E8) a:=by
 unfold Jn Tc;simp[(bt h a)]
def ZY(h:0<=s/\s<=1000000) a:Fk [U s] a=J (ϒ E8) a:=by
 unfold Fk Tc;simp[(bt h a)]
def sR(h:0<=p/\p<=2) a:Qp [U p] a=J (ϒ E8) a:=by
 unfold Qp Tc;simp[(bt h a)]
structure Ti where
 (p a w y:Int)
noncomputable def Ti.D(t:Ti):L4.D:=ϑ [U t.p,U t.a,U t.w,U t.y]
structure Ti.Ok(t:Ti):Prop where
 p:t.p=0\/t.p=1
 a:1<=t.a/\t.a<=1000000000000
 w:0<=t.w/\t.w<=59
 y:0<=t.y/\t.y<=1000000
noncomputable def DD(b:List Ti):Int:=(b.map Ti.a).sum
def Om(n a b:Int)(c:List Ti):D:=ϑ [U n,ϑ [U a,U b],ϑ$ c.map Ti.D]
def MX{t:Ti}(h:t.Ok) b:Tl [t.D] b=J (ϒ E8) b:=by
 have c:Ck [U t.a] b=J (ϒ E8) b:=by
  unfold Ck Tc;simp[(bt h.a b)]
 have d:Fp [U t.y] b=J (ϒ E8) b:=by
  unfold Fp Tc;simp[(bt h.y b)]
 unfold Ti.D Tl Tc;simp[(QR h.p b),c,(FY h.w b),d]
structure Tq(n a b:Int)(ts:List Ti):Prop where
 n:0<=n/\n<=1000000
 a:0<=a/\a<=2000000000000
 b:0<=b/\b<=2000000000000
 t:∀ t∈ts,t.Ok
 l:ts.length<=6
 d:(ts.map Ti.w).Nodup
def NE(h:Tq n a b ts) c:aj [Om n a b ts] c=J (ϒ E8) c:=by
 have r:=h.l;have g:∀ c,Gi (ya 0) [BD$ ϑ$ ts.map Ti.D] c=J (.seq$ ts.map Ti.D) c:=λc=>by simp
 have l1:=Nu (ix:=[]) (fe:=Gf 1 Tl []$ Qa (ya 0) zb) Ti.D (λs=>ϒ E8) (g c) (λi s=>Eb BD$ Rr ts _ i) ⋯ (λt m j=>by
  have:=MX (h.t t m)$ c++j;simp[this]) (λs s=>by simp)
 have l2:=Nu (ix:=[]) (fe:=Fb Kb (ya 0)$ eC$ U 2) Ti.D (λt=>U t.w) (g c) (λi s=>Eb BD$ Rr ts _ i) ⋯ (λt h j=>by simp[Ti.D]) (λd q=>by simp);rw[show ts.map (λt=>U t.w)=(ts.map Ti.w).map U by rw[Cb];rfl]at l2;have e:=L5 (σ:=c) (f:=λs:Ti=>E8) (l:=ts);rw[show ts.all _=E8 from Vb.mpr λs s=>rfl]at e;have s1:=Ã (σ:=c) (l:=ts.map Ti.w) (by simp;lia);rw[(Ł _).mpr h.d,Oa]at s1;have o:Gq [ϑ$ ts.map Ti.D] c=J (U (ts.length:Int)) c:=by
  have:=wZ (σ:=c)$ ts.map Ti.D;simpa using this
 have k:decide ((ts.length:Int) > 6)=J8:=by simp;lia
 unfold Om aj Tc;dsimp only;unfold Lq Tc;dsimp only;unfold uo Tc;dsimp only;generalize _=N,ts.map (λs=>ϒ E8)=p,ts.map Ti.D=TT,(ts.map Ti.w).map U=W at *;simp[(ZY h.n c),(bt h.a c),(bt h.b c),l1,l2,e,s1,o,k,-Ip]
def AL(t:Ti):cl t.D=E8:=by unfold Ti.D;simp
def xU(b:List Ti):Af (b.map Ti.D)=E8:=zp λd a=>by obtain⟨t,_,rfl⟩:=Ja.mp a;exact AL t
def QU n a b c:cl (Om n a b c)=E8:=by
 unfold Om;simp[xU]
def Õ(f:0<=u/\u<=1000000000000)(g:0<=v/\v<=1000000000000) c:El [U u,U v] c=J (Om 0 u v []) c:=by
 have d:=NE (n:=0) (a:=u) (b:=v) (ts:=[]) ⟨by lia,by lia,by lia,by simp,by simp,by simp⟩ c;have e:Gh [U 0,ϑ [U u,U v],Ϝ] c=J (Om 0 u v []) c:=by
  unfold Om at d ⊢;simp at d ⊢;unfold Gh ZO;simp[d]
 unfold El Tc;simp[e,(QU 0 u v [])]
def T4 a b c:vA [ϑ [U a,U b]] c=J (U$ a+b) c:=by
 simp[vA,Jp]
def KO(l:gV) a:vA [ύ$ l.map U] a=J (U l.sum) a:=by
 simp[vA]
def XM n a b(m:c.length<=6) e:yl [Om n a b c] e=J (U$ a+b+DD c) e:=by
 have g:∀ e,Kb (Om n a b c) (U 1) e=J (ϑ [U a,U b]) e:=λe=>by simp[Om]
 have l:=Nu (s:=.seq _) (ix:=[]) (fe:=Fb Kb (ya 0)$ eC$ U 1) (ρ:=[BD$ Om n a b c]) (σ:=e) (src:=Gi$ Fb Kb (ya 0)$ eC$ U 2) Ti.D (λt=>U t.a) (by rfl) (λi d=>Eb BD$ Rr c _ i) ⋯ (λt h j=>by simp[Ti.D]) (λd k=>by simp);have f:c.map (λt=>U t.a)=(c.map Ti.a).map U:=by rw[Cb];rfl
 rw[f]at l;have o:=KO (c.map Ti.a) e;unfold yl Tc;dsimp only;generalize (c.map Ti.a).map U=G,Om n a b c=S at *;simp[g,l,T4,o,DD,-Ip]
def VU(h:Tq n a b d) c:Wf [Om n a b d,U$ a+b+DD d] c=J (ϒ E8) c:=by
 unfold Wf Tc;simp[(NE h c),(XM n a b (by have:=h.l;omega) c)]
abbrev Kv:=List$ wc × D
structure Sn where
 (n a b:Int)
 ts:List Ti
def Sn.D(s:Sn):L4.D:=Om s.n s.a s.b s.ts
def wt(s:Sn):cl s.D=E8:=QU ..
def xH(b:List Sn):Af (b.map Sn.D)=E8:=zp λd a=>by obtain⟨s,_,rfl⟩:=Ja.mp a;exact wt s
def s0(s:Sn) a:Kb s.D (U 0) a=J (U s.n) a:=by unfold Sn.D Om;simp
def s1(s:Sn) c:Kb s.D (U 1) c=J (ϑ [U s.a,U s.b]) c:=by unfold Sn.D Om;simp
def s2(s:Sn) a:Kb s.D (U 2) a=J (ϑ$ s.ts.map Ti.D) a:=by unfold Sn.D Om;simp
noncomputable def ow(q:Int)(s:Sn):Int:=if q=0 then s.a else s.b
def Q5(d:q=0\/q=1) s c:Kb (ϑ [U s.a,U s.b]) (U q) c=J (U$ ow q s) c:=by
 rcases d with rfl|rfl<;>simp[ow]
structure Sn.Ok(W:Int)(s:Sn):Prop where
 st:Tq s.n s.a s.b s.ts
 w:s.a+s.b+DD s.ts=W
structure Pv where
 q:Int
 S:Option Int
 y:List Sn
noncomputable def sK(S:Option Int):Kv:=match S with
 |none=>[]
 |some d=>[(.inl 7,U d)]
def sD(S:Option Int):D:=Ϭ ((sK S).map (·.1)) ((sK S).map (·.2))
def fg(p:Pv):D:=ϑ [U p.q,ύ$ p.y.map Sn.D,sD p.S]
structure Vw where
 e:Int
 L:Int
 K:gV
noncomputable def Xh(v:Vw)(P:lv):D:=Ϸ 14 ["every","last_look","known","pots"] [U v.e,U v.L,ύ$ v.K.map U,ύ P]
theorem ykv S:cl (sD S)=E8:=by cases S<;>rfl
theorem mF(K:gV):Af (K.map U)=E8:=zp λd a=>by obtain⟨s,_,rfl⟩:=Ja.mp a;rfl
def uX p:cl (fg p)=E8:=by unfold fg;simp[xH,ykv]
def rV(ps:List Pv):Af (ps.map fg)=E8:=zp λd a=>by obtain⟨p,_,rfl⟩:=Ja.mp a;exact uX p
def B7 v(h:Af P=E8):cl (Xh v P)=E8:=by unfold Xh;simp[h]
structure Lo where
 (w:Int)
 (k:Str)
 (v d:Int)
noncomputable def Lo.D(l:Lo):L4.D:=ϑ [ϙ l.k,U l.v,U l.d]
structure Rd where
 (f:Int)
 (x:List Lo)
noncomputable def Wr(x:List Lo):Kv:=x.map λl=>(.inl l.w,l.D)
noncomputable def Rd.D(r:Rd):L4.D:=ϑ [U r.f,Ϭ ((Wr r.x).map (·.1)) ((Wr r.x).map (·.2))]
noncomputable def lj(S:Option Int)(t:Ti):Bool:=match S with
 |none=>J8
 |some d=>decide (t.w=7) && decide (d<t.y)
def lk(v:Vw)(S:Option Int)(q:Int)(t:Ti):Str:=if t.p=q then (if lj S t then "lost" else "open")else if lj S t then "won" else if t.w∈v.K/\v.L+v.e<t.y then "sure" else "hangs"
noncomputable def wK(k:Str):Bool:=k == "sure" || k == "won"
def fa(v:Vw)(S:Option Int)(q:Int)(t:Ti):Int:=if wK (lk v S q t)then t.a else 0
def iJ(v:Vw)(S:Option Int)(q:Int)(a:List Ti):Int:=(a.map$ fa v S q).sum
def lo(v:Vw)(S:Option Int)(q:Int)(t:Ti):Lo:=⟨t.w,lk v S q t,t.a,t.y⟩
def rd(v:Vw)(S:Option Int)(q:Int)(s:Sn):Rd:=⟨ow q s+iJ v S q s.ts,s.ts.map$ lo v S q⟩
def bX(l:Lo):cl l.D=E8:=by unfold Lo.D;simp
def dX x:Af ((Wr x).map (·.2))=E8:=zp λd a=>by
 unfold Wr at a;rw[Cb]at a;obtain⟨l,_,rfl⟩:=Ja.mp a;exact bX l
def HJ(r:Rd):cl r.D=E8:=by unfold Rd.D;simp[cl,dX]
def n9(b:List Rd):Af (b.map Rd.D)=E8:=zp λd a=>by obtain⟨s,_,rfl⟩:=Ja.mp a;exact HJ s
@[simp] theorem GR b a:cq b a=J (O a.length) (a++[ώ []]):=nr rfl
@[simp] theorem zgu o f b a c:jE o f b a c=(f a c).bind (Yw o$ b a):=nr rfl
@[simp] theorem Y4 f c b a d:yt f c b a d=Hm a (lM a c b) (f a d):=wn ..
@[simp] theorem ų c b d a e:lM a c b d e=Hm a (qL a b d) (c a e):=wn ..
@[simp] theorem zpd b d x a c:qL a b d x c=Hm a (An a d x) (b a c):=wn ..
theorem jq(h:σ[n]?=BD (ώ kvs))(a:kvs.length<1000):An ρ d (O n) (U w) σ=J (Ϙ ρ) (σ.set n$ ώ$ Zi kvs (.inl w) d):=by
 unfold An;simp only[tj,h];rw[ja (show kvs.length<Og from a)]
theorem EH{f:D->Option D}(a:∀ d,cl d=E8->f d=BD d):∀ {xs:lv},Af xs=E8->Xl f xs=BD xs
 |[],_=>rfl
 |x::xs,h=>by
  rw[Af,Fa]at h;rw[Xl,a x h.1,EH a h.2]
theorem TF(h:Af (kvs.map (·.2))=E8):fz σ.length (σ++ώ kvs::j) (m+1) (O σ.length)=BD (Ϭ (kvs.map (·.1)) (kvs.map (·.2))):=by
 have e:(σ++ώ kvs::j)[σ.length]?=BD (ώ kvs):=by simp
 unfold fz;dsimp only;rw[pa$ Qd _,e];dsimp only;rw[EH (λd a=>Ry a) h];rfl
theorem T9 b m(xs:gV):cy b (U m) (xs.map U)=BD (xs.map λx=>decide$ x=m):=by
 induction xs with
 |nil=>rfl
 |cons x xs a=>
  rw[Sa,Sa,cy,a];rfl
def q7(K:gV) w a:oJ J8 (U w) (ύ$ K.map U) a=J (ϒ$ decide$ w∈K) a:=by
 have:Ui a (ύ _)=BD (K.map U):=rfl;unfold oJ;simp only[this,T9];have e:((K.map λx=>decide$ x=w).any id)=decide (w∈K):=by
  rw[List.any_map];by_cases h:w∈K
  ·rw[yc h,Sd];exact⟨w,h,by simp⟩
  ·rw[ub h,Av];intro x b;simp;intro z;exact h$ z ▸ b
 simp[e]
def á v S q t:lk v S q t = "lost"\/lk v S q t = "open"\/lk v S q t = "won"\/lk v S q t = "sure"\/lk v S q t = "hangs":=by
 unfold lk;repeat' split
 all_goals simp
theorem V9 v S q t a:AJ J8 ["won","sure","back"] (ϙ$ lk v S q t) a=J (ϒ$ wK$ lk v S q t) a:=by
 rcases á v S q t with h|h|h|h|h<;>rw[h]<;>exact nr rfl
def k9 S t a:Rh [t.D,sD S] a=J (ϒ$ lj S t) a:=by
 have c:∀ a,Kb t.D (U 2) a=J (U t.w) a:=λa=>by unfold Ti.D;simp
 have i:∀ a,Kb t.D (U 3) a=J (U t.y) a:=λa=>by unfold Ti.D;simp
 unfold Rh lj Tc;cases S with
 |none=>
  have b:∀ a,Pq (U t.w) (sD A5) a=J (ϒ J8) a:=λa=>nr rfl;simp[c,b]
 |some d=>
  have b:∀ a,Pq (U t.w) (sD$ BD d) a=J (ϒ$ decide$ t.w=7) a:=λa=>by
   have:ig a (sD$ BD d)=BD [(.inl 7,U d)]:=rfl;unfold Pq;simp only[tj,this];by_cases h:t.w=7
   ·simp[Cj,h]
   ·have e:¬ (7:Int)=t.w:=λz=>h z.symm;simp[Cj,h,e]
  by_cases h:t.w=7
  ·have g:∀ a,Hi (sD$ BD d) (U 7) a=J (U d) a:=λa=>nr rfl;rw[h]at c b;generalize sD (BD d)=f at *;cases e:decide (d<t.y)<;>simp[c,i,b,g,h,e]
  ·rw[ub h]at b;generalize sD (BD d)=f at *;simp[c,b,h]
section
variable(v:Vw)(P:lv)(σ:Ea)(S:Option Int)(q:Int)(ss:List Sn)
def Ķ{t}(u:lj S t=E8\/v.L<t.y):Rl [Xh v P,fg ⟨q,S,ss⟩,t.D] σ=J (ϙ$ lk v S q t) σ:=by
 have m:∀ σ,bc [14,15] "last_look" (Xh v P) σ=J _ σ:=λσ=>kh (LD rfl) rfl rfl;have r:∀ σ,bc [14,15] "known" (Xh v P) σ=J _ σ:=λσ=>kh (LD rfl) rfl rfl;have k3:∀ σ,bc [14,15,16] "every" (Xh v P) σ=J _ σ:=λσ=>kh (LD rfl) rfl rfl;have d:∀ σ,Kb (fg ⟨q,S,ss⟩) (U 0) σ=J (U q) σ:=λσ=>by unfold fg;simp
 have f:∀ σ,Kb (fg ⟨q,S,ss⟩) (U 2) σ=J (sD S) σ:=λσ=>by unfold fg;simp
 have a:∀ σ,Kb t.D (U 0) σ=J (U t.p) σ:=λσ=>by unfold Ti.D;simp
 have s:∀ σ,Kb t.D (U 2) σ=J (U t.w) σ:=λσ=>by unfold Ti.D;simp
 have n:∀ σ,Kb t.D (U 3) σ=J (U t.y) σ:=λσ=>by unfold Ti.D;simp
 have g:=q7 v.K t.w;have c:=k9 S t;unfold Rl lk Tc;dsimp only;unfold bo Tc;dsimp only;unfold Nm Tc;dsimp only;generalize sD S=x,fg _=A,Xh v P=V at *;by_cases l:lj S t=E8
 ·rw[l]at c;simp only[l,Dg];by_cases h:t.p=q
  ·simp only[h,Dg];rw[h]at a;simp[d,f,a,c]
  ·have b:(t.p == q)=J8:=by simp[h]
   simp only[h,Ml];simp[d,f,a,c,b]
 ·have u:v.L<t.y:=u.resolve_left l;have i:decide (v.L ≥ t.y)=J8:=ub ⋯;rw[show lj S t=J8 by simpa using l]at c ⊢;by_cases h:t.p=q
  ·simp only[h,Dg,Cf,Ml];rw[h]at a;simp[d,f,a,c,m,n,i]
  ·have b:(t.p == q)=J8:=by simp[h]
   simp only[h,Ml,Cf];by_cases j:t.w∈v.K
   ·rw[yc j]at g;by_cases k:v.L+v.e<t.y
    ·have o:decide (v.L+v.e<t.y)=E8:=yc k;rw[ja ⟨j,k⟩];simp[d,f,a,c,b,m,r,k3,s,n,i,g,o]
    ·have o:decide (v.L+v.e<t.y)=J8:=ub k;rw[pa λz=>k z.2];simp[d,f,a,c,b,m,r,k3,s,n,i,g,o]
   ·rw[ub j]at g;rw[pa λz=>j z.1];simp[d,f,a,c,b,m,r,s,n,i,g]
def R8 d(h:∀ p∈a,p.1≠.inl w):Zi a (.inl w) d=a++[(.inl w,d)]:=by
 unfold Zi;rw[pa];intro z;obtain⟨p,b,e⟩:=Sd.mp z;exact h p b ⋯
def yhn Z f B{t}(r:lj S t=E8\/v.L<t.y):mH [BD$ Xh v P,BD$ fg ⟨q,S,ss⟩,BD Z,BD$ U f,BD$ O σ.length,BD t.D,B] (σ++[ώ []])=J (Ϙ [BD$ Xh v P,BD$ fg ⟨q,S,ss⟩,BD Z,BD$ U$ f+fa v S q t,BD$ O σ.length,BD t.D,BD$ ϙ$ lk v S q t]) (σ++[ώ$ Wr [lo v S q t]]):=by
 have l:=λσ=>Ķ v P σ S q ss r;have u:∀ σ,Kb t.D (U 1) σ=J (U t.a) σ:=λσ=>by unfold Ti.D;simp
 have z:∀ σ,Kb t.D (U 2) σ=J (U t.w) σ:=λσ=>by unfold Ti.D;simp
 have A:∀ σ,Kb t.D (U 3) σ=J (U t.y) σ:=λσ=>by unfold Ti.D;simp
 have st:=λk=>jq (ρ:=k) (σ:=σ++[ώ []]) (d:=ϑ [ϙ$ lk v S q t,U t.a,U t.y]) (n:=σ.length) (w:=t.w) (kvs:=[]) ⋯ ⋯;rw[az,show Zi [] (.inl t.w) (ϑ [ϙ$ lk v S q t,U t.a,U t.y])=Wr [lo v S q t]from rfl]at st;have s:=V9 v S q t;have p:∀ (f:Ev->M D) (c e g h i j:Option D) (x:D) (σ:Ea),qz (λa b=>a+b) 3 f [c,e,g,BD x,h,i,j] σ=Hm [c,e,g,BD x,h,i,j] (dG (λa b=>a+b) 3 [c,e,g,BD x,h,i,j] x) (f [c,e,g,BD x,h,i,j] σ):=λf c e g h i j x σ=>IX rfl;unfold mH fa;generalize σ++[ώ []]=Y,σ++[ώ$ Wr [lo v S q t]]=Z,fg ⟨q,S,ss⟩=P,Xh v P=V,t.D=C,lk v S q t=o at *;generalize wK o=m at *;cases m<;>simp[l,u,z,A,st,s,p]
def ř(g:q=0\/q=1){s}(d:s.ts=[]\/∃ t,s.ts=[t]/\t.w=7)(a:∀ t∈s.ts,lj S t=E8\/v.L<t.y):xg [Xh v P,fg ⟨q,S,ss⟩,s.D] σ=J (rd v S q s).D σ:=by
 have h:∀ σ,Kb (fg ⟨q,S,ss⟩) (U 0) σ=J (U q) σ:=λσ=>by unfold fg;simp
 obtain⟨b,c,i⟩:∃ b c,vm (pd 5) mH (s.ts.map Ti.D) [BD$ Xh v P,BD$ fg ⟨q,S,ss⟩,BD s.D,BD$ U$ ow q s,BD$ O σ.length,A5,A5] (σ++[ώ []])=J (Ϙ [BD$ Xh v P,BD$ fg ⟨q,S,ss⟩,BD s.D,BD$ U (rd v S q s).f,BD$ O σ.length,b,c]) (σ++[ώ$ Wr (rd v S q s).x]):=by
  unfold rd iJ;rcases d with e|⟨t,e,_⟩<;>rw[e]at a ⊢
  ·exact⟨A5,A5,by simp;rfl⟩
  ·refine⟨BD t.D,BD$ ϙ$ lk v S q t,?_⟩;rw[Sa,Qo];simp only[Za,jb];rw[yhn v P σ S q ss _ _ _$ a t ua,Ad,Yh];simp
 have fz:Yf σ (J (ϑ [U (rd v S q s).f,O σ.length])$ σ++[ώ$ Wr (rd v S q s).x])=J (rd v S q s).D σ:=by
  unfold Yf;dsimp only;rw[ja ⋯];have:fz σ.length (σ++[ώ$ Wr (rd v S q s).x]) 6 (ϑ [U (rd v S q s).f,O σ.length])=BD (rd v S q s).D:=by
   unfold fz;dsimp only;unfold Xl;unfold Xl;rw[(TF (σ:=σ) (j:=[]) (m:=4)$ dX (rd v S q s).x)];rfl
  rw[this]
 unfold xg cX Tc;simp[h,(s1 s),(s2 s),(Q5 g s),i,fz]
end
def vZ(h:ys.length+zs.length<=1000):ww (O σ.length) [ύ zs] (σ++[Ϗ ys])=J Ϝ (σ++[Ϗ$ ys++zs]):=by
 have e:jf (σ++[Ϗ ys]) (ύ zs)=BD zs:=rfl;unfold ww;simp only[sE,e];rw[ja (show _<=Og from h),az]
theorem G6{xs ys}(b:ya i a σ=J (ύ xs) σ)(c:ya j a σ=J (ύ ys) σ):FN (ya i) (ya j) a σ=J (AE (ύ xs)$ ύ ys) σ:=by
 unfold FN;rw[Yl,b,Ad];unfold YR;rw[Yl,c,Ad];rfl
noncomputable def gu{c:Type}(a:c->Int):List c->c->c
 |[],b=>b
 |x::xs,b=>if a x<a b then gu a xs x else gu a xs b
set_option tactic.hygienic true in
theorem LM{f:Type}(a:f->Int):∀ (xs:List f) (b:f),∀ y∈b::xs,a (gu a xs b)<=a y
 |[],b,y,d=>by
  have:y=b:=by simpa using d
  rw[this];exact Gm _
 |x::xs,b,y,d=>by
  unfold gu;split
  ·next h=>
   have c:=LM a xs x;rcases Da.mp d with e|e
   ·have:=c x ua;rw[e];lia
   ·exact c y e
  ·next h=>
   have c:=LM a xs b;rcases Da.mp d with e|e
   ·rw[e];exact c b ua
   ·rcases Da.mp e with e|e
    ·have:=c b ua;rw[e];lia
    simp_all
theorem sL{d:Type}{f:d->D}{a:d->Int}{g:Ev->M D}{rest:Ev}{e:Ea}:∀ (xs:List d) (b:d),(∀ x∈xs,g (BD (f x)::rest) e=J (U$ a x) e)->Rw g rest (xs.map f) (f b) (a b) e=J (f$ gu a xs b) e
 |[],b,_=>rfl
 |x::xs,b,h=>by
  have i:=λy j=>h y$ ra _ j;rw[Sa];unfold Rw gu;rw[Yl,JD$ h x ua,Ad];dsimp only;by_cases c:a x<a b
  ·rw[ja c,ja c];exact sL xs x i
  ·rw[pa c,pa c];exact sL xs b i
def lS{f}{key}{rest}{xs}{x:a}(h:∀ y∈x::xs,fe (BD (f y)::rest) σ=J (U$ key y) σ):Tz fe rest [ύ$ (x::xs).map f] σ=J (f$ gu key xs x) σ:=by
 rw[Sa];unfold Tz;dsimp only;rw[Yl,JD$ h x ua,Ad];exact sL xs x λy b=>h y$ ra _ b
@[simp] theorem zkv d b c a e:LG d b c a e=(c a e).bind (Tz b$ d.map λi=>(a[i]?).getD A5):=nr rfl
theorem fF{x:List b}{a:b}(h:x[i]?=BD a):x.take (i+1)=x.take i++[a]:=by
 rw[List.take_add_one,h];rfl
def vF{xs}(P:Nat->Ev->Ea->Prop)(C:xs.length<=1000)(z:S=.seq xs\/∃ n,S=.Ul n/\∀ i ρ σ,P i ρ σ->We σ n=BD xs)
  (w:∀ i d ρ σ,xs[i]?=BD d->P i ρ σ->∃ f c e,tg d ρ=BD f/\body f σ=J (Ϙ c) e/\P (i+1) c e) (v:P 0 ρ σ):∃ a b,eG tg body ρ S σ=J (Ϙ a) b/\P xs.length a b:=by
 rcases z with rfl|⟨n,rfl,B⟩
 ·have s:∀ (r:lv) (i:Nat) (ρ:Ev) (σ:Ea),xs.drop i=r->i<=xs.length->P i ρ σ->∃ a b,vm tg body r ρ σ=J (Ϙ a) b/\P xs.length a b:=λr=>by
   induction r with
   |nil=>
    intro i ρ σ j A g;have:i=xs.length:=by have:=js.mp j;lia
    exact⟨ρ,σ,by simp,this ▸ g⟩
   |cons d r u=>
    intro i ρ σ j A g;have h:xs[i]?=BD d:=by have:=Eb (·[0]?) j;simpa using this
    obtain⟨f,c,e,l,m,o⟩:=w i d ρ σ h g;obtain⟨a,b,p,q⟩:=u (i+1) c e (by have:=Eb List.tail j;simpa using this) (ba.mp h).1 o;exact⟨a,b,by rw[GY l,m,Ad,Yh,p],q⟩
  exact s xs 0 ρ σ rfl ⋯ v
 ·have s:∀ (k i:Nat) (ρ:Ev) (σ:Ea),xs.length<k+i->i<=xs.length->P i ρ σ->∃ a b,Yq tg body n k i ρ σ=J (Ϙ a) b/\P xs.length a b:=λk=>by
   induction k with
   |zero=>intro i ρ σ x y;omega
   |succ k u=>
    intro i ρ σ x y g;have t:=B i ρ σ g;rw[Yq];simp[t];cases h:xs[i]? with
    |none=>
     have:i=xs.length:=by have:=Ub.mp h;omega
     exact⟨ρ,σ,rfl,this ▸ g⟩
    |some d=>
     obtain⟨f,c,e,l,m,o⟩:=w i d ρ σ h g;obtain⟨a,b,p,q⟩:=u (i+1) c e ⋯ (ba.mp h).1 o;refine⟨a,b,?_,q⟩;simp only[l];show (body f σ).bind _=_;rw[m,Ad,Yh,p]
  exact s 1001 0 ρ σ ⋯ ⋯ v
noncomputable def RL(a:List$ List Rd):D:=ύ (a.map λb=>ύ$ b.map Rd.D)
def Sk(v:Vw)(a:List Pv):List$ List Rd:=a.map λp=>p.y.map$ rd v p.S p.q
structure Ej(L:Int)(ps:List Pv):Prop where
 n:ps.length<=3
 q:∀ p∈ps,p.q=0\/p.q=1
 f:∀ p∈ps,0<p.y.length/\p.y.length<=2
 d:∀ p∈ps,∀ s∈p.y,s.ts=[]\/∃ t,s.ts=[t]/\t.w=7
 t:∀ p∈ps,∀ s∈p.y,∀ t∈s.ts,lj p.S t=E8\/L<t.y
def G8 a:cl (RL a)=E8:=zp λd b=>by obtain⟨c,_,rfl⟩:=Ja.mp b;exact n9 c
def ŀ(h:Ej v.L ps) a:mi [Xh v$ ps.map fg] a=J (RL$ Sk v ps) a:=by
 have A:∀ a,bc [9,14,16] "pots" (Xh v _) a=J (ύ$ ps.map fg) a:=λa=>kh (LD rfl) rfl rfl;obtain⟨E,F,k,y,rfl,rfl⟩:=vF (S:=.seq _) (xs:=ps.map fg) (tg:=pd 2) (body:=nN) (ρ:=[BD$ Xh v$ ps.map fg,BD$ O a.length,A5]) (σ:=a++[Ϗ []]) (λi ρ e=>∃ y,ρ=[BD$ Xh v$ ps.map fg,BD$ O a.length,y]/\e=a++[Ϗ ((Sk v$ ps.take i).map λb=>ύ$ b.map Rd.D)]) (by have:=h.n;simp;lia) (ϐ rfl) (λi d ρ e u B=>by
  obtain⟨y,rfl,rfl⟩:=B;rw[Ta]at u;obtain⟨p,w,rfl⟩:=nb.mp u;have g:=za w;obtain⟨q,S,c⟩:=p;have l:∀ e,Di (Uk (io$ Gi$ Fb Kb (ya 2)$ eC$ U 1) [0,2] (pd 0) zl$ Gf 3 xg []$ Qa (ya 2)$ Qa (ya 3)$ Qa (ya 0) zb) [BD$ Xh v$ ps.map fg,BD$ O a.length,BD$ fg ⟨q,S,c⟩] e=J (ύ$ (c.map$ rd v S q).map Rd.D) e:=λe=>by
   rw[Cb];refine Nu (s:=.seq$ c.map Sn.D) (ix:=[0,2]) Sn.D _ (by unfold fg;simp) (λi K=>Eb BD$ Rr c _ i) (by have:=(h.f _ g).2;dsimp only at this;lia) (λs x j=>?_) (λs K=>HJ _);have r:=ř v (ps.map fg) (e++j) S q c (h.q _ g) (h.d _ g s x)$ h.t _ g s x;rw[show (Rd.D ∘ rd v S q) s=(rd v S q s).D from rfl];generalize e++j=Y,s.D=I,fg ⟨q,S,c⟩=z,Xh v (ps.map fg)=V,(rd v S q s).D=R at *;simp[r]
  have o:=yF (σ:=a) (xs:=(Sk v$ ps.take i).map λb=>ύ$ b.map Rd.D) (d:=ύ$ (c.map$ rd v S q).map Rd.D) (by have:=h.n;unfold Sk;simp;lia);have C:∀ m,yu Xj m (O a.length) (a++[Ϗ ((Sk v$ ps.take i).map λb=>ύ$ b.map Rd.D)])=(m$ a++[Ϗ ((Sk v$ ps.take i).map λb=>ύ$ b.map Rd.D)]).bind (Xj$ O a.length):=λm=>CC (xs:=(Sk v$ ps.take i).map λb=>ύ$ b.map Rd.D) (by unfold jf We;simp);rw[show ((Sk v$ ps.take i).map λb=>ύ$ b.map Rd.D)++[ύ$ (c.map$ rd v S q).map Rd.D]=(Sk v$ ps.take$ i+1).map λb=>ύ$ b.map Rd.D by rw[fF w];unfold Sk;simp]at o;refine⟨[BD$ Xh v$ ps.map fg,BD$ O a.length,BD$ fg ⟨q,S,c⟩],[BD$ Xh v$ ps.map fg,BD$ O a.length,BD$ fg ⟨q,S,c⟩],_,rfl,?_,_,rfl,rfl⟩;generalize fg ⟨q,S,c⟩=z,Xh v (ps.map fg)=V,a++[Ϗ ((Sk v$ ps.take i).map λb=>ύ$ b.map Rd.D)]=Y,a++[Ϗ ((Sk v$ ps.take$ i+1).map λb=>ύ$ b.map Rd.D)]=Z,(c.map$ rd v S q).map Rd.D=G at *;simp[C,l,o,-Ip]) ⟨A5,rfl,by simp[Sk]⟩
 rw[Oa,re]at k;have fz:Yf a (J (O a.length)$ a++[Ϗ ((Sk v ps).map λb=>ύ$ b.map Rd.D)])=J (RL$ Sk v ps) a:=Fz$ G8$ Sk v ps;have k:vm (pd 2) nN (ps.map fg) [BD$ Xh v$ ps.map fg,BD$ O a.length,A5] (a++[Ϗ []])=_:=k;unfold mi ER Tc;dsimp only;generalize ps.map fg=P,Xh v (ps.map fg)=V,a++[Ϗ ((Sk v ps).map λb=>ύ$ b.map Rd.D)]=Z,RL (Sk v ps)=H at *;simp[A,k,fz]
abbrev Rx:=Rd × Nat
noncomputable def cD(c:List Rx):D:=ύ (c.map λp=>U p.2)
theorem CI c:cl (cD c)=E8:=zp λd a=>by obtain⟨p,_,rfl⟩:=Ja.mp a;rfl
noncomputable def ext(a:List Rd)(c:List Rx):List$ List Rx:=a.zipIdx.map λp=>c++[p]
def Dn(b:List$ List Rd)(a:List$ List Rx):List$ List Rx:=b.foldl (λa c=>a.flatMap$ ext c) a
def Pk:List (List Rd)->List Rx->Prop
 |[],[]=>True
 |rs::a,p::c=>rs[p.2]?=BD p.1/\Pk a c
 |_,_=>False
theorem Pk.len:∀ {a:List$ List Rd} {c:List Rx},Pk a c->c.length=a.length
 |[],[],_=>rfl
 |_::a,_::c,h=>Eb (·+ 1) (Pk.len h.2)
 |[],_::_,h=>h.elim
 |_::_,[],h=>h.elim
theorem tK:∀ (b:List$ List Rd) {acc:List$ List Rx} {c:List Rx},c∈Dn b acc->∃ a∈acc,∃ r,c=a++r/\Pk b r
 |[],acc,c,h=>⟨c,h,[],by simp,trivial⟩
 |rs::b,acc,c,h=>by
  obtain⟨j,d,r,rfl,g⟩:=tK b h;obtain⟨a,e,i⟩:=List.mem_flatMap.mp d;obtain⟨p,f,rfl⟩:=Ja.mp i;exact⟨a,e,p::r,by simp,List.mem_zipIdx_iff_getElem?.mp f,g⟩
theorem RI(b:List Rd):∀ a:List$ List Rx,(a.flatMap$ ext b).length=a.length * b.length
 |[]=>by simp
 |c::a=>by
  rw[Qv,Nb,RI b a,gb,Nat.succ_mul];unfold ext;simp;lia
theorem ZJ:∀ (a:List$ List Rd) (acc:List$ List Rx),(∀ b∈a,b.length<=2)->(Dn a acc).length<=acc.length * 2 ^ a.length
 |[],acc,_=>by simp[Dn]
 |b::a,acc,h=>by
  have:=ZJ a (acc.flatMap$ ext b) λr c=>h r$ ra _ c;rw[RI]at this;refine lb this ?_;rw[gb,Nat.pow_succ,aq,Nat.mul_comm _ 2,<-aq,<-aq];exact Nat.mul_le_mul_right _$ Nat.mul_le_mul_left _$ h b ua
theorem ZX:∀ (a:List$ List Rd) {acc:List$ List Rx},(∀ b∈a,0<b.length)->acc≠[]->Dn a acc≠[]
 |[],acc,_,h=>h
 |b::a,acc,h,d=>ZX a (λr e=>h r$ ra _ e) λz=>by
  have:=Eb List.length z;rw[RI]at this;have c:=List.length_pos_iff.mpr d;have:=Nat.mul_pos c$ h b ua;simp at *;lia
def HW(h:n<=3):2 ^ n<=8:=by
 have:n=0\/n=1\/n=2\/n=3:=by lia
 rcases this with rfl|rfl|rfl|rfl<;>decide
def IsL(a:Nat)(b:Ea)(d:D)(xs:lv):Prop:=d=ύ xs\/∃ n,d=O n/\a<=n/\We b n=BD xs
def U1{xs}(h:IsL a.length (a++ό) d xs)(b:Af xs=E8):Yf a (J d$ a++ό)=J (ύ xs) a:=by
 rcases h with rfl|⟨n,rfl,g,c⟩
 ·unfold Yf;dsimp only;rw[ja ⋯,Ry (show cl _=E8 by rw[cl];exact b)]
 ·have e:=xI c;unfold Yf;dsimp only;rw[ja ⋯];have:fz a.length (a++ό) 6 (O n)=BD (ύ xs):=by
   unfold fz;rw[pa ⋯];dsimp only;rw[pa ⋯,e];dsimp only;rw[EH (λd f=>Ry f) b];rfl
  rw[this]
def w4 a c:(ext a c).map cD=(List.range a.length).map λ(i:Nat)=>ύ$ c.map (λp=>U p.2)++[U i]:=by
 have e:a.zipIdx.map (·.2)=List.range a.length:=by rw[List.zipIdx_map_snd,List.range_eq_range']
 rw[<-e];unfold ext cD;simp only[Cb]
 simp_all
def ĭ(s:a.length<=2)(r:c.length<=3)(t:ys.length<=100) R C d:KH [R,C,BD$ ύ$ a.map Rd.D,BD$ O d.length,BD$ cD c] (d++[Ϗ ys])=J (Ϙ [R,C,BD$ ύ$ a.map Rd.D,BD$ O d.length,BD$ cD c]) (d++[Ϗ$ ys++(ext a c).map cD]):=by
 have g:∀ (i:Nat) b,jh (cD c) (ύ [U i]) b=J _ b:=λi b=>by unfold cD;rw[KI (by unfold Og;simp;lia)]
 have h:∀ b,Gq [ύ$ a.map Rd.D] b=J (U a.length) b:=λb=>by simp
 have l:∀ b,Di (Uk (io$ Jo$ So Gq$ Qa (ya 2) zb) [4] (pd 0) zl$ Fb jh (ya 2)$ Oi$ Qa (ya 0) zb) [R,C,BD$ ύ$ a.map Rd.D,BD$ O d.length,BD$ cD c] b=J (ύ$ (ext a c).map cD) b:=λb=>by
  have n:zt (U a.length) b=J (.seq$ (List.range a.length).map λ(i:Nat)=>U i) b:=by
   rw[Qy ⋯ ⋯];rfl
  have o:Jo (So Gq$ Qa (ya 2) zb) [R,C,BD$ ύ$ a.map Rd.D,BD$ O d.length,BD$ cD c] b=J (.seq$ (List.range a.length).map λ(i:Nat)=>U i) b:=by
   generalize a.map Rd.D=f at *;simp[h,n]
  rw[w4];exact Nu (ix:=[4]) (xs:=List.range a.length) (fe:=Fb jh (ya 2)$ Oi$ Qa (ya 0) zb) (λ(i:Nat)=>U i) (λ(i:Nat)=>ύ$ c.map (λp=>U p.2)++[U i]) o (λi u=>Eb BD$ Rr (List.range a.length) _ i) (by simp;lia) (λi u j=>by
   have:=g i$ b++j;generalize cD c=e at *;simp[this]) (λi u=>by rw[cl,jM,show Af (c.map λp=>U p.2)=E8 from CI c];rfl)
 have ex:=vZ (σ:=d) (ys:=ys) (zs:=(ext a c).map cD) (by unfold ext;simp;lia);have k:∀ m,yu ww m (O d.length) (d++[Ϗ ys])=(m$ d++[Ϗ ys]).bind (ww$ O d.length):=λm=>CC (xs:=ys) (by unfold jf We;simp);unfold KH;generalize a.map Rd.D=f,(ext a c).map cD=q,cD c=e at *;simp[k,l,ex,-Ip]
def yxn{xs}(h:IsL f a d xs)(b:∀ a,ya i ρ a=J d a) ό:∃ S,Gi (ya i) ρ (a++ό)=J S (a++ό)/\(S=.seq xs\/∃ n,S=.Ul n/\∀ ό,We (a++ό) n=BD xs):=by
 rcases h with rfl|⟨n,rfl,_,c⟩
 ·exact⟨.seq xs,by rw[bG,b];simp,ϐ rfl⟩
 ·have g:∀ ό,We (a++ό) n=BD xs:=λό=>by
   have e:=xI c;unfold We;rw[ib (ba.mp e).1,e]
  refine⟨.Ul n,?_,ϓ ⟨n,rfl,g⟩⟩;rw[bG,b,Ad];show (match We _ n with|some _=>_|none=>_)=_;rw[g]
def Ű(m:b.length<=2){acc:List$ List Rx}(u:acc.length<=8)(v:∀ c∈acc,c.length<=3)(q:σ0<=a.length)(w:IsL σ0 a d$ acc.map cD) R x g:∃ k,JF [R,BD d,BD$ ύ$ b.map Rd.D,x,g] a=J (Ϙ [R,BD$ O a.length,BD$ ύ$ b.map Rd.D,BD$ O a.length,k]) (a++[Ϗ$ (acc.flatMap$ ext b).map cD])/\IsL σ0 (a++[Ϗ$ (acc.flatMap$ ext b).map cD]) (O a.length) ((acc.flatMap$ ext b).map cD):=by
 obtain⟨S,p,t⟩:=yxn w (ρ:=[R,BD d,BD$ ύ$ b.map Rd.D,BD$ O a.length,g]) (i:=1) (λC=>rfl) [Ϗ []];obtain⟨z,A,o,k,rfl,rfl⟩:=vF (S:=S) (xs:=acc.map cD) (tg:=pd 4) (body:=KH) (ρ:=[R,BD d,BD _,BD _,g]) (σ:=a++[Ϗ []]) (λi ρ l=>∃ y,ρ=[R,BD d,BD$ ύ$ b.map Rd.D,BD$ O a.length,y]/\l=a++[Ϗ$ ((acc.take i).flatMap$ ext b).map cD]) (by simp;lia) (by
   rcases t with h|⟨n,r,s⟩
   ·exact ϐ h
   ·exact ϓ ⟨n,r,λi ρ l j=>by obtain⟨_,_,rfl⟩:=j;exact s _⟩) (λi B ρ l f j=>by
  obtain⟨y,rfl,rfl⟩:=j;rw[Ta]at f;obtain⟨c,e,rfl⟩:=nb.mp f;have st:=ĭ m (v c$ za e) (ys:=((acc.take i).flatMap$ ext b).map cD) (by rw[Oa,RI,qe];exact lb (Nat.mul_le_mul (lb (my ..) u) m) ⋯) R (BD d) a;rw[show ((acc.take i).flatMap$ ext b).map cD++(ext b c).map cD=((acc.take$ i+1).flatMap$ ext b).map cD by rw[fF e];simp]at st;exact⟨_,_,_,rfl,st,_,rfl,rfl⟩) ⟨g,rfl,by simp⟩
 rw[Oa,re]at o;refine⟨k,?_,ϓ ⟨a.length,rfl,q,sE _⟩⟩;unfold JF;simp[p,o,-bG]
def K8(G:b.length<=3)(t:∀ f∈b,f.length<=2) g:Zf [RL b] g=J (ύ$ (Dn b [[]]).map cD) g:=by
 obtain⟨B,C,p,d,q,m,n,ό,rfl,rfl,l⟩:=vF (S:=.seq$ b.map λf=>ύ _) (xs:=b.map λf=>ύ$ f.map Rd.D) (tg:=pd 2) (body:=JF) (ρ:=[BD$ RL b,BD _,A5,A5,A5]) (σ:=g) (λi ρ s=>∃ d q m n ό,ρ=[BD$ RL b,BD d,q,m,n]/\s=g++ό/\IsL g.length s d ((Dn (b.take i) [[]]).map cD)) (by simp;lia) (ϐ rfl) (λi E ρ s j u=>by
  obtain⟨d,q,m,n,ό,rfl,rfl,l⟩:=u;rw[Ta]at j;obtain⟨f,h,rfl⟩:=nb.mp j;have F:=(ba.mp h).1;have A:∀ r∈b.take i,r.length<=2:=λr y=>t r$ Bs y;obtain⟨H,st,k⟩:=Ű (t f$ za h) (acc:=Dn (b.take i) [[]]) (lb (ZJ _ _ A)$ by rw[gb,Dd,vG,UJ];exact HW (by rw[qe];lia)) (λc o=>by
   obtain⟨a,v,r,rfl,w⟩:=tK _ o;have:a=[]:=by simpa using v
   subst this;rw[Eg,w.len,qe];lia) (σ0:=g.length) ⋯ l (BD$ RL b) m n
  have e:(Dn (b.take i) [[]]).flatMap (ext f)=Dn (b.take$ i+1) [[]]:=by rw[fF h];unfold Dn;rw[List.foldl_append];rfl
  rw[e]at st k;exact⟨_,_,_,rfl,st,_,_,_,_,ό++[Ϗ$ (Dn (b.take$ i+1) [[]]).map cD],rfl,by rw[Hk],k⟩) ⟨ύ [ύ []],A5,A5,A5,[],rfl,by simp,ϐ rfl⟩
 rw[Oa,re]at l;have fz:=U1 l (zp λx z=>by obtain⟨c,_,rfl⟩:=Ja.mp z;exact CI c);have p:vm (pd 2) JF (b.map λf=>ύ$ f.map Rd.D) [BD$ RL b,BD$ ύ [ύ []],A5,A5,A5] g=_:=p;unfold Zf wR Tc;unfold RL at *;simp[p,fz]
theorem qW:∀ {a:List$ List Rd} {c:List Rx},Pk a c->∀ x∈a.zip c,x.1[x.2.2]?=BD x.2.1
 |[],[],_,x,h=>by cases h
 |rs::a,p::c,h,x,b=>by
  rcases Da.mp b with rfl|b
  ·exact h.1
  ·exact qW h.2 x b
 |[],_::_,h,_,_=>h.elim
 |_::_,[],h,_,_=>h.elim
theorem qT:∀ {a:List$ List Rd} {c:List Rx},Pk a c->(a.zip c).map (λx=>x.2.1.D)=c.map λp=>p.1.D
 |[],[],_=>rfl
 |rs::a,p::c,h=>by rw[List.zip_cons_cons,Sa,Sa,qT h.2]
 |[],_::_,h=>h.elim
 |_::_,[],h=>h.elim
def o7(w:e.length<=3)(m:Pk e c) f:He [RL e,cD c] f=J (ύ$ c.map λp=>p.1.D) f:=by
 have v:=m.len;have y:(e.zip c).length=e.length:=by rw[wy];lia
 have n:Af (c.map λp=>p.1.D)=E8:=zp λd r=>by obtain⟨p,_,rfl⟩:=Ja.mp r;exact HJ _
 have l:=U9 (xs:=e.zip c) (ix:=[]) (fe:=Fb Kb (ya 0)$ ya 1) (ρ:=[BD$ RL e,BD$ cD c]) (λx=>ύ$ x.1.map Rd.D) (λx=>U x.2.2) (λx=>x.2.1.D) (G6 (i:=0) (j:=1) (σ:=f) (xs:=e.map λq=>ύ _) (ys:=c.map λp=>U p.2) rfl rfl) (λi j h=>by
  show AE _ (ύ$ c.map λp=>U p.2) i (f++j)=_;have a:jf (f++j) (ύ$ e.map λq=>ύ$ q.map Rd.D)=BD _:=rfl;have b:jf (f++j) (ύ$ c.map λp=>U p.2)=BD (c.map λp=>U p.2):=rfl;unfold AE;simp only[a,b,Ta];by_cases s:i<e.length
  ·have g:e[i]?=BD e[i]:=ba.mpr ⟨s,rfl⟩;have o:c[i]?=BD (c[i]'⋯):=ba.mpr ⟨by lia,rfl⟩;have k:(e.zip c)[i]?=BD (e[i],c[i]'⋯):=List.getElem?_zip_eq_some.mpr ⟨g,o⟩;rw[g,o,k];rfl
  ·have g:e[i]?=A5:=Ub.mpr ⋯;have k:(e.zip c)[i]?=A5:=Ub.mpr ⋯;rw[g,k];simp
   lia) ⋯ (λx t j=>by
  have u:∀ f,Kb (ύ$ x.1.map Rd.D) (U x.2.2) f=J (x.2.1.D) f:=λf=>WC$ Lr (by rw[Ta,qW m x t];rfl);have:=u$ f++j;simp[this]) (λx d=>HJ _)
 rw[qT m]at l;unfold He Tc;simp[l,n,-Ip]
def χ A a:Sr A A.length a=BD A5:=by unfold Sr;simp
def UK(h:f b a=J (Ϭ (A.map (·.1)) (A.map (·.2))) a):Wu f b a=J (Sr A) a:=by
 have z:∀ A:Kv,(A.map (·.1)).zip (A.map (·.2))=A:=λA=>by
  induction A with
  |nil=>rfl
  |cons x r c=>simp_all
 show Kc _ dJ a=_;rw[Yl,h,Ad];unfold dJ
 simp_all
theorem jT{nx:NX}{tg:D->Ev->Option Ev}{body:Ev->M Fl}{N:Nat}(P:Nat->Ev->Ea->Prop)(m:∀ i b a,i<N->P i b a->∃ d h e g,nx i a=BD (BD d)/\tg d b=BD h/\body h a=J (Ϙ e) g/\P (i+1) e g)(l:∀ a,nx N a=BD A5):∀ (k i:Nat) (b:Ev) (a:Ea),N<k+i->i<=N->P i b a->∃ c f,mo nx tg body k i b a=J (Ϙ c) f/\P N c f
 |0,i,b,a,t,u,_=>by lia
 |k+1,i,b,a,t,u,j=>by
  by_cases v:i=N
  ·subst v;exact⟨b,a,OA$ l a,j⟩
  ·obtain⟨d,h,e,g,n,o,p,q⟩:=m i b a ⋯ j;obtain⟨c,f,r,s⟩:=jT P m l k _ e g ⋯ ⋯ q;refine⟨c,f,?_,s⟩;rw[Gs n o,p,Ad,Yh,r]
theorem AN(h:f c b=J (Ϭ [] []) b):Am (Wu f) d a c b=J (Ϙ c) b:=by
 rw[Tt,UK (A:=[]) h,dm];rfl
theorem pH(h:f g d=J (Ϭ [k] [v]) d)(l:i (ϑ [Ut k,v]) g=BD b)(j:a b d=J (Ϙ c) e):Am (Wu f) i a g d=J (Ϙ c) e:=by
 rw[Tt,UK (A:=[(k,v)]) h,dm];show mo _ i a _ 0 g d=_;rw[Gs rfl l,j,Ad,Yh];exact OA rfl
abbrev Gr:=List$ Int × List Lo
noncomputable def gD(g:Gr):D:=Ϭ (g.map λp=>.inl p.1) (g.map λp=>ύ$ p.2.map Lo.D)
def r6(b:List Lo):Af (b.map Lo.D)=E8:=zp λd a=>by obtain⟨t,_,rfl⟩:=Ja.mp a;exact bX t
noncomputable def g7:List Lo->Gr
 |[]=>[]
 |l::a=>[(7,l::a)]
noncomputable def k7(n:Nat):List Lo->Kv
 |[]=>[]
 |_::_=>[(.inl 7,O n)]
def pM{xs}(h:a[n]?=BD (Ϗ xs))(b:xs.length<1000):Xj (O n) [d] a=J Ϝ (a.set n$ Ϗ$ xs++[d]):=by
 unfold Xj We;simp only[h];rw[ja (show _<Og from b)]
def LW(b:Ea)(a:List Lo)(c:Ea):Prop:=∃ j n,c=b++ώ (k7 (b.length+1+n) a)::j/\(a=[]\/j[n]?=BD (Ϗ$ a.map Lo.D))
def kX(n:Nat):(σ++x::j)[σ.length+1+n]?=j[n]?:=by
 rw[Wd ⋯,show σ.length+1+n - σ.length=n+1 by lia,List.getElem?_cons_succ]
def ī(h:LW b c q)(A:c.length<=100) l R rd:∃ k,bQ [R,BD$ O b.length,rd,BD$ U 7,BD l.D] q=J (Ϙ [R,BD$ O b.length,rd,BD$ U 7,BD l.D]) k/\LW b (c++[l]) k:=by
 obtain⟨j,n,rfl,y⟩:=h;have t:∀ e,Yw YA e (O b.length) (b++ώ (k7 (b.length+1+n) c)::j)=(e$ b++ώ (k7 (b.length+1+n) c)::j).bind (YA$ O b.length):=λe=>by
  have:ig (b++ώ (k7 (b.length+1+n) c)::j) (O b.length)=BD (k7 (b.length+1+n) c):=by unfold ig;simp
  unfold Yw;rw[this];rfl
 have v:(b++ώ (k7 (b.length+1+n) c)::j).length=b.length+1+j.length:=by simp;omega
 have s:∀ (g:Kv) (j:Ea),(b++ώ g::j)[b.length]?=BD (ώ g):=λg j=>by simp
 have i:∀ (g f:Kv) (j:Ea),(b++ώ g::j).set b.length (ώ f)=b++ώ f::j:=λg f j=>by
  rw[Ai _ _$ va _,Nat.sub_self];rfl
 obtain⟨m,p,z⟩:∃ m,(j++[Ϗ []])[m]?=BD (Ϗ$ c.map Lo.D)/\YA (O b.length) [U 7,O$ b.length+1+j.length] (b++ώ (k7 (b.length+1+n) c)::(j++[Ϗ []]))=J (O$ b.length+1+m) (b++ώ [(.inl 7,O (b.length+1+m))]::(j++[Ϗ []])):=by
  unfold YA;simp only[tj,s];cases c with
  |nil=>
   refine⟨j.length,by simp,?_⟩;simp[k7,Cj,Zi,Og,i]
  |cons x r=>
   have h:=y.resolve_left ⋯;refine⟨n,by rw[ib (ba.mp h).1];exact h,?_⟩;simp[k7,Cj,Og]
 have a:=(kX (σ:=b) (x:=ώ [(.inl 7,O (b.length+1+m))]) m).trans p;have u:∀ e,yu Xj e (O$ b.length+1+m) (b++ώ [(.inl 7,O (b.length+1+m))]::(j++[Ϗ []]))=(e _).bind (Xj$ O$ b.length+1+m):=λe=>CC (xs:=c.map Lo.D) (by unfold jf We;simp[a]);have o:=pM (d:=l.D) a (by simp;omega);rw[Ai _ _ ⋯,show b.length+1+m - b.length=m+1 by omega,Za]at o;have w:(b++ώ (k7 (b.length+1+n) c)::j)++[Ϗ []]=b++ώ (k7 (b.length+1+n) c)::(j++[Ϗ []]):=by simp
 refine⟨b++ώ [(.inl 7,O (b.length+1+m))]::(j++[Ϗ []]).set m (Ϗ$ c.map Lo.D++[l.D]),?_,(j++[Ϗ []]).set m$ Ϗ$ c.map Lo.D++[l.D],m,by cases c<;>rfl,ϓ ?_⟩
 ·simp[t,z,u,o,v,w]
 ·rw[Pc (ba.mp p).1];simp
def zti(c:a=[]\/j[n]?=BD (Ϗ$ a.map Lo.D)):Yf σ (J (O σ.length)$ σ++ώ (k7 (σ.length+1+n) a)::j)=J (gD$ g7 a) σ:=by
 unfold Yf;dsimp only;rw[ja ⋯];have:fz σ.length (σ++ώ (k7 (σ.length+1+n) a)::j) 6 (O σ.length)=BD (gD$ g7 a):=by
  cases a with
  |nil=>exact TF rfl
  |cons l r=>
   have f:fz σ.length (σ++ώ [(.inl 7,O (σ.length+1+n))]::j) 5 (O$ σ.length+1+n)=BD (ύ$ (l::r).map Lo.D):=by
    unfold fz;rw[pa ⋯];dsimp only;rw[pa ⋯,kX,c.resolve_left ⋯];dsimp only;rw[EH (λd b=>Ry b)$ r6 _];rfl
   have e:(σ++ώ [(.inl 7,O (σ.length+1+n))]::j)[σ.length]?=BD (ώ [(.inl 7,O (σ.length+1+n))]):=by simp
   show fz σ.length (σ++ώ [(.inl 7,O _)]::j) 6 _=_;unfold fz;dsimp only;rw[pa$ Qd _,e];dsimp only;rw[show List.map (λx:wc × D=>x.2) [(.inl 7,O _)]=[O _]from rfl,Xl,f];rfl
 rw[this]
def One(x:List Lo):Prop:=x=[]\/∃ l,x=[l]/\l.w=7
def Oq(a:List Rd):Gr:=g7$ a.flatMap Rd.x
theorem oM:∀ {a:List Rd},(∀ r∈a,One r.x)->(a.flatMap Rd.x).length<=a.length
 |[],_=>by simp
 |r::a,h=>by
  have c:r.x.length<=1:=by rcases h r ua with e|⟨l,e,_⟩<;>rw[e]<;>simp
  have d:=oM λx b=>h x$ ra _ b;rw[Qv,Nb,gb];lia
def ß(G:rs.length<=3)(A:∀ r∈rs,One r.x) a:Gg [ύ$ rs.map Rd.D] a=J (gD$ Oq rs) a:=by
 obtain⟨E,F,f,o,p,q,rfl,j,n,rfl,z⟩:=vF (xs:=rs.map Rd.D) (tg:=pd 2) (body:=WM) (ρ:=[BD _,BD _,A5,A5,A5]) (σ:=a++[ώ []]) (λi ρ s=>∃ o p q,ρ=[BD _,BD _,o,p,q]/\LW a ((rs.take i).flatMap Rd.x) s) (by simp;lia) (ϐ rfl) (λi d ρ s u C=>by
  obtain⟨o,p,q,rfl,y⟩:=C;rw[Ta]at u;obtain⟨r,b,rfl⟩:=nb.mp u;have g:∀ a,Kb r.D (U 1) a=J (Ϭ ((Wr r.x).map (·.1)) ((Wr r.x).map (·.2))) a:=λa=>by unfold Rd.D;simp
  have c:(rs.take$ i+1).flatMap Rd.x=(rs.take i).flatMap Rd.x++r.x:=by rw[fF b];simp
  rcases A r (za b)with e|⟨l,e,w⟩<;>rw[e]at g c
  ·rw[ee]at c;exact⟨_,_,s,rfl,AN (by simp[g,Wr]),_,_,_,rfl,c ▸ y⟩
  ·obtain⟨t,B,m⟩:=ī y (lb (oM λr h=>A r$ Bs h)$ by rw[qe];lia) l (BD$ ύ$ rs.map Rd.D) (BD r.D);exact⟨_,_,t,rfl,pH (k:=.inl 7) (v:=l.D) (by simp[g,Wr,w]) rfl B,_,_,_,rfl,c ▸ m⟩) ⟨A5,A5,A5,rfl,[],0,rfl,ϐ rfl⟩
 rw[Oa,re]at z f;have fz:=zti (σ:=a) z;have f:vm (pd 2) WM (rs.map Rd.D) [BD$ ύ$ rs.map Rd.D,BD$ O a.length,A5,A5,A5] (a++[ώ []])=_:=f;unfold Gg BQ Tc;rw[show g7 _=Oq rs from rfl]at fz;simp[f,fz,-Tt]
noncomputable def Dr(l:Lo):Bool:=l.k == "open"
noncomputable def oD:Option Int->D
 |none=>Ϝ
 |some i=>U i
theorem VN F:cl (oD F)=E8:=by cases F<;>rfl
def Iq(a:List Lo):List$ Option Int:=(a.filter Dr).map λl=>BD l.d
def cm(F:Option Int)(e:Int)(l:Lo):Bool:=if Dr l then (match F with
 |none=>E8
 |some f=>decide (f > l.d))else (l.k == "hangs") && (match F with
 |none=>J8
 |some f=>decide (f - 1+e<l.d))
def Rk(a:List Lo)(F:Option Int)(e:Int):Int:=((a.filter$ cm F e).map Lo.v).sum
def mf(a:List Lo)(e:Int):Option Int:=gu (λx=>Rk a x e) (Iq a) A5
section
variable(l:Lo)(σ:Ea)
def l0:Kb l.D (U 0) σ=J (ϙ l.k) σ:=by unfold Lo.D;simp
def l1:Kb l.D (U 1) σ=J (U l.v) σ:=by unfold Lo.D;simp
def l2:Kb l.D (U 2) σ=J (U l.d) σ:=by unfold Lo.D;simp
end
section
variable{ls:List Lo}(hl:ls.length<=100)(e:Int)(σ:Ea)
def zkg l F:lg [l.D,oD F,U e] σ=J (ϒ$ cm F e l) σ:=by
 have b:=l0 l;have c:=l2 l;have o:(l.k == ("open"))=Dr l:=rfl;unfold lg cm Tc;dsimp only;generalize Dr l=B,l.D=L at *;generalize a:(l.k == ("hangs"))=H at *;cases F with
 |none=>cases B<;>cases H<;>simp[b,o,a,oD]
 |some f=>
  cases B<;>cases H<;>simp[b,c,o,a,oD]
include hl
theorem zlc:bj [ύ$ ls.map Lo.D] σ=J (ύ$ (A5::Iq ls).map oD) σ:=by
 have l:=wH (src:=Gi$ ya 0) (ρ:=[BD$ ύ$ ls.map Lo.D]) (σ:=σ) (s:=.seq _) (ix:=[]) (fi:=eT$ Fb wl (Fb Kb (ya 0)$ eC$ U 0)$ eC$ ϙ "open") (fe:=Fb Kb (ya 0)$ eC$ U 2) Lo.D (λl=>U l.d) Dr ⋯ (λi f=>Eb BD$ Rr ls _ i) ⋯ (λl f j=>by
  have o:(l.k == ("open"))=Dr l:=rfl;exact⟨by simp[(l0 l _),o],λf=>by simp[(l2 l _)]⟩) (λf f f=>rfl)
 rw[show (ls.filter Dr).map _=(Iq ls).map oD by unfold Iq;rw[Cb];rfl]at l;have e:(Iq ls).length<=100:=by unfold Iq;rw[Oa];exact lb (Bi ..) hl
 have b:∀ σ,jh (ύ [Ϝ]) (ύ$ (Iq ls).map oD) σ=J (ύ$ (A5::Iq ls).map oD) σ:=λσ=>by rw[KI (by unfold Og;simp;lia)];rfl
 have c:Af ((A5::Iq ls).map oD)=E8:=zp λd a=>by obtain⟨t,_,rfl⟩:=Ja.mp a;exact VN t
 unfold bj Tc;dsimp only
 simp_all
theorem LR F:Be [ύ$ ls.map Lo.D,oD F,U e] σ=J (U$ Rk ls F e) σ:=by
 have l:=wH (src:=Gi$ ya 0) (ρ:=[BD$ ύ$ ls.map Lo.D,BD$ oD F,BD$ U e]) (σ:=σ) (s:=.seq _) (ix:=[1,2]) (fi:=eT$ Gf 3 lg []$ Qa (ya 0)$ Qa (ya 2)$ Qa (ya 3) zb) (fe:=Fb Kb (ya 0)$ eC$ U 1) Lo.D (λl=>U l.v) (cm F e) ⋯ (λi a=>Eb BD$ Rr ls _ i) ⋯ (λl a j=>by
  exact⟨by simp[(zkg e _ l F)],λa=>by simp[(l1 l _)]⟩) (λa a a=>rfl)
 rw[show (ls.filter _).map _=((ls.filter _).map Lo.v).map U by rw[Cb];rfl]at l;have s:=KO ((ls.filter$ cm F e).map Lo.v) σ;unfold Be Rk Tc;dsimp only
 simp_all
theorem O2:Se [ύ$ ls.map Lo.D,U e] σ=J (oD$ mf ls e) σ:=by
 have a:=zlc hl;have m:=lS (f:=oD) (key:=λx=>Rk ls x e) (x:=A5) (xs:=Iq ls) (fe:=Gf 3 Be []$ Qa (ya 1)$ Qa (ya 0)$ Qa (ya 2) zb) (rest:=[BD$ ύ$ ls.map Lo.D,BD$ U e]) (σ:=σ) (λx c=>by
  simp[(λσ=>LR hl e σ x)])
 rw[show gu _ _ A5=mf ls e from rfl]at m;have b:=VN$ mf ls e;unfold Se sX
 simp_all
end
def ô a e(h:x∈A5::Iq a):Rk a (mf a e) e<=Rk a x e:=LM (λx=>Rk a x e) _ A5 x h
def r0(r:Rd) a:Kb r.D (U 0) a=J (U r.f) a:=by unfold Rd.D;simp
def FK(e:Int)(g:Gr):Kv:=g.map λp=>(.inl p.1,oD (mf p.2 e))
def iW e g:Af ((FK e g).map (·.2))=E8:=zp λd a=>by
 unfold FK at a;rw[Cb]at a;obtain⟨p,_,rfl⟩:=Ja.mp a;exact VN _
def WO(g:Gr):Prop:=g=[]\/∃ a,g=[(7,a)]/\a.length<=100
def gs(e:Int)(g:Gr):Int:=(g.map λp=>Rk p.2 (mf p.2 e) e).sum
def val(e:Int)(a:List Rd):Int:=(a.map Rd.f).sum+gs e (Oq a)
def ŋ{c:List Rd}(K:c.length<=3)(G:WO g) e d F(C:∀ p∈g,Hi F (U p.1) d=J (oD$ mf p.2 e) d):Ol [ύ$ c.map Rd.D,gD g,F,U e] d=J (U$ (c.map Rd.f).sum+gs e g) d:=by
 have l:=Nu (src:=Gi$ ya 0) (ρ:=[BD$ ύ$ c.map Rd.D,BD$ gD g,BD F,BD$ U e,A5,A5,A5]) (σ:=d) (s:=.seq _) (ix:=[]) (fe:=Fb Kb (ya 0)$ eC$ U 0) Rd.D (λr=>U r.f) ⋯ (λi L=>Eb BD$ Rr c _ i) ⋯ (λr L j=>by
  have:=r0 r$ d++j;simp[this]) (λL L=>rfl)
 rw[show c.map (λr=>U r.f)=(c.map Rd.f).map U by rw[Cb];rfl]at l;have s1:=KO (c.map Rd.f) d;have I:∀ f o q t u m n (x:D) (d:Ea),qz (λa b=>a+b) 4 f [o,q,t,u,BD x,m,n] d=Hm [o,q,t,u,BD x,m,n] (dG _ 4 [o,q,t,u,BD x,m,n] x) _:=λL L L L L L L L L=>IX rfl;obtain⟨m,n,H⟩:∃ m n,Am (Wu$ ya 1) (Il 2$ Qg (pd 5)$ Qg (pd 6) Vl) eU [BD _,BD$ gD g,BD F,BD _,BD$ U (c.map Rd.f).sum,A5,A5] d=J (Ϙ [BD$ ύ$ c.map Rd.D,BD$ gD g,BD F,BD$ U e,BD$ U$ (c.map Rd.f).sum+gs e g,m,n]) d:=by
  rcases G with rfl|⟨h,rfl,A⟩
  ·exact⟨A5,A5,by rw[show (c.map Rd.f).sum+gs e []=(c.map Rd.f).sum from lr _];exact AN rfl⟩
  ·have sb:=LR A e d$ mf h e;have E:Hi F (U 7) d=J (oD$ mf h e) d:=C (7,h) ua;refine⟨BD$ U 7,BD$ ύ$ h.map Lo.D,pH (k:=.inl 7) (v:=ύ$ h.map Lo.D) rfl rfl ?_⟩;rw[show gs e [(7,h)]=Rk h (mf h e) e from lr _];generalize c.map Rd.D=z,gD [(7,h)]=y,h.map Lo.D=ό,(c.map Rd.f).sum=N,Rk h (mf h e) e=B,oD (mf h e)=w at *;simp[Ut,I,sb,E]
 unfold Ol OY Tc;dsimp only;generalize c.map Rd.D=z,gD g=y,(c.map Rd.f).map U=w at *;simp[l,s1,H,-Ip,-Tt]
def Dq(e:Int)(c:List Rx):D:=ϑ [U (val e (c.map (·.1))),cD c,Ϭ ((FK e (Oq (c.map (·.1)))).map (·.1)) ((FK e (Oq (c.map (·.1)))).map (·.2))]
def nQ e c:cl (Dq e c)=E8:=by
 have:=CI c;unfold Dq;simp[cl,iW,this]
def J1 e(i:c.length<=3)(ό:∀ p∈c,One p.1.x)(q:WO (Oq (c.map (·.1)))) a:Vf [ύ (c.map λp=>p.1.D),cD c,U e] a=J (Dq e c) a:=by
 have F:(c.map λp=>p.1.D)=(c.map (·.1)).map Rd.D:=by rw[Cb];rfl
 have l:=ß (rs:=c.map (·.1)) (by simpa using i) (λr I=>by obtain⟨p,o,rfl⟩:=Ja.mp I;exact ό p o);rw[F];unfold Dq val;generalize s:c.map (·.1)=b at *;have i:b.length<=3:=by rw[<-s];simpa using i
 generalize H:Oq b=g at *;obtain⟨y,z,L⟩:∃ y z,Am (Wu$ ya 3) (Il 2$ Qg (pd 5)$ Qg (pd 6) Vl) kZ [BD$ ύ$ b.map Rd.D,BD$ cD c,BD$ U e,BD$ gD g,BD$ O a.length,A5,A5] (a++[ώ []])=J (Ϙ [BD$ ύ$ b.map Rd.D,BD$ cD c,BD$ U e,BD$ gD g,BD$ O a.length,y,z]) (a++[ώ$ FK e g]):=by
  rcases q with rfl|⟨h,rfl,t⟩
  ·exact⟨A5,A5,AN rfl⟩
  ·have K:=O2 t e;have u:=λA=>jq (ρ:=A) (σ:=a++[ώ []]) (d:=oD$ mf h e) (n:=a.length) (w:=7) (kvs:=[]) ⋯ ⋯;rw[az,show Zi [] (.inl 7) (oD$ mf h e)=FK e [(7,h)]from rfl]at u;refine⟨BD$ U 7,BD$ ύ$ h.map Lo.D,pH (k:=.inl 7) (v:=ύ$ h.map Lo.D) rfl rfl ?_⟩;generalize b.map Rd.D=E,gD [(7,h)]=C,h.map Lo.D=Q,cD c=B,oD (mf h e)=ϋ,FK e [(7,h)]=P at *;simp[Ut,K,u]
 have gt:∀ p∈g,Hi (O a.length) (U p.1) (a++[ώ$ FK e g])=J (oD$ mf p.2 e) (a++[ώ$ FK e g]):=λp o=>by
  rcases q with rfl|⟨h,rfl,t⟩
  ·cases o
  ·obtain rfl:=Wa.mp o;unfold Hi ig;simp[tj,FK,Cj]
 have M:=ŋ i q e (a++[ώ$ FK e g]) (O a.length) gt;have fz:Yf a (J (ϑ [U$ (b.map Rd.f).sum+gs e g,cD c,O a.length])$ a++[ώ$ FK e g])=J (ϑ [U$ (b.map Rd.f).sum+gs e g,cD c,Ϭ ((FK e g).map (·.1)) ((FK e g).map (·.2))]) a:=by
  unfold Yf;dsimp only;rw[ja ⋯];have G:=Ry (k:=a.length) (σ:=a++[ώ$ FK e g]) (m:=5)$ CI c;have:fz a.length (a++[ώ$ FK e g]) 6 (ϑ [U$ (b.map Rd.f).sum+gs e g,cD c,O a.length])=BD (ϑ [U$ (b.map Rd.f).sum+gs e g,cD c,Ϭ ((FK e g).map (·.1)) ((FK e g).map (·.2))]):=by
   unfold fz;rw[pa ⋯];dsimp only;unfold Xl;unfold Xl;unfold Xl;rw[(TF (σ:=a) (kvs:=FK e g) (j:=[]) (m:=4)$ iW ..),G];rfl
  rw[this]
 unfold Vf jY Tc;dsimp only;generalize b.map Rd.D=E,gD g=C,cD c=B,(b.map Rd.f).sum+gs e g=N at *;simp[l,L,M,fz,-Tt]
def Ř(c:a.length<=3)(b:∀ r∈a,One r.x):WO$ Oq a:=by
 have h:=oM b;unfold Oq;cases e:a.flatMap Rd.x with
 |nil=>exact ϐ rfl
 |cons l r=>exact ϓ ⟨l::r,rfl,by rw[<-e];lia⟩
theorem kT:∀ {a:List$ List Rd} {c:List Rx},Pk a c->∀ p∈c,∃ d∈a,p.1∈d
 |[],[],_,p,h=>by cases h
 |d::a,x::c,h,p,b=>by
  rcases Da.mp b with rfl|b
  ·exact⟨d,ua,za h.1⟩
  ·obtain⟨r,e,f⟩:=kT h.2 p b;exact⟨r,ra _ e,f⟩
 |[],_::_,h,_,_=>h.elim
 |_::_,[],h,_,_=>h.elim
structure mQ(RR:List (List Rd)):Prop where
 n:RR.length<=3
 f:∀ rs∈RR,0<rs.length/\rs.length<=2
 x:∀ rs∈RR,∀ r∈rs,One r.x
def l8(h:Ej v.L ps):mQ$ Sk v ps:=by
 refine⟨by unfold Sk;rw[Oa];exact h.n,λi b=>?_,λi b r c=>?_⟩
 ·obtain⟨p,a,rfl⟩:=Ja.mp b;rw[Oa];exact h.f p a
 ·obtain⟨p,a,rfl⟩:=Ja.mp b;obtain⟨s,g,rfl⟩:=Ja.mp c;unfold rd;rcases h.d p a s g with e|⟨t,e,w⟩<;>rw[e]
  ·exact ϐ rfl
  ·exact ϓ ⟨_,rfl,w⟩
def vc(e:Int)(c:List Rx):Int:=val e (c.map (·.1))
def gA(e:Int)(a:List$ List Rd):List Rx:=match Dn a [[]]with
 |[]=>[]
 |c::cs=>gu (vc e) cs c
def Mq(e:Int)(a:List$ List Rd):Int:=vc e$ gA e a
def S8(h:c∈Dn b [[]]):Pk b c:=by
 obtain⟨a,d,r,rfl,e⟩:=tK b h
 simp_all
def zkc(h:mQ a):∃ c cs,Dn a [[]]=c::cs:=by
 cases e:Dn a [[]]with
 |nil=>exact absurd e$ ZX a (λd b=>(h.f d b).1) ⋯
 |cons c cs=>simp_all
def yS(h:Ej v.L ps) a:si [Xh v$ ps.map fg] a=J (U$ Mq v.e$ Sk v ps) a:=by
 have I:=ŀ h;have d:=l8 h;have z:∀ a,bc [14,15,16] "every" (Xh v$ ps.map fg) a=J _ a:=λa=>kh (LD rfl) rfl rfl;generalize Sk v ps=b,Xh v _=V,v.e=e at *;have c:=K8 d.n (λm l=>(d.f m l).2);have k:=ZJ b [[]] (λm l=>(d.f m l).2);have k:(Dn b [[]]).length<=8:=lb k (by rw[gb,Dd,vG,UJ];exact HW d.n);have t:∀ a,Di (Uk (io$ Gi$ Gf 1 Zf []$ Qa (ya 1) zb) [1,0] (pd 0) zl$ Gf 3 Vf []$ Qa (Gf 2 He []$ Qa (ya 2)$ Qa (ya 0) zb)$ Qa (ya 0)$ Qa (Vd (bc [14,15,16] "every")$ ya 3) zb) [BD V,BD$ RL b,A5] a=J _ a:=λa=>by
  refine Nu (s:=.seq$ (Dn b [[]]).map cD) cD _ ?_ (λi r=>Eb BD$ Rr _ _ i) ⋯ (λp o j=>?_) (λp r=>nQ e p)
  ·generalize RL b=R,(Dn b [[]]).map cD=ό at *;simp[c]
  ·have pk:=S8 o;have ϋ:=pk.len;have q:∀ x∈p,One x.1.x:=λx q=>by obtain⟨m,A,B⟩:=kT pk x q;exact d.x m A _ B
   have w:=o7 d.n pk;have G:=J1 e (c:=p) (by have:=d.n;lia) q (Ř (by have:=d.n;simp;lia) λr l=>by obtain⟨x,E,rfl⟩:=Ja.mp l;exact q x E);generalize cD p=K,RL b=R,(p.map λp=>p.1.D)=M,Dq e p=g at *;simp[w,G,z]
 have u:∀ a,Tz (Fb Kb (ya 0)$ eC$ U 0) [] [ύ$ (Dn b [[]]).map$ Dq e] a=J (Dq e$ gA e b) a:=λa=>by
  obtain⟨p,cs,o⟩:=zkc d;rw[show gA e b=gu (vc e) cs p by unfold gA;rw[o],o];refine lS (f:=Dq e) λy r=>?_;have:∀ a,Kb (Dq e y) (U 0) a=J (U$ vc e y) a:=λa=>by unfold Dq vc;simp
  generalize Dq e y=N at *;simp[this]
 have C:=nQ e$ gA e b;have F:∀ a,Kb (Dq e$ gA e b) (U 0) a=J (U$ Mq e b) a:=λa=>by unfold Dq Mq vc;simp
 generalize Dq e (gA e b)=g,(Dn b [[]]).map (Dq e)=PL at *;have H:∀ a,Dj [V] a=J g a:=λa=>by
  have t:=t a;have u:=u a;unfold Dj zT;generalize RL b=R at *;simp[I,t,u,C,-Ip]
 unfold si Tc;simp[H,F]
def Cg{a j:Ea}{k:Nat}(h:a[k]?=BD o):(a++j)[k]?=BD o:=by
 rw[ib (ba.mp h).1,h]
structure Ac where
 (p q:Int)
 c:Nat
 m:Sn
 G:D
 y:List Sn
 L:lv
def Ac.fs(a:Ac):List$ Str × D:=[("pot",U a.p),("side",U a.q),("mine",a.m.D),("grant",a.G),("may",ύ (a.y.map Sn.D)),("strikes",ύ a.L)]
def Qi(b:Ea)(n:Nat)(a:Ac):Prop:=b[n]?=BD (ϔ a.c a.fs)
def Qi.app(h:Qi b n a) j:Qi (b++j) n a:=Cg h
def XW(h:[10,11,12,13].contains c=E8):[7,8,10,11,12,13].contains c=E8:=by
 simp at h ⊢;omega
structure Ac.Ok(a:Ac):Prop where
 p:0<=a.p/\a.p<=2
 q:a.q=0\/a.q=1
 c:[10,11,12,13].contains a.c=E8
 g:cl a.G=E8
 l:Af a.L=E8
section
variable{σ:Ea}{n:Nat}{a:Ac}(h:Qi σ n a)(o:a.Ok)
include h
theorem Io:Sj σ (O n)=BD (a.c,a.fs):=by
 have h:σ[n]?=BD _:=h;unfold Sj;simp[h]
include o
theorem Es:bc [10,11,12,13] "pot" (O n) σ=J (U a.p) σ:=kh (Io h) o.c rfl
theorem Vv:bc [7,8,10,11,12,13] "side" (O n) σ=J (U a.q) σ:=kh (Io h) (XW o.c) rfl
theorem NA:bc [10,11,12,13] "mine" (O n) σ=J a.m.D σ:=kh (Io h) o.c rfl
theorem xY:bc [10,11,12,13] "grant" (O n) σ=J a.G σ:=kh (Io h) o.c rfl
theorem PK:bc [10,11,12,13] "may" (O n) σ=J (ύ$ a.y.map Sn.D) σ:=kh (Io h) o.c rfl
theorem XG:bc [10,11,12,13] "strikes" (O n) σ=J (ύ a.L) σ:=kh (Io h) o.c rfl
end
theorem Â c i a b d e f g h:Bl c 7 i [a,b,d,e,f,g] h=uz h.length (i [O h.length,a,b,d,e,f,g]$ h++[ϔ c []]):=MM rfl
def VF{a:Ac}(h:a.Ok) b:Bl a.c 7 rq [U a.p,U a.q,a.m.D,a.G,ύ$ a.y.map Sn.D,ύ a.L] b=J (O b.length) (b++[ϔ a.c a.fs]):=by
 have r:=xH a.y;have t:=h.l;have o:=h.c;unfold Ac.fs;generalize a.p=j,a.q=k,a.c=c,a.m.D=m,a.G=g,a.L=z,a.y.map Sn.D=y at *;have u:∀ p:D,Tj "pot" p []=([("pot",p)]:List (Str × D)):=λC=>rfl;have w:∀ p s:D,Tj "side" s [("pot",p)]=([("pot",p),_]:List (Str × D)):=λC C=>rfl;have x:∀ p s:D,Tj "mine" m [("pot",p),("side",s)]=([("pot",p),("side",s),("mine",m)]:List (Str × D)):=λC C=>rfl;have A:∀ p s:D,Tj "grant" g [("pot",p),("side",s),("mine",m)]=([("pot",p),("side",s),("mine",m),("grant",g)]:List (Str × D)):=λC C=>rfl;have p4:∀ p s:D,Tj "may" (ύ y) [("pot",p),("side",s),("mine",m),("grant",g)]=([("pot",p),("side",s),("mine",m),("grant",g),("may",ύ y)]:List (Str × D)):=λC C=>rfl;have B:∀ p s:D,Tj "strikes" (ύ z) [("pot",p),("side",s),("mine",m),("grant",g),("may",ύ y)]=([("pot",p),("side",s),("mine",m),("grant",g),("may",ύ y),("strikes",ύ z)]:List (Str × D)):=λC C=>rfl;have i:rq [O b.length,U j,U k,m,g,ύ y,ύ z] (b++[ϔ c []])=J Ϝ (b++[ϔ c [("pot",U j),("side",U k),("mine",m),("grant",g),("may",ύ y),("strikes",ύ z)]]):=by
  unfold rq Hf;simp[(λf v (e:List (Str × D)) (n:e.length<1000)=>HG (ρ:=[BD$ O b.length,BD$ U j,BD$ U k,BD m,BD g,BD$ ύ y,BD$ ύ z]) (σ:=b) (cs:=[10,11,12,13]) (f:=f) (d:=v) (c:=c) (fs:=e) o n),(λf v (e:List (Str × D)) (n:e.length<1000)=>HG (ρ:=[BD$ O b.length,BD$ U j,BD$ U k,BD m,BD g,BD$ ύ y,BD$ ύ z]) (σ:=b) (cs:=[7,8,10,11,12,13]) (f:=f) (d:=v) (c:=c) (fs:=e) (XW o) n),u,w,x,A,p4,B,(QC r),(QC t)]
 rw[Â,i,aD]
noncomputable def de(p q:Int)(m:Sn)(G:D)(L:lv):Ac:=⟨p,q,11,m,G,[m],L⟩
noncomputable def qt(p q:Int)(m o:Sn)(G:D)(L:lv):Ac:=⟨p,q,12,m,G,[m,o],L⟩
noncomputable def zw(p q:Int)(o m:Sn)(G:D)(L:lv):Ac:=⟨p,q,13,m,G,[o,m],L⟩
noncomputable def uh(p s:Int)(X:D):D:=ϑ [ϙ "agree",U p,U s,X]
noncomputable def yn(p s n:Int):D:=ϑ [ϙ "strike",U p,U s,U n]
def li(p s:Int)(X:Sn):D:=ϑ [ϙ "offer",U p,uh p s X.D]
noncomputable def Im(p s n:Int):D:=ϑ [ϙ "struck",U p,yn p s n]
def Hn(p:Int)(m s:Sn):D:=ϑ [ϙ "accept",U p,uh p 1 s.D,yn p 1 m.n]
def Pm(p:Int)(s:Sn):D:=ϑ [ϙ "ask",U p,ϑ [U s.a,U s.b],ϑ$ s.ts.map Ti.D]
def uC{xs}(h:∀ x∈xs,pl n x=E8):pl (n+1) (ϑ xs)=E8:=Vb.mpr h
def Z3 n(t:Ti):pl (n+1) t.D=E8:=by simp[pl,Ti.D]
def JW n(b:List Ti):pl (n+2) (ϑ$ b.map Ti.D)=E8:=uC λx a=>by obtain⟨t,_,rfl⟩:=Ja.mp a;exact Z3 n t
def t8 n(s:Sn):pl (n+3) s.D=E8:=uC λx c=>by
 have c:x=U s.n\/x=ϑ [U s.a,U s.b]\/x=ϑ (s.ts.map Ti.D):=by simpa using c
 rcases c with rfl|rfl|rfl
 ·simp[pl]
 ·simp[pl]
 ·exact JW n s.ts
def qZ n p q(s:Sn):pl (n+4) (uh p q s.D)=E8:=uC λx a=>by
 have a:x=ϙ "agree"\/x=U p\/x=U q\/x=s.D:=by simpa using a
 rcases a with rfl|rfl|rfl|rfl
 ·simp[pl]
 ·simp[pl]
 ·simp[pl]
 ·exact t8 n s
def M0 p q s:pl 8 (li p q s)=E8:=uC λx a=>by
 have a:x=ϙ "offer"\/x=U p\/x=uh p q s.D:=by simpa using a
 rcases a with rfl|rfl|rfl
 ·simp[pl]
 ·simp[pl]
 ·exact qZ 3 p q s
def ť p m s:pl 8 (Hn p m s)=E8:=uC λx a=>by
 have a:x=ϙ "accept"\/x=U p\/x=uh p 1 s.D\/x=yn p 1 m.n:=by simpa using a
 rcases a with rfl|rfl|rfl|rfl
 ·simp[pl]
 ·simp[pl]
 ·exact qZ 3 p 1 s
 ·simp[pl,yn]
def yg0 p q n:pl 8 (Im p q n)=E8:=by simp[pl,Im,yn]
def nG{X}(h:cl X=E8):cl (uh p s X)=E8:=by unfold uh;simp[h]
def YQ p q s:cl (li p q s)=E8:=by unfold li;simp[nG$ wt s]
def RV p q n:cl (Im p q n)=E8:=by unfold Im yn;simp
def LS p m s:cl (Hn p m s)=E8:=by unfold Hn yn;simp[nG$ wt s]
def ybb p s:cl (Pm p s)=E8:=by unfold Pm;simp[xU]
section
variable{p:Int}(hp:0<=p/\p<=2)(σ:Ea)
include hp
theorem US{q}(a:q=0\/q=1) k X:di [ϑ [k,U p,U q,X]] σ=J (ϒ E8) σ:=by
 unfold di Tc;simp[(QR a σ),(sR hp σ)]
theorem SU{q}(c:q=0\/q=1){s:Sn}(h:Tq s.n s.a s.b s.ts):Pl [uh p q s.D] σ=J (ϒ E8) σ:=by
 have t:zh [uh p q s.D] σ=J (ϒ E8) σ:=by
  unfold Sn.D uh zh Tc;simp[(NE h σ),(λX=>US hp σ c (ϙ "agree") X)]
 have i:Kb (uh p q s.D) (U 0) σ=J (ϙ "agree") σ:=by unfold uh;simp
 unfold Pl Tc
 simp_all
theorem HQ{q n}(a:q=0\/q=1)(h:0<=n/\n<=1000000):vk [yn p q n] σ=J (ϒ E8) σ:=by
 have t:zh [yn p q n] σ=J (ϒ E8) σ:=by
  unfold yn zh Tc;simp[(ZY h σ),(λX=>US hp σ a (ϙ "strike") X)]
 have i:Kb (yn p q n) (U 0) σ=J (ϙ "strike") σ:=by unfold yn;simp
 unfold vk Tc
 simp_all
theorem FJ{k}{x}{r}(b:r.length<=3)(h:Ae [ϑ$ ϙ k::U p::x::r] σ=J (ϒ E8) σ):Ke [ϑ$ ϙ k::U p::x::r] σ=J (ϒ E8) σ:=by
 have a:Gq [ϑ$ ϙ k::U p::x::r] σ=J (U$ r.length+3) σ:=by
  have:=wZ (σ:=σ)$ ϙ k::U p::x::r;rw[this];congr 2
 have lt:decide ((r.length:Int)+3<3)=J8:=ub ⋯;unfold Ke Tc;simp[h,(sR hp σ),a,lt]
theorem tV{q}(c:q=0\/q=1){s}(h:Tq s.n s.a s.b s.ts):Ke [li p q s] σ=J (ϒ E8) σ:=by
 refine FJ hp σ ⋯ ?_;unfold Ae Tc;simp[(SU hp σ c h)]
theorem xW{m s}(h:Tq s.n s.a s.b s.ts)(c:0<=m.n/\m.n<=1000000):Ke [Hn p m s] σ=J (ϒ E8) σ:=by
 refine FJ hp σ ⋯ ?_;unfold Ae Tc;simp[(SU hp σ _ h),(HQ hp σ _ c)]
theorem eV{q}(a:q=0\/q=1){n}(h:0<=n/\n<=1000000):Ke [Im p q n] σ=J (ϒ E8) σ:=by
 refine FJ hp σ ⋯ ?_;unfold Ae Tc;simp[(HQ hp σ a h)]
theorem F2{s}(h:Tq s.n s.a s.b s.ts):Ke [Pm p s] σ=J (ϒ E8) σ:=by
 have a:=NE (n:=0) ⟨by lia,h.a,h.b,h.t,h.l,h.d⟩ σ;unfold Om at a;refine FJ hp σ ⋯ ?_;unfold Ae Tc;simp[a]
end
def v8{s m:Sn}(h:s.Ok W)(f:m.Ok W)(i:s.n=m.n+1) c:ki [s.D,m.D] c=J (ϒ E8) c:=by
 have d:=VU h.st c;have e:=XM m.n m.a m.b (by have:=f.st.l;omega) c;rw[h.w]at d;rw[f.w]at e;have j:=s0 s c;have k:=s0 m c;have g:(s.n == m.n+1)=E8:=by simp[i]
 unfold ki Tc;unfold Sn.D at *;simp[d,e,j,k,g]
section
variable{σ:Ea}{n:Nat}{a:Ac}(h:Qi σ n a)(o:a.Ok)
include h o
theorem eE s{X}(b:cl X=E8):bh [O n,U s,X] σ=J (uh a.p s X) σ:=by
 unfold bh uh eg;simp[(Es h o),b]
theorem AI s(m:Sn):Kn [O n,U s,m.D] σ=J (yn a.p s m.n) σ:=by
 unfold Kn yn eg;simp[(Es h o),(s0 m)]
end
theorem K4 k a b:sj (ϙ k) (ϙ a) b=J (ϒ$ !(k == a)) b:=tE (by rfl)
def IY a b c:sj (U a) (U b) c=J (ϒ$ decide$ a≠b) c:=by
 by_cases h:a=b<;>simp[h]
def Fx(c:0<=p/\p<=2)(d:q=0\/q=1)(a:cl G=E8)(b:Af L=E8):(de p q m G L).Ok:=⟨c,d,rfl,a,b⟩
def ZL(c:0<=p/\p<=2)(d:q=0\/q=1)(a:cl G=E8)(b:Af L=E8):(qt p q m o G L).Ok:=⟨c,d,rfl,a,b⟩
def MN(c:0<=p/\p<=2)(d:q=0\/q=1)(a:cl G=E8)(b:Af L=E8):(zw p q m o G L).Ok:=⟨c,d,rfl,a,b⟩
section
variable{σ:Ea}{n:Nat}{p:Int}(hp:0<=p/\p<=2){m s:Sn}{W:Int}(hm:m.Ok W)(hs:s.Ok W)(hn:s.n=m.n+1){G:D}{L:lv}(hg:cl G=E8)(hl:Af L=E8)(hLk:L.length<=100)
include hp hg hl
include hm hs hn
theorem gT(h:Qi a n$ de p 1 m G L):Wy [O n,li p 0 s] a=J (ϑ [O a.length,Hn p m s]) (a++[ϔ 13 (zw p 1 m s (uh p 0 s.D) L).fs]):=by
 have o:=Fx (m:=m) hp (ϓ rfl) hg hl;have d:=h.app [ϔ 13 (zw p 1 m s (uh p 0 s.D) L).fs];have mk:Bl 13 7 rq [U p,U 1,s.D,uh p 0 s.D,ύ [m.D,s.D],ύ L] a=J _ (a++[ϔ 13 (zw p 1 m s _ L).fs]):=VF (MN (p:=p) (q:=1) (m:=m) (o:=s) hp (ϓ rfl) (nG (p:=p) (s:=0)$ wt s) hl) a;generalize a++[ϔ 13 (zw p 1 m s _ L).fs]=b at *;have k:bc [7,8,10,11,12,13] "side" (O n) a=J (U 1) a:=Vv h o;have l:bc [10,11,12,13] "pot" (O n) a=J (U p) a:=Es h o;have f:bc [10,11,12,13] "pot" (O n) b=J (U p) b:=Es d o;have r:bc [10,11,12,13] "mine" (O n) a=J m.D a:=NA h o;have g:bc [10,11,12,13] "mine" (O n) b=J m.D b:=NA d o;have t:bc [10,11,12,13] "strikes" (O n) a=J (ύ L) a:=XG h o;have u:∀ a,Kb (li p 0 s) (U 0) a=J (ϙ "offer") a:=λa=>by unfold li;simp
 have v:∀ a,Kb (li p 0 s) (U 2) a=J (uh p 0 s.D) a:=λa=>by unfold li;simp
 have w:∀ a,Kb (uh p 0 s.D) (U 3) a=J s.D a:=λa=>by unfold uh;simp
 have j:bh [O n,U 0,s.D] a=J (uh p 0 s.D) a:=eE h o 0$ wt s;have e:bh [O n,U 1,s.D] b=J (uh p 1 s.D) b:=eE d o 1$ wt s;have B:Kn [O n,U 1,m.D] b=J (yn p 1 m.n) b:=AI d o 1 m;have A:sj (ϙ "offer") (ϙ "offer") a=J (ϒ J8) a:=Gx (by simp[pl]);have y:∀ c,Kj [(11,bh)] 3 "agree_of" c (O n) a=(c a).bind (Fi 3 bh$ O n):=λc=>Lp (Io h) rfl rfl;have i:∀ c,Kj [(11,bh)] 3 "agree_of" c (O n) b=(c b).bind (Fi 3 bh$ O n):=λc=>Lp (Io d) rfl rfl;have x:∀ c,Kj [(11,Kn)] 3 "strike_of" c (O n) b=(c b).bind (Fi 3 Kn$ O n):=λc=>Lp (Io d) rfl rfl;have z:sj (li p 0 s) (ϑ [ϙ "offer",U p,uh p 0 s.D]) a=J (ϒ J8) a:=Gx$ M0 p 0 s;unfold Hn;unfold Wy Hf;simp[(tV hp a (ϐ rfl) hs.st),k,l,f,r,g,t,u,v,w,j,e,B,y,i,x,z,A,(v8 hs hm hn a),mk]
theorem BS(h:Qi c n$ de p 0 m G L):Rf [O n,ϑ [U s.a,U s.b],ϑ$ s.ts.map Ti.D] c=J (ϑ [O c.length,li p 0 s]) (c++[ϔ 12 (qt p 0 m s G L).fs]):=by
 have o:=Fx (q:=0) (m:=m) hp (ϐ rfl) hg hl;have g:=h.app [ϔ 12 (qt p 0 m s G L).fs];have mk:Bl 12 7 rq [U p,U 0,m.D,G,ύ [m.D,s.D],ύ L] c=J _ (c++[ϔ 12 (qt p 0 m s G L).fs]):=VF (ZL (p:=p) (q:=0) (m:=m) (o:=s) hp (ϐ rfl) hg hl) c;generalize c++[ϔ 12 (qt p 0 m s G L).fs]=e at *;have r:bc [7,8,10,11,12,13] "side" (O n) c=J (U 0) c:=Vv h o;have t:bc [10,11,12,13] "pot" (O n) c=J (U p) c:=Es h o;have f:bc [10,11,12,13] "pot" (O n) e=J (U p) e:=Es g o;have u:bc [10,11,12,13] "mine" (O n) c=J m.D c:=NA h o;have v:bc [10,11,12,13] "strikes" (O n) c=J (ύ L) c:=XG h o;have y:bc [10,11,12,13] "grant" (O n) c=J G c:=xY h o;have k:yl [m.D] c=J (U W) c:=by rw[<-hm.w];exact XM _ _ _ (by have:=hm.st.l;lia) c
 have E:Wf [s.D,U W] c=J (ϒ E8) c:=by rw[<-hs.w];exact VU hs.st c
 have C:ϑ [U$ m.n+1,ϑ [U s.a,U s.b],ϑ$ s.ts.map Ti.D]=s.D:=by rw[<-hn];rfl
 have B:sj (ϙ "calm") (ϙ "calm") c=J (ϒ J8) c:=Gx (by simp[pl]);have j:∀ x c,Pu [x] c=J (ϙ "calm") c:=λx c=>by unfold Pu eg;simp
 have A:∀ d,Kj [(11,Pu),(12,mD),(13,NC)] 1 "word" d (O n) c=(d c).bind (Fi 1 Pu$ O n):=λd=>Lp (Io h) rfl rfl;have i:bh [O n,U 0,s.D] e=J (uh p 0 s.D) e:=eE g o 0$ wt s;have z:∀ d,Kj [(10,bh),(11,bh),(12,bh),(13,bh)] 3 "agree_of" d (O n) e=(d e).bind (Fi 3 bh$ O n):=λd=>Lp (Io g) rfl rfl;unfold li;unfold Rf kW;simp[r,t,f,u,v,y,(s0 m),k,E,C,B,j,A,i,z,mk]
omit hn
include hLk
theorem l6(h:Qi σ n$ qt p 0 m s G L):Ez [O n,Hn p m s] σ=J (ϑ [O σ.length,Im p 0 m.n]) (σ++[ϔ 11 (de p 0 s (uh p 1 s.D)$ L++[U m.n]).fs]):=by
 have o:=ZL (m:=m) (o:=s) hp (ϐ rfl) hg hl;have f:Af (L++[U m.n])=E8:=by rw[jM,hl];rfl
 have c:=h.app [ϔ 11 (de p 0 s (uh p 1 s.D)$ L++[U m.n]).fs];have mk:Bl 11 7 rq [U p,U 0,s.D,uh p 1 s.D,ύ [s.D],ύ$ L++[U m.n]] σ=J _ (σ++[ϔ 11 (de p 0 s (uh p 1 s.D)$ L++[U m.n]).fs]):=VF (Fx (p:=p) (q:=0) (m:=s) hp (ϐ rfl) (nG (p:=p) (s:=1)$ wt s) f) σ;generalize σ++[ϔ 11 (de p 0 s (uh p 1 s.D)$ L++[U m.n]).fs]=b at *;have l:bc [7,8,10,11,12,13] "side" (O n) σ=J (U 0) σ:=Vv h o;have r:bc [10,11,12,13] "pot" (O n) σ=J (U p) σ:=Es h o;have d:bc [10,11,12,13] "pot" (O n) b=J (U p) b:=Es c o;have t:bc [10,11,12,13] "mine" (O n) σ=J m.D σ:=NA h o;have e:bc [10,11,12,13] "mine" (O n) b=J m.D b:=NA c o;have u:bc [10,11,12,13] "strikes" (O n) σ=J (ύ L) σ:=XG h o;have v:bc [10,11,12,13] "may" (O n) σ=J (ύ [m.D,s.D]) σ:=PK h o;have k:bh [O n,U 1,s.D] σ=J (uh p 1 s.D) σ:=eE h o 1$ wt s;have z:Kn [O n,U 1,m.D] σ=J (yn p 1 m.n) σ:=AI h o 1 m;have i:Kn [O n,U 0,m.D] b=J (yn p 0 m.n) b:=AI c o 0 m;have x:∀ a,Kj [(12,bh)] 3 "agree_of" a (O n) σ=(a σ).bind (Fi 3 bh$ O n):=λa=>Lp (Io h) rfl rfl;have w:∀ a,Kj [(12,Kn)] 3 "strike_of" a (O n) σ=(a σ).bind (Fi 3 Kn$ O n):=λa=>Lp (Io h) rfl rfl;have g:∀ a,Kj [(12,Kn)] 3 "strike_of" a (O n) b=(a b).bind (Fi 3 Kn$ O n):=λa=>Lp (Io c) rfl rfl;have y:sj (Hn p m s) (ϑ [ϙ "accept",U p,uh p 1 s.D,yn p 1 m.n]) σ=J (ϒ J8) σ:=Gx$ ť p m s;have j:jh (ύ L) (ύ [U m.n]) σ=J (ύ$ L++[U m.n]) σ:=KI (by unfold Og;simp;lia);unfold Im;unfold Ez Hf;simp[(xW hp σ (m:=m) hs.st hm.st.n),l,r,d,t,e,u,v,k,z,i,(s0 m),x,w,g,y,j,mk]
theorem j7(h:Qi σ n$ zw p 1 m s G L):wz [O n,Im p 0 m.n] σ=J (ϑ [O σ.length,Ϝ]) (σ++[ϔ 11 (de p 1 s G$ L++[U m.n]).fs]):=by
 have o:=MN (m:=m) (o:=s) hp (ϓ rfl) hg hl;have b:Af (L++[U m.n])=E8:=by rw[jM,hl];rfl
 have mk:Bl 11 7 rq [U p,U 1,s.D,G,ύ [s.D],ύ$ L++[U m.n]] σ=J _ (σ++[ϔ 11 (de p 1 s G$ L++[U m.n]).fs]):=VF (Fx (q:=1) (m:=s) hp (ϓ rfl) hg b) σ;have d:bc [7,8,10,11,12,13] "side" (O n) σ=J (U 1) σ:=Vv h o;have e:bc [10,11,12,13] "pot" (O n) σ=J (U p) σ:=Es h o;have f:bc [10,11,12,13] "mine" (O n) σ=J s.D σ:=NA h o;have g:bc [10,11,12,13] "strikes" (O n) σ=J (ύ L) σ:=XG h o;have i:bc [10,11,12,13] "may" (O n) σ=J (ύ [m.D,s.D]) σ:=PK h o;have j:bc [10,11,12,13] "grant" (O n) σ=J G σ:=xY h o;have r:Kn [O n,U 0,m.D] σ=J (yn p 0 m.n) σ:=AI h o 0 m;have k:∀ a,Kj [(13,Kn)] 3 "strike_of" a (O n) σ=(a σ).bind (Fi 3 Kn$ O n):=λa=>Lp (Io h) rfl rfl;have l:sj (Im p 0 m.n) (ϑ [ϙ "struck",U p,yn p 0 m.n]) σ=J (ϒ J8) σ:=Gx$ yg0 ..;have c:jh (ύ L) (ύ [U m.n]) σ=J (ύ$ L++[U m.n]) σ:=KI (by unfold Og;simp;lia);unfold wz Hf;simp[(eV hp σ (q:=0) (ϐ rfl) hm.st.n),d,e,f,g,i,j,(s0 m),r,k,l,c,mk]
end
structure Ka where
 r:Nat
 a:Ac
 S:Option Int
 v:D
noncomputable def HD(b:Nat):Int:=if b<15 then 0 else if b<25 then 1 else 2
structure Kp where
 (e L g:Int)
 K:gV
 as:List Ka
 Q:Kv
 c:D
noncomputable def ji(b:Nat)(k:Kp):List$ Str × D:=[("hand",U (HD b)),("every",U k.e),("last_look",U k.L),("gave",U k.g),("known",O (b+1)),("accounts",O (b+2)),("claims",O (b+3)),("seen",O (b+4)),("asked",O (b+5)),("finishing",O (b+6))]
noncomputable def jl(K:gV):Kv:=K.map λw=>(.inl w,ϒ E8)
noncomputable def MV(f:Ka->D)(b:List Ka):Kv:=b.map λx=>(.inl x.a.p,f x)
noncomputable def AV(a:List Ka):Kv:=MV (λx=>O x.r) a
noncomputable def HB:Nat:=34
def oA(a:Ea)(x:Ka):Prop:=(x.v=Ϭ [] []/\x.S=A5)\/∃ r,x.v=O r/\HB<=r/\a[r]?=BD (ώ$ sK x.S)
def As(c:List Ka)(b:Ea):Prop:=∀ x∈c,Qi b x.r x.a/\x.a.Ok/\oA b x
structure Vs(b:Nat)(k:Kp)(σ:Ea):Prop where
 h0:σ[b]?=BD (ϔ 15 (ji b k))
 h1:σ[b+1]?=BD (ώ (jl k.K))
 h3:σ[b+3]?=BD (ώ (MV (λe=>k.c) k.as))
 h4:σ[b+4]?=BD (ώ (MV Ka.v k.as))
 d:(k.as.map (·.a.p)).Nodup
 c:∀ σ,Kb k.c (U 0) σ=J (ϙ "held") σ
def Vs.app(h:Vs b k a) j:Vs b k$ a++j:=⟨Cg h.h0,Cg h.h1,Cg h.h3,Cg h.h4,h.d,h.c⟩
def yd{a:Ea}(n:r≠k)(h:a[k]?=BD o):(a.set r x)[k]?=BD o:=by
 rw[Xi n,h]
def Vs.set(h:Vs b k a)(e:r=b+2\/b+4<r) x:Vs b k$ a.set r x:=⟨yd ⋯ h.h0,yd ⋯ h.h1,yd ⋯ h.h3,yd ⋯ h.h4,h.d,h.c⟩
def oA.app(h:oA a x) j:oA (a++j) x:=h.imp id λ⟨r,b,c,d⟩=>⟨r,b,c,Cg d⟩
def As.app(h:As b c) j:As b$ c++j:=λx a=>⟨(h x a).1.app j,(h x a).2.1,(h x a).2.2.app j⟩
noncomputable def isA:Ob->Bool
 | ϔ c _=>[10,11,12,13].contains c
 |_=>J8
def Qi.ne(h:Qi d n a)(f:a.Ok)(b:d[r]?=BD o)(g:isA o=J8):r≠n:=λe=>by
 rw[e,h]at b;cases b;exact absurd (f.c.symm.trans g) ⋯
def As.set(h:As as c)(j:c[r]?=BD o)(i:isA o=J8)(b:r<HB\/∀ x∈as,x.v≠ O r) k:As as$ c.set r k:=λx a=>⟨yd ((h x a).1.ne (h x a).2.1 j i) (h x a).1,(h x a).2.1,(h x a).2.2.imp id λ⟨q,d,f,g⟩=>⟨q,d,f,yd (λe=>by
 rcases b with b|b
 ·lia
 ·exact b x a ⋯) g⟩⟩
def HA(h:a[n]?=BD (ώ b))(c:Cj b (.inl w)=BD d):Hi (O n) (U w) a=J d a:=by
 unfold Hi ig;simp[tj,h];simp[c]
theorem ZB(f:Ka->D):∀ {as:List Ka},(as.map (·.a.p)).Nodup->∀ x∈as,Cj (MV f as) (.inl x.a.p)=BD (f x)
 |[],_,x,h=>by cases h
 |y::as,hd,x,b=>by
  rw[Sa,Wc]at hd;unfold MV Cj;rcases Da.mp b with rfl|b
  ·simp
  ·have c:y.a.p≠x.a.p:=λe=>hd.1$ e ▸ qj b;have d:=ZB f hd.2 x b;unfold MV Cj at d
   simp_all
section
variable{b:Nat}{k:Kp}{σ:Ea}(h:Vs b k σ)
include h
theorem aw:Sj σ (O b)=BD (15,ji b k):=by unfold Sj;simp[h.h0]
theorem U0:bc [14,15,16] "every" (O b) σ=J (U k.e) σ:=kh (aw h) rfl rfl
theorem tQ:bc [14,15] "last_look" (O b) σ=J (U k.L) σ:=kh (aw h) rfl rfl
theorem eR:bc [14,15] "known" (O b) σ=J (O$ b+1) σ:=kh (aw h) rfl rfl
theorem j3:bc [15] "gave" (O b) σ=J (U k.g) σ:=kh (aw h) rfl rfl
theorem fy:bc [15] "accounts" (O b) σ=J (O$ b+2) σ:=kh (aw h) rfl rfl
theorem WX:bc [9,15] "claims" (O b) σ=J (O$ b+3) σ:=kh (aw h) rfl rfl
theorem X1:bc [15] "seen" (O b) σ=J (O$ b+4) σ:=kh (aw h) rfl rfl
theorem tH:bc [15] "asked" (O b) σ=J (O$ b+5) σ:=kh (aw h) rfl rfl
theorem oq{m} n a c(d:(ji b k).lookup m=A5):Kj [(15,a)] n m c (O b) σ=(c σ).bind (Fi n a$ O b):=Lp (aw h) rfl d
theorem YT{x}(e:x∈k.as):Hi (O$ b+3) (U x.a.p) σ=J k.c σ:=HA h.h3$ ZB _ h.d x e
theorem B1{x}(c:x∈k.as):Hi (O$ b+4) (U x.a.p) σ=J x.v σ:=HA h.h4$ ZB _ h.d x c
end
theorem nU:∀ K:gV,jx (jl K)=BD K
 |[]=>rfl
 |w::K=>by
  have a:=nU K;unfold jl at a ⊢;unfold jx;simp[a]
abbrev ks(K:gV):gV:=Op K
def HN{K}:w∈ks K ↔ w∈K:=(bv K).mem_iff
def kY(h:Vs b k a)(e:k.K.length<=60):Cr [O b] a=J (ύ$ (ks k.K).map U) a:=by
 have o:xx [O$ b+1] a=J (O a.length) (a++[Ϗ$ (ks k.K).map U]):=by
  have l:jf a (O$ b+1)=A5:=by unfold jf We;simp[h.h1]
  have d:ig a (O$ b+1)=BD (jl k.K):=by unfold ig;simp[h.h1]
  unfold xx;simp[l];unfold iE;simp only[d,nU];rw[ja ⋯];rfl
 have c:Yf a (xx [O$ b+1] a)=J (ύ$ (ks k.K).map U) a:=by rw[o];exact Fz$ mF _
 unfold Cr eg;simp[(eR h),c]
def JS(h:Qi b n a)(d:a.Ok)(e:∀ b,Kb c (U 0) b=J (ϙ "held") b):df [O n,c] b=J (ύ$ a.y.map Sn.D) b:=by
 unfold df Tc;simp[e,(PK h d),(xH a.y)]
def YL{xs}(h:We a n=BD xs) j:We (a++j) n=BD xs:=by
 unfold We;rw[Cg$ xI h]
theorem hJ(j:f ρ σ=J (O n) σ)(g:σ[n]?=BD (ώ A))(i:src ρ σ=J nx c)(k:mo nx e a 1001 0 ρ c=J (Ϙ d) b)(h:b[n]?=BD (ϣ A')):Qt f (Am src e a) ρ σ=J (Ϙ d) (b.set n$ ώ A'):=by
 show EI vO _ _ σ=_;unfold EI;rw[j];dsimp only;rw[g];rw[Tt,i,dm];show iF vO _ (mo nx e a 1001 0 ρ c)=_;rw[k];unfold iF;simp[h];rfl
def EX(c:f b a=J (O n) a)(g:a[n]?=BD (ώ A)):lx f b a=J (Sr A) (a.set n$ ϣ A):=by
 show Kc _ JI a=_;rw[Yl,c,Ad];unfold JI;simp[g]
def qE{a:Ea}(h:a[r]?=BD o):a.set r o=a:=by
 obtain⟨b,c⟩:=ba.mp h;rw[<-c];exact List.set_getElem_self b
theorem YK c g a b d e f:Bl c 5 g [a,b,d,e] f=uz f.length (g [O f.length,a,b,d,e]$ f++[ϔ c []]):=MM rfl
def pv(x:Ka):Pv:=⟨x.a.q,x.S,x.a.y⟩
def im(x:Ka):D:=ϑ [U x.a.q,ύ$ x.a.y.map Sn.D,x.v]
theorem oA.Κ(h:oA a x):nD [x.v] a=J (sD x.S) a:=by
 rcases h with⟨e,b⟩|⟨r,e,_,b⟩
 ·rw[e,b];exact nr rfl
 ·rw[e];have:ig a (O r)=BD (sK x.S):=by unfold ig;simp[b]
  unfold nD;simp only[this];cases x.S<;>rfl
def N9 g(v:Vw){ps:List Ka}(I:ps.length<=3)(A:∀ x∈ps,oA g x)(m:We g n=BD (ps.map im)):bD [O g.length,U v.e,U v.L,ύ$ v.K.map U,O n] (g++[ϔ 14 []])=J Ϝ (g++[ϔ 14 [("every",U v.e),("last_look",U v.L),("known",ύ (v.K.map U)),("pots",ύ ((ps.map pv).map fg))]]):=by
 have E:=λ(l:h8) (u:l.contains 14=E8) (f:Str) (w:D) (h:List (Str × D)) (z:h.length<1000)=>HG (ρ:=[BD$ O g.length,BD$ U v.e,BD$ U v.L,BD$ ύ$ v.K.map U,BD$ O n]) (σ:=g) (cs:=l) (f:=f) (d:=w) (c:=14) (fs:=h) u z;have r:∀ h,Yf (g++[ϔ 14 h]) (yq [ύ$ v.K.map U]$ g++[ϔ 14 h])=J (ύ$ v.K.map U) (g++[ϔ 14 h]):=λh=>QC (mF v.K) _;have C:∀ h,Di (Uk (io$ Gi$ ya 4) [] (pd 0) zl$ Ri$ Qa (Fb Kb (ya 0)$ eC$ U 0)$ Qa (Di$ So yq$ Qa (Fb Kb (ya 0)$ eC$ U 1) zb)$ Qa (So nD$ Qa (Fb Kb (ya 0)$ eC$ U 2) zb) zb) [BD$ O g.length,BD$ U v.e,BD$ U v.L,BD$ ύ$ v.K.map U,BD$ O n] (g++[ϔ 14 h])=J (ύ$ (ps.map pv).map fg) (g++[ϔ 14 h]):=λh=>by
  have s1:Wv (O n) (g++[ϔ 14 h])=J (.Ul n) (g++[ϔ 14 h]):=by
   show (match We (g++[ϔ 14 h]) n with|some _=>_|none=>_)=_;rw[YL m]
  rw[Cb];exact Nu (ix:=[]) (src:=Gi$ ya 4) (s:=.Ul n) (xs:=ps) (ρ:=[BD$ O g.length,BD$ U v.e,BD$ U v.L,BD$ ύ$ v.K.map U,BD$ O n]) (σ:=g++[ϔ 14 h]) (fe:=Ri$ Qa (Fb Kb (ya 0)$ eC$ U 0)$ Qa (Di$ So yq$ Qa (Fb Kb (ya 0)$ eC$ U 1) zb)$ Qa (So nD$ Qa (Fb Kb (ya 0)$ eC$ U 2) zb) zb) im (fg ∘ pv) (by simp[s1]) (λi j=>by
    show (We (g++[ϔ 14 h]++j) n).map _=_;rw[YL$ YL m _,<-Rr];rfl) ⋯
   (λx B j=>by
    have p:=QC$ xH x.a.y;have o:=((A x B).app$ ϔ 14 h::j).Κ;show _=J (ϑ [U x.a.q,ύ$ x.a.y.map Sn.D,sD x.S]) _;unfold im;simp[p,o]) (λx i=>uX$ pv x)
 have F:Tj "every" (U v.e) ([]:List (Str × D))=([("every",U v.e)]:List (Str × D)):=rfl;have G:∀ a b:D,Tj "last_look" b ([("every",a)]:List (Str × D))=([("every",a),("last_look",b)]:List (Str × D)):=λi i=>rfl;have H:∀ a b c:D,Tj "known" c ([("every",a),("last_look",b)]:List (Str × D))=([("every",a),("last_look",b),("known",c)]:List (Str × D)):=λi i i=>rfl;have p4:∀ a b c d:D,Tj "pots" d ([("every",a),("last_look",b),("known",c)]:List (Str × D))=([("every",a),("last_look",b),("known",c),("pots",d)]:List (Str × D)):=λi i i i=>rfl;have t:∀ k g,Di (So yq$ Qa (ya 3) zb) k g=Yf g (So yq (Qa (ya 3) zb) k g):=λi i=>rfl;unfold bD Hf;simp[E,F,G,H,p4,r,C,t,-Ip]
def uW v(a:List Ka):cl (Xh v$ (a.map pv).map fg)=E8:=B7 _$ rV _
section
variable{b:Nat}{k:Kp}(hK:k.K.length<=60){as':List Ka}{σ:Ea}
include hK
theorem mY(h:Vs b k σ)(ϋ:As as' σ)(hs:∀ x∈as',∃ y∈k.as,y.a.p=x.a.p/\y.v=x.v)(hn:as'.length<=3){r}(s:σ[r]?=BD (ώ$ AV as'))(h2:r=b+2\/b+4<r)(hr:r<HB\/∀ x∈as',x.v≠ O r):wC [O b,O r] σ=J (Xh ⟨k.e,k.L,ks k.K⟩$ (as'.map pv).map fg) σ:=by
 have g:=(ba.mp s).1;have F:=h.set h2$ ϣ$ AV as';have C:=ϋ.set s rfl hr$ ϣ$ AV as';have G:(σ.set r$ ϣ$ AV as').length=σ.length:=Fd;have l:=Cg (j:=[Ϗ []]) s;obtain⟨a0,a1,R,H,I,rfl,rfl⟩:=jT (tg:=Il 2$ Qg (pd 3)$ Qg (pd 4) Vl) (body:=GQ) (N:=(AV as').length) (λi ό w=>∃ H I,ό=[BD$ O b,BD$ O r,BD$ O σ.length,H,I]/\w=σ.set r (ϣ$ AV as')++[Ϗ$ (as'.take i).map im]) (λi ό w E hP=>by
  obtain⟨H,I,rfl,rfl⟩:=hP;have E:i<as'.length:=by simpa [AV,MV]using E
  have o:as'[i]?=BD as'[i]:=ba.mpr ⟨E,rfl⟩;generalize as'[i]=x at *;have P:=za o;have z:=yF (σ:=σ.set r$ ϣ$ AV as') (xs:=(as'.take i).map im) (d:=im x) (by simp;lia);rw[G]at z;have me:∀ m,yu Xj m (O σ.length) (σ.set r (ϣ$ AV as')++[Ϗ$ (as'.take i).map im])=(m$ σ.set r (ϣ$ AV as')++[Ϗ$ (as'.take i).map im]).bind (Xj$ O σ.length):=λm=>CC (xs:=(as'.take i).map im) (by unfold jf We;rw[<-G];simp);have v:=F.app [Ϗ$ (as'.take i).map im];have ϊ:=WX v;have V:=X1 v;obtain⟨y,Q,W,B⟩:=hs x P;have M:=YT v Q;have A:=B1 v Q;rw[W]at M A;rw[B]at A;have t:=(C.app [Ϗ$ (as'.take i).map im]) x P;have st:=JS t.1 t.2.1 v.c;have sd:=Vv t.1 t.2.1;have tq:ϑ [U x.a.q,ύ$ x.a.y.map Sn.D,x.v]=im x:=rfl;rw[show (as'.take i).map im++[im x]=(as'.take$ i+1).map im by rw[fF o];simp]at z;refine⟨ϑ [U x.a.p,O x.r],[BD$ O b,BD$ O r,BD$ O σ.length,BD$ U x.a.p,BD$ O x.r],[BD$ O b,BD$ O r,BD$ O σ.length,BD$ U x.a.p,BD$ O x.r],_,?_,rfl,?_,_,_,rfl,rfl⟩
  ·unfold Sr AV MV;simp only[Ta,o];rfl
  ·generalize σ.set r (ϣ$ AV as')++[Ϗ$ (as'.take i).map im]=Y,σ.set r (ϣ$ AV as')++[Ϗ$ (as'.take$ i+1).map im]=Z at *;simp[ϊ,V,M,A,st,sd,me,tq,z]) (λw=>χ (AV as') w) 1001 0 [BD$ O b,BD$ O r,BD$ O σ.length,A5,A5] ((σ++[Ϗ []]).set r$ ϣ$ AV as') (by simp[AV,MV];lia) ⋯ ⟨A5,A5,rfl,by rw[Cs _ _ g];simp⟩
 rw[show (AV as').length=as'.length by simp[AV,MV],re]at R;have S:=hJ (f:=ya 1) (src:=lx$ ya 1) (ρ:=[BD$ O b,BD$ O r,BD$ O σ.length,A5,A5]) (σ:=σ++[Ϗ []]) (n:=r) ⋯ l (EX ⋯ l) R (A':=AV as')$ Cg (by rw[Pc g]);rw[Cs _ _ (by rw[G];exact g),Ik,qE s]at S;have u:=h.app [Ϗ$ as'.map im];have wd:=kY u hK;have mt:=λX=>oq u (m:="words") 1 Cr X rfl;have B:=U0 u;have la:=tQ u;have hc:=uW ⟨k.e,k.L,ks k.K⟩ as';have mk:Yf (σ++[Ϗ$ as'.map im]) (Bl 14 5 bD [U k.e,U k.L,ύ$ (ks k.K).map U,O σ.length]$ σ++[Ϗ$ as'.map im])=J (Xh ⟨k.e,k.L,ks k.K⟩$ (as'.map pv).map fg) (σ++[Ϗ$ as'.map im]):=by
  rw[YK,N9 _ ⟨k.e,k.L,ks k.K⟩ (n:=σ.length) (ps:=as') hn (λx o=>(ϋ x o).2.2.app _) (by unfold We;simp),aD,KU (by have:=rV$ as'.map pv;generalize (as'.map pv).map fg=T at *;simp[this])];rfl
 have fz:Yf σ (J (Xh ⟨k.e,k.L,ks k.K⟩$ (as'.map pv).map fg)$ σ++[Ϗ$ as'.map im])=J (Xh ⟨k.e,k.L,ks k.K⟩$ (as'.map pv).map fg) σ:=lW hc;unfold wC IW eg;dsimp only;generalize as'.map im=PR,(as'.map pv).map fg=T at *;simp[-Tt,S,B,la,wd,mt,mk,fz]
end
def W(k:Kp)(a:List Ka):Int:=Mq k.e$ Sk ⟨k.e,k.L,ks k.K⟩$ a.map pv
structure Jq(b:Nat)(k:Kp)(σ:Ea):Prop where
 v:Vs b k σ
 h2:σ[b+2]?=BD (ώ (AV k.as))
 h5:σ[b+5]?=BD (ώ k.Q)
 h6:σ[b+6]?=BD (ώ [])
 a:As k.as σ
 hb:b+6<HB
 n:k.as.length<=3
 z:k.K.length<=60
 o:Ej k.L (k.as.map pv)
 q:k.Q.length<=100
def Jq.app(h:Jq b k c) j:Jq b k$ c++j:=⟨h.v.app j,Cg h.h2,Cg h.h5,Cg h.h6,h.a.app j,h.hb,h.n,h.z,h.o,h.q⟩
section
variable{b:Nat}{k:Kp}{σ:Ea}(h:Jq b k σ)
include h
theorem CS:Dz [O b] σ=J (U$ W k k.as) σ:=by
 have v:=mY h.z h.v h.a (λx f=>⟨x,f,rfl,rfl⟩) h.n h.h2 (ϐ rfl)$ ϐ (by have:=h.hb;lia);have w:=λσ=>yS (v:=⟨k.e,k.L,ks k.K⟩) h.o σ;have d:=uW ⟨k.e,k.L,ks k.K⟩ k.as;have w:∀ σ,si [Xh _ _] σ=J (U$ W k k.as) σ:=w;generalize Xh _ _=V at *;have g:kF [O b] σ=J V σ:=by
  unfold kF eg;simp[(λc=>oq h.v (m:="view_by") 2 wC c rfl),(fy h.v),v,d]
 unfold Dz eg;simp[(λc=>oq h.v (m:="view") 1 kF c rfl),g,w]
noncomputable def Nh(b:List Ka)(r:Nat)(a:Ac):List Ka:=b.map λy=>if y.a.p=a.p then ⟨r,a,y.S,y.v⟩else y
omit h
theorem qU(c:∃ y∈as,y.a.p=a.p):Zi (AV as) (.inl a.p) (O r)=AV (Nh as r a):=by
 obtain⟨y,d,b⟩:=c;unfold Zi AV MV Nh;rw[ja$ Sd.mpr ⟨_,Ja.mpr ⟨y,d,rfl⟩,by simp[b]⟩];rw[Cb,Cb];refine ke λz f=>?_;by_cases e:z.a.p=a.p;all_goals simp_all
theorem EM{b}(h:y∈Nh b r a):(∃ z∈b,z.a.p=a.p/\y=⟨r,a,z.S,z.v⟩)\/y∈b:=by
 obtain⟨z,c,rfl⟩:=Ja.mp h;all_goals grind
theorem uV(f:Ka->c){b:List Ka}(d:∀ y:Ka,y.a.p=a.p->f ⟨r,a,y.S,y.v⟩=f y):(Nh b r a).map f=b.map f:=by
 unfold Nh;rw[Cb];refine ke λy e=>?_
 grind
theorem IQ(f:Ka->D)(b:∀ y:Ka,f ⟨r,a,y.S,y.v⟩=f y):MV f (Nh as r a)=MV f as:=uV _ λy e=>by dsimp only;rw[b y,e]
theorem RO b r a:(Nh b r a).length=b.length:=by unfold Nh;simp
structure kG(L:Int)(a:Ac):Prop where
 q:a.q=0\/a.q=1
 f:0<a.y.length/\a.y.length<=2
 d:∀ s∈a.y,s.ts=[]\/∃ t,s.ts=[t]/\t.w=7
 t:∀ s∈a.y,∀ t∈s.ts,L<t.y
theorem PU(h:Ej L$ c.map pv)(g:kG L a):Ej L$ (Nh c r a).map pv:=by
 have j:∀ p∈(Nh c r a).map pv,(∃ S,p=⟨a.q,S,a.y⟩)\/p∈c.map pv:=λp b=>by
  obtain⟨y,i,rfl⟩:=Ja.mp b;rcases EM i with⟨z,_,_,rfl⟩|i
  ·exact ϐ ⟨_,rfl⟩
  ·exact ϓ$ qj i
 refine⟨by rw[Oa,RO];simpa using h.n,λp b=>?_,λp b=>?_,λp b=>?_,λp b=>?_⟩<;>rcases j p b with⟨S,rfl⟩|e
 ·exact g.q
 ·exact h.q p e
 ·exact g.f
 ·exact h.f p e
 ·exact g.d
 ·exact h.d p e
 ·exact λs k t l=>ϓ$ g.t s k t l
 ·exact h.t p e
theorem kQ(h:As c σ)(d:Qi σ r a)(e:a.Ok):As (Nh c r a) σ:=λy b=>by
 rcases EM b with⟨z,f,_,rfl⟩|b
 ·exact⟨d,e,(h z f).2.2⟩
 ·exact h y b
include h
theorem zM{r}{a}(s:Qi σ r a)(t:a.Ok)(g:kG k.L a)(D:∃ y∈k.as,y.a.p=a.p) d(E:W k (Nh k.as r a) ≥ W k k.as - d):au [O b,O r,U d] σ=J (ϒ E8) σ:=by
 have A:oC [O$ b+2] σ=J (O σ.length) (σ++[ώ$ AV k.as]):=by
  have:ig σ (O$ b+2)=BD (AV k.as):=by unfold ig;simp[h.h2]
  unfold oC;simp only[this]
 have I:∀ l,An l (O r) (O σ.length) (U a.p) (σ++[ώ$ AV k.as])=J (Ϙ l) (σ++[ώ$ AV$ Nh k.as r a]):=λl=>by
  rw[jq (kvs:=AV k.as) ⋯ (by have:=h.n;simp[AV,MV];lia),qU D,az]
 have H:=Es (s.app [ώ$ AV k.as]) t;have ό:=(ba.mp h.h6).1;have u:=kQ h.a s t;have j:=h.v.app [ώ$ AV$ Nh k.as r a];have G:∀ x∈Nh k.as r a,x.v≠ O σ.length:=λx g e=>by
  rcases(u x g).2.2 with⟨c,_⟩|⟨q,c,_,B⟩
  ·rw[c]at e;cases e
  ·rw[c]at e;have:=(ba.mp B).1;cases e;lia
 have v:=mY h.z j (u.app [ώ$ AV$ Nh k.as r a]) (λy i=>by
  rcases EM i with⟨z,F,e,rfl⟩|i
  ·exact⟨z,F,e,rfl⟩
  ·exact⟨y,i,rfl,rfl⟩) (by rw[RO];exact h.n) (r:=σ.length) ⋯ (ϓ$ by lia)$ ϓ G
 have w:=λσ=>yS (v:=⟨k.e,k.L,ks k.K⟩) (PU h.o (r:=r) g) σ;have w:∀ σ,si [Xh ⟨k.e,k.L,ks k.K⟩$ ((Nh k.as r a).map pv).map fg] σ=J (U$ W k$ Nh k.as r a) σ:=w;have m1:=λf=>oq j (m:="view_by") 2 wC f rfl;have fz:Yf σ (J (ϒ E8)$ σ++[ώ$ AV$ Nh k.as r a])=J (ϒ E8) σ:=lW ⋯;have C:decide (W k (Nh k.as r a) ≥ W k k.as - d)=E8:=yc E;generalize Xh ⟨k.e,k.L,ks k.K⟩ (((Nh k.as r a).map pv).map fg)=V at *;unfold au eg;simp[(fy h.v),A,I,H,v,w,(CS$ h.app [ώ$ AV$ Nh k.as r a]),m1,(λf=>oq j (m:="worth") 1 Dz f rfl),fz,C]
end
def EY(c:(b.map (·.a.p)).Nodup):∀ x∈b,Cj (AV b) (.inl x.a.p)=BD (O x.r):=ZB _ c
section
variable{b:Nat}{k:Kp}{σ:Ea}(h:Jq b k σ)
include h
theorem g8:ig σ (O$ b+2)=BD (AV k.as):=by unfold ig;simp[h.h2]
theorem bY:ig σ (O$ b+5)=BD k.Q:=by unfold ig;simp[h.h5]
theorem EK(j:k.c=.gt ["held"]){x}(g:x∈k.as):Ox [O b,U x.a.p] σ=J (ϒ E8) σ:=by
 have l:=fy h.v;have c:=WX h.v;have f:=YT h.v g;rw[j]at f;have i:Pq (U x.a.p) (O$ b+2) σ=J (ϒ E8) σ:=by
  unfold Pq;simp only[tj,g8 h,EY h.v.d x g];rfl
 have e:∀ σ,CP (.gt ["held"]) (.gt ["held"]) σ=J (ϒ E8) σ:=λσ=>nr rfl;unfold Ox eg;simp[l,c,f,i,e]
theorem eH{x}(c:x∈k.as):Hi (O$ b+2) (U x.a.p) σ=J (O x.r) σ:=HA h.h2$ EY h.v.d x c
theorem eK{r}{a}(j:Qi σ r a)(l:a.Ok)(s:kG k.L a)(m:∃ y∈k.as,y.a.p=a.p):(∀ g,An g (O r) (O$ b+2) (U a.p) σ=J (Ϙ g) (σ.set (b+2)$ ώ$ AV$ Nh k.as r a))/\Jq b { k with as:=Nh k.as r a } (σ.set (b+2)$ ώ$ AV$ Nh k.as r a):=by
 have lt:=(ba.mp h.h2).1;refine⟨λg=>by rw[jq h.h2 (by have:=h.n;simp[AV,MV];lia),qU m],?_⟩;have f:=h.v.set (ϐ rfl)$ ώ$ AV$ Nh k.as r a;have i:=h.hb;exact⟨⟨f.h0,f.h1,(IQ (λt=>k.c) λt=>rfl).symm ▸ f.h3,(IQ Ka.v λt=>rfl).symm ▸ f.h4,(uV (·.a.p) λy e=>e.symm).symm ▸ h.v.d,h.v.c⟩,Pc lt,yd ⋯ h.h5,yd ⋯ h.h6,(kQ h.a j l).set h.h2 rfl (ϐ$ by lia) _,i,(RO ..).symm ▸ h.n,h.z,PU h.o s,h.q⟩
theorem VS{d}{ρ}{fv}(a:fv ρ σ=J (U d) σ):sA ρ [15] "gave" fv (O b) σ=J (Ϙ ρ) (σ.set b$ ϔ 15$ ji b { k with g:=k.g+d }):=by
 have lk:List.lookup ("gave" : Str) (ji b k)=BD _:=rfl;unfold sA;rw[(aw h.v)];simp only[lk];rw[wn,a,dm];unfold yI;simp only[h.v.h0];rfl
theorem kR d:Jq b { k with g:=k.g+d }$ σ.set b$ ϔ 15$ ji b { k with g:=k.g+d }:=by
 have e:=h.hb;exact⟨⟨Pc$ (ba.mp h.v.h0).1,yd ⋯ h.v.h1,yd ⋯ h.v.h3,yd ⋯ h.v.h4,h.v.d,h.v.c⟩,yd ⋯ h.h2,yd ⋯ h.h5,yd ⋯ h.h6,h.a.set h.v.h0 rfl (ϐ$ by lia) _,e,h.n,h.z,h.o,h.q⟩
theorem GV{Q}(f:Q.length<=100):Jq b { k with Q:=Q }$ σ.set (b+5)$ ώ Q:=by
 have e:=h.v.set (r:=b+5) (ϓ$ by lia)$ ώ Q;have g:=h.hb;exact⟨⟨e.h0,e.h1,e.h3,e.h4,e.d,e.c⟩,yd ⋯ h.h2,Pc$ (ba.mp h.h5).1,yd ⋯ h.h6,h.a.set h.h5 rfl (ϐ$ by lia) _,g,h.n,h.z,h.o,f⟩
end
def um(d:Int)(s:Sn):D:=ϑ [U d,ϑ [U s.a,U s.b],ϑ$ s.ts.map Ti.D]
section
variable{b:Nat}{k:Kp}{σ:Ea}(h:Jq b k σ)
include h
theorem sY{X}{kd}(d:∀ σ,Kb X (U 0) σ=J (ϙ kd) σ)(a:(kd == ("offer" : Str))=J8):Lu [O b,X] σ=J (ϒ J8) σ:=by
 have c:=K4 kd "offer" σ;rw[a]at c;unfold Lu eg
 simp_all
theorem yar p s{d:Option Int}(e:Cj k.Q (.inl p)=d.map λd=>um d s):Lu [O b,li p 0 s] σ=J (ϒ d.isSome) σ:=by
 have i:=tH h.v;have j:sj _ (ϙ "offer") σ=J _ σ:=Gx (by simp[pl]);have f:∀ σ,Kb (li p 0 s) (U 0) σ=J (ϙ "offer") σ:=λσ=>by unfold li;simp
 have g:∀ σ,Kb (li p 0 s) (U 1) σ=J (U p) σ:=λσ=>by unfold li;simp
 have n:ot (U p) (O$ b+5) σ=J (ϒ !d.isSome) σ:=by
  unfold ot;simp only[tj,bY h,e];cases d<;>rfl
 unfold Lu eg;cases d with
 |none=>simp[f,g,i,j,n]
 |some d=>
  have q:∀ σ,Kb (li p 0 s) (U 2) σ=J (uh p 0 s.D) σ:=λσ=>by unfold li;simp
  have r:∀ σ,Kb (uh p 0 s.D) (U 3) σ=J s.D σ:=λσ=>by unfold uh;simp
  have gt:=HA h.h5 e;have l:Ru [U s.n,ϑ [U s.a,U s.b],ϑ _] (BD 1) A5=[ϑ [U s.a,U s.b],ϑ$ s.ts.map Ti.D]:=rfl;have m:Ru [U d,ϑ [U s.a,U s.b],ϑ _] (BD 1) A5=[ϑ [U s.a,U s.b],ϑ$ s.ts.map Ti.D]:=rfl;have l1:∀ σ,Ey s.D _ A5 σ=J _ σ:=λσ=>by
   unfold Sn.D Om;rw[hG,l]
  have l2:∀ σ,Ey (um d s) _ A5 σ=J _ σ:=λσ=>by
   unfold um;rw[hG,m]
  have o:wl _ (ϑ [ϑ [U s.a,U s.b],ϑ _]) σ=J _ σ:=mL (uC λx c=>by
   have c:x=ϑ [U s.a,U s.b]\/x=ϑ (s.ts.map Ti.D):=by simpa using c
   rcases c with rfl|rfl
   ·simp[pl]
   ·exact JW 5 s.ts)
  dsimp only[Option.map_some]at gt;simp[f,g,q,r,i,n,j,gt,l1,l2,o]
end
@[simp] theorem zo5 b f d c a e:WI b f d c a e=Hm a (sA a b f d) (c a e):=wn ..
theorem zx5{l}{g}{e fr}{i f}{b}{a}{x y}{c d}{h gs}(j:e b a=J x a)(k:fr b a=J y a)(n:Sj a x=BD (c,h))(o:Sj a y=BD (d,gs))(m:(c,d)∈l):YF l g e fr i f b a=f b a:=by
 unfold YF;rw[wn,j,dm,wn,k,dm];unfold RK
 simp_all
def Fr(b:Nat)(c a:Ea):Prop:=∀ r o,(r<b\/b+6<r)->c[r]?=BD o->a[r]?=BD o
def Fr.trans{b}{a c d}(h:Fr b a c)(g:Fr b c d):Fr b a d:=λr o f e=>g r o f$ h r o f e
def Fr.refl b a:Fr b a a:=λc c c e=>e
def Fr.app b a j:Fr b a$ a++j:=λc c c e=>Cg e
def Fr.set{b} a{i}(c:b<=i/\i<=b+6) o:Fr b a$ a.set i o:=λr f d e=>yd ⋯ e
noncomputable def sa(q d a:Int):Int:=if q=0 then a+d else a
noncomputable def sb(q d b:Int):Int:=if q=0 then b else b+d
structure Pt where
 (p q u v:Int)
 t:Ti
noncomputable def Pt.s0(x:Pt):Sn:=⟨0,x.u,x.v,[]⟩
def Pt.s1(x:Pt):Sn:=⟨1,sa x.t.p (-x.t.a) x.u,sb x.t.p (-x.t.a) x.v,[x.t]⟩
structure Pt.Ok(x:Pt):Prop where
 p:x.p=0\/x.p=1
 q:x.q=0\/x.q=1
 tp:x.t.p=1 - x.q
 t:x.t.Ok
 w:x.t.w=7
 u:1<=x.u/\x.u<=1000000000000
 v:1<=x.v/\x.v<=1000000000000
 a:x.t.a<=ow (1 - x.q) x.s0
def sN(x:Pt)(s:Int):D:=uh x.p s x.s1.D
def ac(x:Pt)(q:Int):Nat->Ac
 |0=>de x.p q x.s0 Ϝ []
 |1=>if q=0 then qt x.p 0 x.s0 x.s1 Ϝ []else zw x.p 1 x.s0 x.s1 (sN x 0) []
 |_=>de x.p q x.s1 (sN x$ 1 - q) [U 0]
def yy(x:Pt):Nat->List Sn
 |0=>[x.s0]
 |1=>[x.s0,x.s1]
 |_=>[x.s1]
section
variable{x:Pt}(h:x.Ok)
include h
theorem Pt.Ok.pp:0<=x.p/\x.p<=2:=by have:=h.p;omega
theorem AB:x.s0.Ok$ x.u+x.v:=by
 have a:=h.u;have b:=h.v;exact⟨⟨by simp[Pt.s0],by simp[Pt.s0];omega,by simp[Pt.s0];omega,by simp[Pt.s0],by simp[Pt.s0],by simp[Pt.s0]⟩,by simp[Pt.s0,DD]⟩
theorem Xv:x.s1.Ok$ x.u+x.v:=by
 have d:=h.u;have f:=h.v;have g:=h.t.a;have c:=h.a;have b:=h.tp;rcases h.q with e|e<;>rw[e]at b c<;>simp[ow,Pt.s0]at c<;>exact⟨⟨by simp[Pt.s1],by simp[Pt.s1,sa,b];lia,by simp[Pt.s1,sb,b];lia,by simpa [Pt.s1]using h.t,by simp[Pt.s1],by simp[Pt.s1]⟩,by simp[Pt.s1,sa,sb,DD];lia⟩
theorem yP s:cl (sN x s)=E8:=nG$ wt _
theorem Tp{q}(a:q=0\/q=1) i:(ac x q i).p=x.p/\(ac x q i).q=q/\(ac x q i).y=yy x i:=by
 match i with
 |0=>trivial
 |1=>rcases a with rfl|rfl<;>exact⟨rfl,rfl,rfl⟩
 |i+2=>trivial
theorem Yy{q}(a:q=0\/q=1) i:(ac x q i).Ok:=by
 match i with
 |0=>exact Fx h.pp a rfl rfl
 |1=>
  rcases a with rfl|rfl
  ·exact ZL h.pp (ϐ rfl) rfl rfl
  ·exact MN h.pp (ϓ rfl) (yP h _) rfl
 |i+2=>exact Fx h.pp a (yP h _) rfl
theorem qR{i}{s}(a:s∈yy x i):s.ts=[]\/s.ts=[x.t]:=by
 match i,a with
 |0,a=>exact ϐ (by rw[show s=x.s0 by simpa [yy]using a];rfl)
 |1,a=>rcases(by simpa [yy]using a)with rfl|rfl<;>simp[Pt.s0,Pt.s1]
 |i+2,a=>exact ϓ (by rw[show s=x.s1 by simpa [yy]using a];rfl)
theorem jF{q}(c:q=0\/q=1) i{L}(g:L<x.t.y):kG L$ ac x q i:=by
 obtain⟨_,d,b⟩:=Tp h c i;refine⟨by rw[d];exact c,?_,λs a=>?_,λs a t f=>?_⟩
 ·rw[b]
  match i with
  |0=>simp[yy]
  |1=>simp[yy]
  |i+2=>simp[yy]
 ·rw[b]at a;rcases qR h a with e|e<;>simp[e,h.w]
 ·rw[b]at a;rcases qR h a with e|e<;>rw[e]at f;all_goals simp_all
end
def X2{q}(e:q=0\/q=1) a b d c:Ak [ϑ [U a,U b],U q,U d] c=J (ϑ [U$ sa q d a,U$ sb q d b]) c:=by
 unfold Ak sa sb Tc;rcases e with rfl|rfl<;>simp
def û{x:Pt}(h:x.Ok) c:xu [x.s0.D,U x.t.p,U x.t.a,U x.t.w,U x.t.y] c=J x.s1.D c:=by
 have g:=MX h.t;unfold Ti.D at g;have m1:=X2 h.t.p x.u x.v$ -x.t.a;have f:=NE (Xv h).st;unfold Om at f;have e:=wt x.s1;have j:∀ c,Kb x.s0.D _ c=J (U 0) c:=s0 _;have k:∀ c,Kb x.s0.D _ c=J (ϑ [U x.u,U x.v]) c:=s1 _;have l:∀ c,Kb x.s0.D _ c=J (ϑ []) c:=s2 _;unfold Sn.D Om Pt.s1 at *;simp only[Sa,Ce,Ti.D]at *;generalize sa x.t.p _ x.u=A,sb x.t.p _ x.v=B,ϑ [U x.s0.n,ϑ [U x.s0.a,U x.s0.b],ϑ _]=S0 at *;generalize q:ϑ [U x.t.p,U x.t.a,U x.t.w,U x.t.y]=d at *;have i:∀ c,jh (ϑ []) (ϑ [d]) c=J (ϑ [d]) c:=λc=>by rw[rK (by unfold Og;simp)];rfl
 have m:∀ c,Gh [U 1,ϑ [U A,U B],ϑ [d]] c=J (ϑ [U 1,ϑ [U A,U B],ϑ [d]]) c:=λc=>by
  unfold Gh ZO;simp[f,e]
 have o:∀ c,sk [S0,ϑ [U A,U B],ϑ [d]] c=J (ϑ [U 1,ϑ [U A,U B],ϑ [d]]) c:=λc=>by
  unfold sk Tc;simp[j,m,e]
 unfold xu Tc;simp[q,g,m1,k,l,o,i,e]
structure Ks where
 (e L g:Int)
 K:gV
 A:List (Ac × Option Int)
 Q:Kv
 c:D
noncomputable def Kp.s(k:Kp):Ks:=⟨k.e,k.L,k.g,k.K,k.as.map λx=>(x.a,x.S),k.Q,k.c⟩
noncomputable def pw(x:Ac × Option Int):Pv:=⟨x.1.q,x.2,x.1.y⟩
def Wk(z:Ks):Int:=Mq z.e$ Sk ⟨z.e,z.L,ks z.K⟩$ z.A.map pw
noncomputable def cx(A:List$ Ac × Option Int)(a:Ac):List$ Ac × Option Int:=A.map λy=>if y.1.p=a.p then (a,y.2)else y
theorem FL(b:List Ka):b.map pv=(b.map λx=>(x.a,x.S)).map pw:=by rw[Cb];rfl
theorem VI k:W k k.as=Wk k.s:=by unfold W Wk;rw[FL];rfl
def sJ b r a:((Nh b r a).map λx=>(x.a,x.S))=cx (b.map λx=>(x.a,x.S)) a:=by
 unfold Nh cx;rw[Cb,Cb];refine ke λy c=>?_
 grind
def Ks.up(z:Ks)(a:Ac):Ks:={ z with A:=cx z.A a }
theorem JM k r a:W k (Nh k.as r a)=Wk (k.s.up a):=by unfold W Wk;rw[FL,sJ];rfl
def ri(b:Nat)(z:Ks)(a:Ea):Prop:=∃ k,Jq b k a/\k.s=z
def ri.app{b}{z}{a}(h:ri b z a) j:ri b z$ a++j:=by
 obtain⟨k,h,e⟩:=h;exact⟨k,h.app j,e⟩
def Ef(b:Nat)(c:Ea)(f:M D)(R:D)(z:Ks):Prop:=∃ a,f c=J R a/\ri b z a/\Fr b c a
def fD{a}{b}{n}{c}{d}{l}{m}(h:Qi b n a)(g:a.c=c)(i:Er l c=BD d)(f:a.fs.lookup m=A5) k e:Kj l k m e (O n) b=(e b).bind (Fi k d$ O n):=Lp (Io h) ⋯ f
section
variable{b:Nat}{k:Kp}{σ:Ea}(h:Jq b k σ)
include h
theorem BK{x}(F:x∈k.as){a'}(Z:a'.p=x.a.p)(Y:a'.Ok)(W:kG k.L a')(hc:(a'.c,x.a.c)∈[(13,11),(11,13),(11,12)]){X R}{rb}(i1:∀ σ,Kb X (U 1) σ=J (U x.a.p) σ){d}(G:∀ e,Jq b k e->Lu [O b,X] e=J (ϒ d.isSome) e){s}(E:∀ v,d=BD v->Cj k.Q (.inl x.a.p)=BD (um v s))(g:Wk (k.s.up a') ≥ Wk k.s - d.getD 0){ϊ}(mk:∀ f,Kj [(11,Wy),(12,Ez),(13,wz)] 2 "taken" f (O x.r) σ=(f σ).bind (Fi 2 ϊ$ O x.r))(tk:ϊ [O x.r,X] σ=J (ϑ [O σ.length,R]) (σ++[ϔ a'.c a'.fs]))(rn:∀ σ,Br R Ϝ σ=J (ϒ rb) σ):Ef b σ (kB [O b,X]) (ύ$ if rb then []else [R]) { k.s.up a' with g:=k.g+d.getD 0,Q:=if d.isSome then uv k.Q (.inl x.a.p)else k.Q }:=by
 have B:=fy h.v;have w:=eH h F;have j:=h.app [ϔ a'.c a'.fs];have K:Qi (σ++[ϔ a'.c a'.fs]) σ.length a':=by unfold Qi;simp
 have t:=Fr.app b σ [ϔ a'.c a'.fs];generalize a1:σ++[ϔ a'.c a'.fs]=e at *;have N:=fy j.v;have kq:=tH j.v;have I:=eH j F;have T:∀ (C P:Option D) (ό:Ev->M Fl),YF [(13,11),(11,13),(11,12)] [11,12,13] (Fb Kb (ya 3)$ eC$ U 0) (Fb Hi (Vd (bc [15] "accounts")$ ya 0)$ ya 2) Mn ό [BD$ O b,BD X,BD$ U x.a.p,BD$ ϑ [O σ.length,R],C,P] e=ό [BD$ O b,BD X,BD$ U x.a.p,BD$ ϑ [O σ.length,R],C,P] e:=λC P ό=>by
  refine zx5 (x:=O σ.length) (y:=O x.r) ?_ ?_ (Io K) (Io (j.a x F).1) hc
  ·simp
  ·simp[N,I]
 have A:∃ y∈k.as,y.a.p=a'.p:=⟨x,F,Z.symm⟩
 have l:=zM j K Y W A (d.getD 0) (by rw[JM,VI];exact g);have mg:=λf=>oq j.v (m:="is_good") 3 au f rfl;have mq:=λf=>oq j.v (m:="is_as_asked") 2 Lu f rfl;have n:=G e j;obtain⟨sa,z⟩:=eK j K Y W A;rw[Z]at sa;have up:=sJ k.as σ.length a';cases d with
 |none=>
  refine⟨e.set (b+2)$ ώ$ AV$ Nh k.as σ.length a',?_,⟨_,z,?_⟩,t.trans$ .set e ⋯ _⟩
  ·have l:au [O b,O σ.length,U 0] e=J (ϒ E8) e:=l;have n:Lu [O b,X] e=J (ϒ J8) e:=n;unfold kB cO VL FM hO bN DL WN BN rP Hf;cases rb<;>simp[B,w,N,I,i1,mk,tk,T,l,mg,mq,n,sa,rn]
  ·unfold Kp.s Ks.up;dsimp only;rw[up];simp
 |some al=>
  have E:=E al rfl;have l:au [O b,O σ.length,U al] e=J (ϒ E8) e:=l;have n:Lu [O b,X] e=J (ϒ E8) e:=n;have gq:Hi (O$ b+5) (U x.a.p) e=J (um al s) e:=HA j.h5 E;have a0:∀ σ,Kb (um al s) (U 0) σ=J (U al) σ:=λσ=>by unfold um;simp
  have ϋ:=tH z.v;have dq:=bY z;have mp:∀ f,Yw GA f (O$ b+5) (e.set (b+2)$ ώ$ AV$ Nh k.as σ.length a')=(f$ e.set (b+2)$ ώ$ AV$ Nh k.as σ.length a').bind (GA$ O$ b+5):=λf=>by
   unfold Yw;rw[dq];rfl
  have h5:=z.h5;have H:Fr b e$ e.set (b+2)$ ώ$ AV$ Nh k.as σ.length a':=.set e ⋯ _;generalize e.set (b+2) (ώ$ AV$ Nh k.as σ.length a')=o at *;have po:GA (O$ b+5) [U x.a.p] o=J (um al s) (o.set (b+5)$ ώ$ uv k.Q$ .inl x.a.p):=by
   unfold GA;simp only[tj,h5];simp[E]
  have q2:(uv k.Q$ .inl x.a.p).length<=k.Q.length:=Bi ..;have V:=GV z (Q:=uv k.Q$ .inl x.a.p) (by have:=h.q;lia);have gv:=λ(y0 y1 y2 y3 C:Option D)=>VS (d:=al) (ρ:=[y0,y1,y2,y3,C,BD$ U al]) (fv:=ya 5) V ⋯;have h4:=kR V al;have u:Fr b o$ o.set (b+5)$ ώ$ uv k.Q$ .inl x.a.p:=.set o ⋯ _;generalize o.set (b+5) (ώ$ uv k.Q$ .inl x.a.p)=S at *;refine⟨_,?_,⟨_,h4,?_⟩,t.trans$ (H.trans u).trans$ .set S (i:=b) ⋯ _⟩
  rotate_left
  ·unfold Kp.s Ks.up;dsimp only;rw[up];rfl
  unfold kB cO VL FM hO bN DL WN BN rP Hf;cases rb<;>simp[B,w,N,kq,ϋ,I,i1,mk,tk,T,l,mg,mq,n,gq,a0,sa,mp,po,gv,rn]
end
def A4:((13,11):Nat × Nat)∈[(13,11),(11,13),(11,12)]:=by decide
def Z4:((11,13):Nat × Nat)∈[(13,11),(11,13),(11,12)]:=by decide
def F5:((11,12):Nat × Nat)∈[(13,11),(11,13),(11,12)]:=by decide
def i0o p q s a:Kb (li p q s) (U 0) a=J (ϙ "offer") a:=by unfold li;simp
def JG p q s a:Kb (li p q s) (U 1) a=J (U p) a:=by unfold li;simp
def pW p m s a:Kb (Hn p m s) (U 0) a=J (ϙ "accept") a:=by unfold Hn;simp
def cJ p m s a:Kb (Hn p m s) (U 1) a=J (U p) a:=by unfold Hn;simp
def CW p q n a:Kb (Im p q n) (U 0) a=J (ϙ "struck") a:=by unfold Im;simp
def hH p q n a:Kb (Im p q n) (U 1) a=J (U p) a:=by unfold Im;simp
def ri.get{b}{z}{f}(S:ri b z f){a}(c:∃ d,(a,d)∈z.A):∃ k,Jq b k f/\k.s=z/\∃ y∈k.as,y.a=a:=by
 obtain⟨k,h,rfl⟩:=S;obtain⟨d,c⟩:=c;obtain⟨y,g,e⟩:=Ja.mp c;exact⟨k,h,rfl,y,g,(Oz e).1⟩
section
variable{b:Nat}{k:Kp}{σ:Ea}(h:Jq b k σ)(hc:k.c=.gt ["held"]){x:Ka}(hx:x∈k.as)
include h hc hx
theorem jN{X}{kd}{R}{z}(f:Ke [X] σ=J (ϒ E8) σ)(g:∀ σ,Kb X (U 0) σ=J (ϙ kd) σ)(i:∀ σ,Kb X (U 1) σ=J (U x.a.p) σ)(kw:(kd == ("word" : Str))=J8)(j:(kd == ("ask" : Str))=J8)(d:Ef b σ (kB [O b,X]) R z):Ef b σ (eo [O b,X]) R z:=by
 obtain⟨e,d,r⟩:=d;refine⟨e,?_,r⟩;unfold eo Hf;simp[f,g,i,kw,j,(EK h hc hx),(λc=>oq h.v (m:="holds") 2 Ox c rfl),(λc=>oq h.v (m:="take_step") 2 kB c rfl),d]
end
section
variable{b:Nat}{z:Ks}{σ:Ea}(S:ri b z σ){x:Pt}(h:x.Ok)(hL:z.L<x.t.y)(hc:z.c=.gt ["held"])
include S h hL hc
theorem Ğ(H:∃ E,(ac x 0 0,E)∈z.A)(g:Wk (z.up$ ac x 0 1) ≥ Wk z):Ef b σ (eo [O b,Pm x.p x.s1]) (ύ [li x.p 0 x.s1])$ z.up$ ac x 0 1:=by
 obtain⟨k,c,rfl,⟨r,a,S0,v⟩,n,e⟩:=S.get H;dsimp only at e;subst e;have ό:∀ σ,Kb (Pm x.p x.s1) (U 0) σ=J (ϙ "ask") σ:=λσ=>by unfold Pm;simp
 have w:∀ σ,Kb (Pm x.p x.s1) (U 1) σ=J (U x.p) σ:=λσ=>by unfold Pm;simp
 have K:∀ σ,Kb (Pm x.p x.s1) (U 2) σ=J (ϑ [U x.s1.a,U x.s1.b]) σ:=λσ=>by unfold Pm;simp
 have M:∀ σ,Kb (Pm x.p x.s1) (U 3) σ=J (ϑ$ x.s1.ts.map Ti.D) σ:=λσ=>by unfold Pm;simp
 have I:Ox [O b,U x.p] σ=J _ σ:=EK c hc n;have u:Hi (O$ b+2) (U x.p) σ=J (O r) σ:=eH c n;have N:=BS h.pp (AB h) (Xv h) rfl (G:=Ϝ) rfl (L:=[]) rfl (show Qi σ r (de x.p 0 x.s0 Ϝ [])from(c.a _ n).1);have l:=c.app [ϔ 12 (qt x.p 0 x.s0 x.s1 Ϝ []).fs];have B:Qi (σ++[ϔ 12 (qt x.p 0 x.s0 x.s1 Ϝ []).fs]) σ.length$ ac x 0 1:=by unfold Qi;simp[ac,qt]
 have t:=Fr.app b σ [ϔ 12 (qt x.p 0 x.s0 x.s1 Ϝ []).fs];generalize σ++[ϔ 12 (qt x.p 0 x.s0 x.s1 Ϝ []).fs]=o at *;have j:∃ y∈k.as,y.a.p=(ac x 0 1).p:=⟨_,n,rfl⟩
 have ok:=Yy h (q:=0) (ϐ rfl) 1;have d:=jF h (q:=0) (ϐ rfl) 1 hL;obtain⟨sa,F⟩:=eK l B ok d j;have sa:∀ C,An C (O σ.length) (O$ b+2) (U x.p) o=J (Ϙ C) (o.set (b+2)$ ώ$ AV$ Nh k.as σ.length$ ac x 0 1):=sa;have st:LF [O b,Pm x.p x.s1] σ=J (ύ [li x.p 0 x.s1]) (o.set (b+2)$ ώ$ AV$ Nh k.as σ.length$ ac x 0 1):=by
  unfold LF pY UQ AY cV nX Hf;simp[w,K,M,(fy c.v),u,(fy l.v),N,(zM l B ok d j 0$ by rw[JM,VI];simpa using g),(λf=>oq l.v (m:="is_good") 3 au f rfl),sa]
 refine⟨_,?_,⟨_,F,?_⟩,t.trans$ .set o (i:=b+2) ⋯ _⟩
 ·unfold eo Hf;simp[(F2 h.pp σ (Xv h).st),ό,w,I,(λf=>oq c.v (m:="holds") 2 Ox f rfl),(λf=>oq c.v (m:="take_ask") 2 LF f rfl),st]
 ·unfold Kp.s Ks.up;dsimp only;rw[sJ]
theorem sV(l:∃ j,(ac x 1 0,j)∈z.A){d:Option Int}(i:Cj z.Q (.inl x.p)=d.map λd=>um d x.s1)(g:Wk (z.up$ ac x 1 1) ≥ Wk z - d.getD 0):Ef b σ (eo [O b,li x.p 0 x.s1]) (ύ [Hn x.p x.s0 x.s1]) { z.up (ac x 1 1)with g:=z.g+d.getD 0,Q:=if d.isSome then uv z.Q (.inl x.p)else z.Q }:=by
 obtain⟨k,c,rfl,⟨r,a,S0,v⟩,f,rfl⟩:=S.get l;exact jN c hc f (tV h.pp σ (ϐ rfl) (Xv h).st) (i0o _ _ _) (JG _ _ _) ⋯ ⋯$ BK (a':=ac x 1 1) c f rfl (Yy h (ϓ rfl) 1) (jF h (ϓ rfl) 1 hL) A4 (JG _ _ _) (λn m=>yar m x.p x.s1 i) (λv e=>by rw[e]at i;exact i) g (fD (c.a _ f).1 rfl rfl rfl 2) (gT h.pp (AB h) (Xv h) rfl rfl rfl (c.a _ f).1) (λσ=>rfl)
theorem fR(j:∃ i,(ac x 0 1,i)∈z.A)(g:Wk (z.up$ ac x 0 2) ≥ Wk z):Ef b σ (eo [O b,Hn x.p x.s0 x.s1]) (ύ [Im x.p 0 0])$ z.up$ ac x 0 2:=by
 obtain⟨k,c,rfl,⟨r,a,S0,v⟩,f,e⟩:=S.get j;subst e;have:=jN c hc f (xW h.pp σ (Xv h).st (AB h).st.n) (pW _ _ _) (cJ _ _ _) ⋯ ⋯$ BK (a':=ac x 0 2) (s:=x.s1) (d:=A5) (rb:=J8) c f rfl (Yy h (ϐ rfl) 2) (jF h (ϐ rfl) 2 hL) F5 (cJ _ _ _) (λm l=>sY l (pW _ _ _) ⋯) (λv e=>by cases e) ⋯ (fD (c.a _ f).1 rfl rfl rfl 2) (l6 h.pp (AB h) (Xv h) rfl rfl ⋯ (c.a _ f).1) (λσ=>rfl);simpa [Ks.up,Kp.s,Pt.s0]using this
theorem kS(j:∃ i,(ac x 1 1,i)∈z.A)(g:Wk (z.up$ ac x 1 2) ≥ Wk z):Ef b σ (eo [O b,Im x.p 0 0]) (ύ [])$ z.up$ ac x 1 2:=by
 obtain⟨k,c,rfl,⟨r,a,S0,v⟩,f,rfl⟩:=S.get j;have:=jN c hc f (eV h.pp σ (ϐ rfl) (n:=0)$ by lia) (CW _ _ _) (hH _ _ _) ⋯ ⋯$ BK (a':=ac x 1 2) (s:=x.s1) (d:=A5) c f rfl (Yy h (ϓ rfl) 2) (jF h (ϓ rfl) 2 hL) Z4 (hH _ _ _) (λm l=>sY l (CW _ _ _) ⋯) (λv e=>by cases e) ⋯ (fD (c.a _ f).1 rfl rfl rfl 2) (j7 h.pp (AB h) (Xv h) (yP h 0) rfl ⋯ (c.a _ f).1) (λσ=>rfl);simpa [Ks.up,Kp.s]using this
end
noncomputable def wk(a:Bool):Str:=if a then "pay" else "pass"
noncomputable def Mj(x:Pt)(b:Bool):D:=ϑ [ϙ$ wk b,U x.p,U x.t.a,U x.t.w,U x.t.y]
noncomputable def al(x:Pt)(b:Bool):Int:=if b then x.t.a else 0
def lt(x:Pt)(q:Int):D:=if q=0 then li x.p 0 x.s1 else Pm x.p x.s1
section
variable{x:Pt}(h:x.Ok)(py:Bool)
def QM a:Kb (Mj x py) (U 0) a=J (ϙ$ wk py) a:=by unfold Mj;simp
def K7 a:Kb (Mj x py) (U 1) a=J (U x.p) a:=by unfold Mj;simp
def SR b:Kb (Mj x py) (U 2) b=J (U x.t.a) b:=by unfold Mj;simp
def i6 a:Kb (Mj x py) (U 3) a=J (U x.t.w) a:=by unfold Mj;simp
def Ų a:Kb (Mj x py) (U 4) a=J (U x.t.y) a:=xP ..
def YO:(wk py == ("finish" : Str))=J8/\(wk py == ("give" : Str))=J8/\(wk py == ("settle" : Str))=J8/\(wk py == ("pay" : Str))=py/\(wk py == ("pass" : Str)) = !py:=by cases py<;>decide
def ŏ a:Hg [Mj x py] a=J (U$ al x py) a:=by
 have d:=QM (x:=x) py;have e:=SR (x:=x) py;obtain⟨_,b,_,c,_⟩:=YO py;unfold Hg al Tc;dsimp only;generalize Mj x py=f,wk py=K at *;cases py<;>simp[d,e,b,c]
include h
theorem â{a}{n}(b:Qi a n$ ac x (1 - x.q) 0) kn:Ig [O n,Mj x py,kn] a=J x.s1.D a:=by
 have j:1 - x.q=0\/1 - x.q=1:=by have:=h.q;lia
 have ok:=Yy h j 0;have f:bc [7,8,10,11,12,13] "side" (O n) a=J (U x.t.p) a:=by rw[h.tp];exact Vv b ok
 have g:bc [10,11,12,13] "mine" (O n) a=J x.s0.D a:=NA b ok;have k:=QM (x:=x) py;have l:=SR (x:=x) py;have m:=i6 (x:=x) py;have o:=Ų (x:=x) py;obtain⟨_,c,_,d,e⟩:=YO py;have r:=û h;have i:=wt x.s1;unfold Ig Tc;dsimp only;generalize Mj x py=u,x.s0.D=S0,x.s1.D=s,wk py=K at *;cases py<;>simp[k,l,m,o,f,g,c,d,e,r,i]
theorem Δ{q}(g:q=0\/q=1){a}{n}(b:Qi a n$ ac x q 0):Sf [O n,x.s1.D] a=J (ϑ [O a.length,lt x q]) (a++[ϔ (ac x q 1).c (ac x q 1).fs]):=by
 have d:=Yy h g 0;have j:bc [7,8,10,11,12,13] "side" (O n) a=J (U q) a:=by rw[Vv b d,(Tp h g 0).2.1]
 have k:=s1 x.s1;have o:=s2 x.s1;rcases g with rfl|rfl
 ·have i:=BS h.pp (AB h) (Xv h) rfl (G:=Ϝ) rfl (L:=[]) rfl b;show _=J (ϑ [O a.length,li x.p 0 x.s1]) (a++[ϔ 12 (qt x.p 0 x.s0 x.s1 Ϝ []).fs]);unfold Sf wP;simp[j,k,o,i]
 ·have u:=gT h.pp (AB h) (Xv h) rfl (G:=Ϝ) rfl (L:=[]) rfl b;show _=J (ϑ [O a.length,Pm x.p x.s1]) (a++[ϔ 13 (zw x.p 1 x.s0 x.s1 (uh x.p 0 x.s1.D) []).fs]);have f:=b.app [ϔ 13 (zw x.p 1 x.s0 x.s1 (uh x.p 0 x.s1.D) []).fs];generalize a++[ϔ 13 (zw x.p 1 x.s0 x.s1 (uh x.p 0 x.s1.D) []).fs]=r at *;have t:bc [10,11,12,13] "pot" (O n) a=J (U x.p) a:=Es b d;have e:bc [10,11,12,13] "pot" (O n) r=J (U x.p) r:=Es f d;have s:bh [O n,U 0,x.s1.D] a=J (uh x.p 0 x.s1.D) a:=eE b d 0$ wt _;have i:ϑ [ϙ "offer",U x.p,uh x.p 0 x.s1.D]=li x.p 0 x.s1:=rfl;unfold Pm;unfold Sf wP;simp[j,t,e,k,o,u,s,(fD (l:=[(10,bh),(11,bh),(12,bh),(13,bh)]) (m:="agree_of") b rfl rfl rfl 3),(fD (l:=[(11,Wy),(12,Ez),(13,wz)]) (m:="taken") b rfl rfl rfl 2),i]
end
def ZC(z:Ks)(x:Pt)(a:Bool):Ks:=if x.q=1 then { z.up (ac x 0 1)with g:=z.g+al x a } else { z with Q:=Zi z.Q (.inl x.p) (um (al x a) x.s1) }
def ò{b}{z}{n}(S:ri b z n){x}(h:x.Ok)(hL:z.L<x.t.y)(hc:z.c=.gt ["held"])(hQ:z.Q.length<50) py{j}(ϊ:1 - x.q=j)(ha:∃ S',(ac x j 0,S')∈z.A)(g:Wk (z.up$ ac x j 1) ≥ Wk z - al x py):Ef b n (sB [O b,Mj x py]) (ϑ [ϒ E8,ύ [lt x j]])$ ZC z x py:=by
 have E:j=0\/j=1:=by have:=h.q;lia
 obtain⟨k,B,rfl,⟨r,a,S0,v⟩,R,e⟩:=S.get ha;dsimp only at e;subst e;have P:Qi n r$ ac x j 0:=(B.a _ R).1;have ep:=(Tp h E 0).1;have ho:=EK B hc R;have u:Hi (O$ b+2) (U (ac x j 0).p) n=J (O r) n:=eH B R;have f1:bc [7,8,10,11,12,13] "side" (O r) n=J (U j) n:=by rw[Vv P$ Yy h E 0,(Tp h E 0).2.1]
 have st:=Δ h E P;have wd:=â h py$ ϊ.symm ▸ P;have mc:=fD (l:=[(11,Pu),(12,mD),(13,NC)]) (m:="word") P rfl rfl rfl 1;have N:=Yy h E 1;have w:=jF h E 1 hL;have H:=(Tp h E 1).1;rw[ep]at ho u;have cw:∀ x n,Pu [x] n=J (ϙ "calm") n:=λx n=>by unfold Pu eg;simp
 have nc:sj (ϙ "calm") (ϙ "calm") n=J (ϒ J8) n:=Gx (by simp[pl]);have F:=fy B.v;have kk:=eR B.v;have mh:=λό=>oq B.v (m:="holds") 2 Ox ό rfl;have mw:=λό=>oq B.v (m:="wish_for") 3 rA ό rfl;have W:=QM (x:=x) py;have X:=K7 (x:=x) py;obtain⟨b1,_,b3,_,_⟩:=YO py;have av:=ŏ (x:=x) py;have M:∃ y∈k.as,y.a.p=(ac x j 1).p:=⟨_,R,ep.trans H.symm⟩
 have C:=B.app [ϔ (ac x j 1).c (ac x j 1).fs];have ia:Qi (n++[ϔ (ac x j 1).c (ac x j 1).fs]) n.length$ ac x j 1:=by unfold Qi;simp
 have K:=Fr.app b n [ϔ (ac x j 1).c (ac x j 1).fs];generalize n++[ϔ (ac x j 1).c (ac x j 1).fs]=G at *;have ka:=fy C.v;have kq:=tH C.v;have gd:=zM C ia N w M (al x py) (by rw[JM,VI];exact g);have mg:=λό=>oq C.v (m:="is_good") 3 au ό rfl;have I:∀ o Y,rA [O b,x.s1.D,Mj x py] n=J (ϑ [ϒ E8,ύ [lt x j]]) o->ri b Y o->Fr b n o->Ef b n (sB [O b,Mj x py]) (ϑ [ϒ E8,ύ [lt x j]]) Y:=λo Y e s f=>by
  refine⟨o,?_,s,f⟩;unfold sB lZ UU CT uR LY FV jZ Hf;dsimp only;generalize Mj x py=WD,x.s1.D=S1,lt x j=Z at *;simp[ho,mh,F,kk,u,W,X,b1,nc,cw,mc,wd,mw,e]
 unfold ZC;rcases h.q with e|e
 ·rw[pa ⋯];obtain rfl:j=1:=by lia
  have sq:∀ T,An T (um (al x py) x.s1) (O$ b+5) (U x.p) G=J (Ϙ T) (G.set (b+5)$ ώ$ Zi k.Q (.inl x.p)$ um (al x py) x.s1):=λT=>jq C.h5 (by have:k.Q.length<50:=hQ;lia);have a0:(Zi k.Q (.inl x.p)$ um (al x py) x.s1).length<=k.Q.length+1:=by unfold Zi;split<;>simp
  have ϋ:=GV C (Q:=Zi k.Q (.inl x.p)$ um (al x py) x.s1) (by have:k.Q.length<50:=hQ;lia);refine I _ _ ?_ ⟨_,ϋ,rfl⟩$ K.trans$ .set G (i:=b+5) ⋯ _;have j1:=s1 x.s1;have j2:=s2 x.s1;have eq:ϑ [U$ al x py,ϑ [U x.s1.a,U x.s1.b],ϑ$ x.s1.ts.map Ti.D]=um (al x py) x.s1:=rfl;unfold rA gK YM JO kL pK EO iP uL yO Hf;dsimp only;generalize Mj x py=WD,x.s1.D=S1,lt x 1=Z at *;simp[F,u,ka,kq,f1,W,X,b3,av,st,gd,mg,j1,j2,eq,sq]
 ·rw[ja e];obtain rfl:j=0:=by lia
  obtain⟨sa,ϋ⟩:=eK C ia N w M;rw[H]at sa;have V:Fr b G$ G.set (b+2)$ ώ$ AV$ Nh k.as n.length$ ac x 0 1:=.set G ⋯ _;have up:=sJ k.as n.length$ ac x 0 1;generalize G.set (b+2) (ώ$ AV$ Nh k.as n.length$ ac x 0 1)=υ at *;have ag:=λ(y0 y1 y2 y3 y4 y6:Option D)=>VS (d:=al x py) (ρ:=[y0,y1,y2,y3,y4,BD$ U$ al x py,y6]) (fv:=ya 5) ϋ ⋯;have h3:=kR ϋ$ al x py;refine I _ _ ?_ ⟨_,h3,?_⟩$ (K.trans V).trans$ .set υ (i:=b) ⋯ _
  ·unfold rA gK YM JO kL pK EO iP uL yO Hf;dsimp only;generalize Mj x py=WD,x.s1.D=S1,lt x 0=Z at *;simp[F,u,ka,f1,W,X,b3,av,st,gd,mg,sa,ag]
  ·unfold Kp.s Ks.up;dsimp only;rw[up]
theorem WS e r s:Mq e [[r,s]]=if val e [s]<val e [r]then val e [s]else val e [r]:=by
 show vc e (if val e [s]<val e [r]then [(s,1)]else [(r,0)])=_;split<;>rfl
theorem ζ e r s:Mq e [[r],[s]]=val e [r,s]:=rfl
theorem P6 e r a s:Mq e [[r,a],[s]]=if val e [a,s]<val e [r,s]then val e [a,s]else val e [r,s]:=by
 show vc e (if val e [a,s]<val e [r,s]then [(a,1),_]else [(r,0),_])=_;split<;>rfl
theorem C9 e r s a:Mq e [[r],[s,a]]=if val e [r,a]<val e [r,s]then val e [r,a]else val e [r,s]:=by
 show vc e (if val e [r,a]<val e [r,s]then [(r,0),_]else [(r,0),_])=_;split<;>rfl
def UM e w{l}(b:0<=l.v):gs e [(w,[l])]=0:=by
 show (Rk [l] (mf [l] e) e)+0=0;cases a:Dr l with
 |true=>
  have h:=ô [l] e (x:=BD l.d) (by unfold Iq;simp[a]);have f:Rk [l] (BD l.d) e=0:=by unfold Rk cm;simp[a]
  have g:0<=Rk [l] (mf [l] e) e:=by
   unfold Rk;by_cases c:cm (mf [l] e) e l<;>simp[c,b]
  lia
 |false=>
  have:mf [l] e=A5:=by unfold mf Iq;simp[a,gu]
  rw[this];unfold Rk cm;simp[a]
def dH e{r}(h:r.x=[]\/∃ l,r.x=[l]/\0<=l.v):val e [r]=r.f:=by
 unfold val Oq;rcases h with h|⟨l,h,a⟩
 ·simp[h,gs,g7]
 ·simp[h,g7,UM e 7 a]
def nS e{r s}(h:(r.x=[]\/∃ l,r.x=[l]/\0<=l.v)/\s.x=[]\/r.x=[]/\∃ l,s.x=[l]/\0<=l.v):val e [r,s]=r.f+s.f:=by
 unfold val Oq;rcases h with⟨h|⟨l,h,b⟩,a⟩|⟨h,l,a,b⟩
 ·simp[h,a,gs,g7]
 ·simp[h,a,g7,UM e 7 b]
 ·simp[h,a,g7,UM e 7 b]
def QO(l:Lo):Prop:=l.k = "lost"\/l.k = "won"\/l.k = "sure"
theorem RS{l}(h:QO l) F e:cm F e l=J8:=by
 have a:Dr l=J8:=by unfold Dr;rcases h with h|h|h<;>rw[h]<;>decide
 have b:(l.k == ("hangs"))=J8:=by rcases h with h|h|h<;>rw[h]<;>decide
 unfold cm;rw[a,b];rfl
def ú e{r s}{l m}(c:r.x=[l])(d:s.x=[m])(g:l.w=m.w)(a:QO l)(b:QO m):val e [r,s]=r.f+s.f:=by
 have:Oq [r,s]=[(7,[l,m])]:=by unfold Oq;simp[c,d,g7]
 unfold val;have:gs e [(7,[l,m])]=0:=by
  show Rk [l,m] _ e+0=0;unfold Rk;simp[RS a,RS b]
 simp_all
def π e{r s}{l m:Lo}(j:r.x=[l])(n:s.x=[m])(p:l.w=m.w)(c:l.k = "hangs")(i:m.k = "open")(o:0<=m.v/\m.v<=l.v)(h:m.d - 1+e<l.d):val e [r,s]=r.f+s.f+m.v:=by
 have:Oq [r,s]=[(7,[l,m])]:=by unfold Oq;simp[j,n,g7]
 unfold val;have a:Dr l=J8:=by unfold Dr;rw[c];decide
 have b:Dr m=E8:=by unfold Dr;rw[i];decide
 have g:(l.k == ("hangs" : Str))=E8:=by rw[c];decide
 have f:Iq [l,m]=[BD m.d]:=by unfold Iq;simp[a,b]
 have s0:Rk [l,m] A5 e=m.v:=by unfold Rk cm;simp[a,b]
 have s1:Rk [l,m] (BD m.d) e=l.v:=by unfold Rk cm;simp[a,b,g,h]
 have:mf [l,m] e=A5:=by
  unfold mf;rw[f];show (if Rk [l,m] (BD m.d) e<Rk [l,m] A5 e then _ else _)=A5;rw[s0,s1,pa ⋯];rfl
 have:gs e [(7,[l,m])]=m.v:=by
  show Rk [l,m] (mf [l,m] e) e+0=m.v
  simp_all
 simp_all
def pc(x:Pt):Int:=ow (1 - x.q) x.s0
def rc(x:Pt):Int:=ow x.q x.s0
section
variable{x:Pt}(h:x.Ok)(v:Vw)(S:Option Int)
def iB q:rd v S q x.s0=⟨ow q x.s0,[]⟩:=by unfold rd iJ;simp[Pt.s0]
def RY q:rd v S q x.s1=⟨ow q x.s1+fa v S q x.t,[lo v S q x.t]⟩:=by unfold rd iJ;simp[Pt.s1]
include h
theorem qK:rd v S (1 - x.q) x.s1=⟨pc x - x.t.a,[lo v S (1 - x.q) x.t]⟩/\((lo v S (1 - x.q) x.t).k=if lj S x.t then ("lost" : Str)else "open"):=by
 have b:=h.tp;have k:lk v S (1 - x.q) x.t=if lj S x.t then ("lost" : Str)else "open":=by unfold lk;rw[ja b]
 have c:fa v S (1 - x.q) x.t=0:=by
  unfold fa;rw[k];cases lj S x.t<;>rw[pa ⋯]
 refine⟨?_,k⟩;rw[RY,c];congr 1;unfold pc;rcases h.q with e|e<;>simp[ow,Pt.s1,Pt.s0,sa,sb,b,e]<;>lia
theorem KM:rd v S x.q x.s1=⟨rc x+fa v S x.q x.t,[lo v S x.q x.t]⟩/\((lo v S x.q x.t).k=if lj S x.t then ("won" : Str)else if x.t.w∈v.K/\v.L+v.e<x.t.y then ("sure" : Str)else "hangs"):=by
 have a:=h.tp;have k:lk v S x.q x.t=if lj S x.t then ("won" : Str)else if x.t.w∈v.K/\v.L+v.e<x.t.y then ("sure")else "hangs":=by unfold lk;rw[pa (by rcases h.q with e|e<;>lia)]
 refine⟨?_,k⟩;rw[RY];unfold rc;rcases h.q with e|e<;>simp[ow,Pt.s1,Pt.s0,sa,sb,a,e]
end
def Ks.v(z:Ks):Vw:=⟨z.e,z.L,ks z.K⟩
theorem tJ{z}{A}(a:z.A=A):Wk z=Mq z.e (A.map λy=>y.1.y.map$ rd z.v y.2 y.1.q):=by
 unfold Wk Sk;rw[a,Cb];rfl
section
variable{x:Pt}(h:x.Ok)
include h
theorem xF{z}{i}{S}{b}(c:1 - x.q=b)(k:z.A=[(ac x b i,S)]):Wk z=if i=0 then pc x else pc x - x.t.a:=by
 have l:b=0\/b=1:=by have:=h.q;lia
 obtain⟨_,g,j⟩:=Tp h l i;have n:=h.t.a;rw[tJ k];simp only[Sa,Ce,g,j];obtain⟨m,_⟩:=qK h z.v S;have d:val z.e [rd z.v S b x.s0]=pc x:=by rw[iB,dH _$ ϐ rfl,<-c];rfl
 have f:val z.e [rd z.v S b x.s1]=pc x - x.t.a:=by rw[<-c,m,dH _$ ϓ ⟨_,rfl,by show 0<=x.t.a;lia⟩]
 match i with
 |0=>exact d
 |1=>
  show Mq z.e [[rd z.v S b x.s0,rd z.v S b x.s1]]=pc x - x.t.a;rw[WS,d,f,ja ⋯]
 |i+2=>rw[pa ⋯];exact f
theorem yX{z}{i}{S}(o:z.A=[(ac x x.q i,S)])(b:lj S x.t=E8\/x.t.w∈z.K/\z.L+z.e<x.t.y):Wk z=if 2<=i then rc x+x.t.a else rc x:=by
 obtain⟨_,j,l⟩:=Tp h h.q i;have s:=h.t.a;rw[tJ o];simp only[Sa,Ce,j,l];obtain⟨r,p⟩:=KM h z.v S;have f:fa z.v S x.q x.t=x.t.a:=by
  have:(lo z.v S x.q x.t).k=lk z.v S x.q x.t:=rfl;unfold fa;rw[<-this,p];rcases b with b|⟨m,n⟩
  ·rw[ja b,ja ⋯]
  ·rw[ja (c:=x.t.w∈z.v.K/\z.v.L+z.v.e<x.t.y) ⟨HN.mpr m,n⟩];cases lj S x.t<;>exact ja ⋯
 have d:val z.e [rd z.v S x.q x.s0]=rc x:=by rw[iB,dH _$ ϐ rfl];rfl
 have g:val z.e [rd z.v S x.q x.s1]=rc x+x.t.a:=by rw[r,f,dH _$ ϓ ⟨_,rfl,by show 0<=x.t.a;omega⟩]
 match i with
 |0=>exact d
 |1=>
  show Mq z.e [[rd z.v S x.q x.s0,rd z.v S x.q x.s1]]=rc x;rw[WS,d,g,pa ⋯]
 |i+2=>rw[ja ⋯];exact g
end
structure Pa where
 e:Int
 (x y:Pt)
structure Pa.Ok(a:Pa):Prop where
 e:1<=a.e/\a.e<=9
 x:a.x.Ok
 y:a.y.Ok
 px:a.x.p=0
 py:a.y.p=1
 am:a.y.t.a<=a.x.t.a
 dy:a.e<a.y.t.y
 dx:a.y.t.y+a.e<=a.x.t.y
 mx:a.x.t.y<=60
section
variable{a:Pa}(h:a.Ok){z:Ks}{qq:Int}(eq:1 - a.y.q=qq)
include h eq
theorem UB(E:z.e=a.e)(C:(7:Int) ∉ z.K){i j}(b:j=0\/2<=i)(B:z.A=[(ac a.x a.x.q i,A5),(ac a.y qq j,A5)]):Wk z=rc a.x+pc a.y:=by
 have D:qq=0\/qq=1:=by have:=h.y.q;lia
 obtain⟨_,p,r⟩:=Tp h.x h.x.q i;obtain⟨_,s,u⟩:=Tp h.y D j;have F:=h.x.t.a;have G:=h.y.t.a;rw[tJ B];simp only[Sa,Ce,p,r,s,u];obtain⟨n,m⟩:=KM h.x z.v A5;obtain⟨o,l1⟩:=qK h.y z.v A5;have m:(lo z.v A5 a.x.q a.x.t).k = "hangs":=by
  rw[m,pa (by simp[lj]),pa λc=>C (by have:=HN.mp c.1;rwa [h.x.w]at this)]
 have l1:(lo z.v A5 (1 - a.y.q) a.y.t).k = "open":=l1;have f:fa z.v A5 a.x.q a.x.t=0:=by
  have:(lo z.v A5 a.x.q a.x.t).k=lk z.v A5 a.x.q a.x.t:=rfl;unfold fa;rw[<-this,m];exact pa ⋯
 rw[f]at n;rw[eq]at o l1;have g:val z.e [rd z.v A5 a.x.q a.x.s0,rd z.v A5 qq a.y.s0]=rc a.x+pc a.y:=by rw[iB,iB,nS _$ ϐ ⟨ϐ rfl,rfl⟩,<-eq];rfl
 have d:val z.e [rd z.v A5 a.x.q a.x.s1,rd z.v A5 qq a.y.s0]=rc a.x+pc a.y:=by
  rw[n,iB,nS _$ ϐ ⟨ϓ ⟨_,rfl,by show 0<=a.x.t.a;lia⟩,rfl⟩,<-eq];show rc a.x+0+pc a.y=_;lia
 have l:val z.e [rd z.v A5 a.x.q a.x.s1,rd z.v A5 qq a.y.s1]=rc a.x+pc a.y:=by
  rw[n,o,π z.e rfl rfl (h.x.w.trans h.y.w.symm) m l1 ⟨by show 0<=a.y.t.a;omega,h.am⟩ (by show a.y.t.y - 1+z.e<a.x.t.y;have:=h.dx;omega)];show rc a.x+0+(pc a.y - a.y.t.a)+a.y.t.a=_;omega
 match i,j,b with
 |0,0,_=>exact g
 |1,0,_=>
  show Mq z.e [[rd z.v A5 a.x.q a.x.s0,rd z.v A5 a.x.q a.x.s1],[rd z.v A5 qq a.y.s0]]=_;rw[P6,g,d,pa ⋯]
 |i+2,0,_=>exact d
 |i+2,1,_=>
  show Mq z.e [[rd z.v A5 a.x.q a.x.s1],[rd z.v A5 qq a.y.s0,rd z.v A5 qq a.y.s1]]=_;rw[C9,d,l,pa ⋯]
 |i+2,j+2,_=>exact l
 |0,j+1,b=>omega
 |1,j+1,b=>omega
theorem yyj{S R}(p:z.A=[(ac a.x a.x.q 2,S),(ac a.y qq 2,R)])(r:lj R a.y.t=E8)(g:lj S a.x.t=E8\/(7:Int)∈z.K/\z.L+z.e<a.x.t.y):Wk z=rc a.x+a.x.t.a+(pc a.y - a.y.t.a):=by
 have s:qq=0\/qq=1:=by have:=h.y.q;lia
 obtain⟨_,l,m⟩:=Tp h.x h.x.q 2;obtain⟨_,n,o⟩:=Tp h.y s 2;rw[tJ p];simp[Sa,Ce,l,m,n,o];obtain⟨j,b⟩:=KM h.x z.v S;obtain⟨i,l1⟩:=qK h.y z.v R;rw[ja r]at l1;have b:(lo z.v S a.x.q a.x.t).k = "won"\/(lo z.v S a.x.q a.x.t).k = "sure":=by
  rw[b];rcases g with g|⟨c,d⟩
  ·rw[ja g];exact ϐ rfl
  ·rw[ja (c:=a.x.t.w∈z.v.K/\z.v.L+z.v.e<a.x.t.y) ⟨HN.mpr (by rw[h.x.w];exact c),d⟩];cases lj S a.x.t
   ·exact ϓ rfl
   ·exact ϐ rfl
 have f:fa z.v S a.x.q a.x.t=a.x.t.a:=by
  have e:(lo z.v S a.x.q a.x.t).k=lk z.v S a.x.q a.x.t:=rfl;unfold fa;rw[<-e];rcases b with b|b<;>rw[b]<;>exact ja ⋯
 rw[f]at j;rw[eq]at i l1;show Mq z.e [[rd z.v S a.x.q a.x.s1],[rd z.v R qq a.y.s1]]=_;rw[ζ,j,i,ú z.e rfl rfl (h.x.w.trans h.y.w.symm) (ϓ b)$ ϐ l1]
end
noncomputable def bs:Nat->Nat
 |0=>10
 |1=>18
 |_=>27
def dD i:10<=bs i/\bs i+6<HB:=by
 unfold bs HB;split<;>lia
def Ő{i j}(a:i<3)(b:j<3)(h:i≠j):bs i+6<bs j\/bs j+6<bs i:=by
 have a:i=0\/i=1\/i=2:=by lia
 have b:j=0\/j=1\/j=2:=by lia
 rcases a with rfl|rfl|rfl<;>rcases b with rfl|rfl|rfl<;>first|exact absurd rfl h|decide
noncomputable def Cd(l r u v w:Int):D:=ϑ [U l,U r,U u,U v,U w]
noncomputable def pD(x:Pt)(k:Int):D:=if x.q=0 then Cd (k+1) k x.u x.v 50 else Cd k (k+1) x.u x.v 50
noncomputable def PL(a:Pa):D:=ύ [pD a.x 0,pD a.y 1]
noncomputable def MT(a:Pa):List$ Str × D:=[("public",O 2),("pots",PL a),("every",U a.e),("keepers",O 7),("under_way",O 8),("things",O 9)]
noncomputable def HI(a:Pa)(N:Int):List$ Str × D:=[("pots",PL a),("day",U N),("claims",O 3),("shown",O 4)]
noncomputable def jI(x:Pt):D:=Ϸ 6 ["whole"] [U$ x.u+x.v]
noncomputable def k3:Kv:=[(.inl 0,O 10),(.inl 1,O 18),(.inl 2,O 27)]
structure Bk(a:Pa)(N:Int)(A B:Option Int)(σ:Ea):Prop where
 h2:σ[2]?=BD (ϔ 9 (HI a N))
 h3:σ[3]?=BD (Ϗ [jI a.x,jI a.y])
 h4:σ[4]?=BD (Ϗ [O 5,O 6])
 h5:σ[5]?=BD (ώ (sK A))
 h6:σ[6]?=BD (ώ (sK B))
structure Hl(a:Pa)(fz:Bool)(rd:lv)(σ:Ea):Prop where
 h0:σ[1]?=BD (ϔ 16 (MT a))
 hk:σ[7]?=BD (if fz then ϣ k3 else ώ k3)
 hu:σ[8]?=BD (Ϗ rd)
def eI(b:Nat)(c a:Ea):Prop:=∀ r o,(r<b\/b+6<r)->r≠5->r≠6->c[r]?=BD o->a[r]?=BD o
def Fr.l{b}{c a}(f:Fr b c a):eI b c a:=λr o h d d e=>f r o h e
def ri.keep{b c}{z y}{p t}(h:ri c y p)(j:ri b z p)(L:b+6<c\/c+6<b)(M:6<c)(f:eI b p t)(E:∃ w,p[5]?=BD (ώ w))(F:∃ w,p[6]?=BD (ώ w)):ri c y t:=by
 obtain⟨k,h,e⟩:=h;obtain⟨k0,j,_⟩:=j;have K:=h.hb;have G:=j.hb;have g:∀ {i:Nat} {o:Ob},i<=6->p[c+i]?=BD o->t[c+i]?=BD o:=λN=>f _ _ ⋯ ⋯ ⋯;refine⟨k,⟨⟨g (i:=0) ⋯ h.v.h0,g ⋯ h.v.h1,g ⋯ h.v.h3,g ⋯ h.v.h4,h.v.d,h.v.c⟩,g ⋯ h.h2,g ⋯ h.h5,g ⋯ h.h6,λx ό=>?_,h.hb,h.n,h.z,h.o,h.q⟩,e⟩;obtain⟨i,o,s⟩:=h.a x ό;have m:∀ {r:Nat} {ob:Ob},p[r]?=BD ob->isA ob=J8->x.r≠r:=λI H e=>i.ne o I H e.symm;obtain⟨_,C⟩:=E;obtain⟨_,D⟩:=F;refine⟨f _ _ ?_ (m C rfl) (m D rfl) i,o,s.imp id λ⟨q,A,u,B⟩=>⟨q,A,u,f _ _ ⋯ (by unfold HB at u;lia) (by unfold HB at u;lia) B⟩⟩;by_cases l:x.r<b
 ·exact ϐ l
 ·by_cases r:b+6<x.r
  ·exact ϓ r
  ·exfalso
   rcases(show x.r=b\/x.r=b+1\/x.r=b+2\/x.r=b+3\/x.r=b+4\/x.r=b+5\/x.r=b+6 by lia)with e|e|e|e|e|e|e
   ·exact m j.v.h0 rfl e
   ·exact m j.v.h1 rfl e
   ·exact m j.h2 rfl e
   ·exact m j.v.h3 rfl e
   ·exact m j.v.h4 rfl e
   ·exact m j.h5 rfl e
   ·exact m j.h6 rfl e
def ri.low{b r}{z}{f}(h:ri b z f)(j:10<=b)(l:r<10){o}(i:f[r]?=BD o)(g:isA o=J8) x:ri b z$ f.set r x:=by
 obtain⟨k,h,e⟩:=h;exact⟨k,⟨⟨yd ⋯ h.v.h0,yd ⋯ h.v.h1,yd ⋯ h.v.h3,yd ⋯ h.v.h4,h.v.d,h.v.c⟩,yd ⋯ h.h2,yd ⋯ h.h5,yd ⋯ h.h6,h.a.set i g (ϐ$ by unfold HB;lia) _,h.hb,h.n,h.z,h.o,h.q⟩,e⟩
structure Ha(a:Pa)(N:Int)(A B:Option Int)(fz:Bool)(rd:lv)(Z:Nat->Ks)(σ:Ea):Prop where
 H:Hl a fz rd σ
 B:Bk a N A B σ
 k:∀ i,i<3->ri (bs i) (Z i) σ
noncomputable def Fn(Z:Nat->Ks)(i:Nat)(z:Ks):Nat->Ks:=λj=>if j=i then z else Z j
def Lj{b}{n c}{a}(h:b[n]?=BD (ϔ c a)):Sj b (O n)=BD (c,a):=by unfold Sj;simp[h]
def eu{a:Ea}{n}{o x}(h:a[n]?=BD o):(a.set n x)[n]?=BD x:=by
 have:=(ba.mp h).1
 simp_all
def nP{a}{r}{xs}(c:a[r]?=BD (Ϗ xs)) o b:yu o b (O r) a=(b a).bind (o$ O r):=CC (xs:=xs) (by unfold jf We;simp[c])
def kg{a}{n}{o}(h:a[n]?=BD o):Yf a (J (O n) a)=J (O n) a:=by
 unfold Yf;dsimp only;rw[ja ⋯];have:fz a.length a 6 (O n)=BD (O n):=by
  unfold fz;dsimp only;rw[ja$ (ba.mp h).1]
  simp_all
 rw[this]
def CH{a}{n}{xs}(h:a[n]?=BD (Ϗ xs)):Ui a (O n)=BD xs:=by unfold Ui;simp[jf,We,h]
def Į{a}{n}{xs}(h:a[n]?=BD (Ϗ xs)){k}{d}(e:Ep xs k=BD d):Kb (O n) (U k) a=J d a:=by simp[Kb,CH h,e]
def OU{b c}{k a}{m}(h:(ji b k).lookup m=A5):(ji c a).lookup m=A5:=by
 unfold ji at h ⊢
 simp_all
def ri.Vi{b}{z}{d}(h:ri b z d){m} n a c(f:(ji 0 ⟨0,0,0,[],[],[],Ϝ⟩).lookup m=A5):Kj [(15,a)] n m c (O b) d=(c d).bind (Fi n a$ O b):=by
 obtain⟨k,h,e⟩:=h;exact oq h.v n a c$ OU f
def ri.at{b}{z}{a}(h:ri b z a):∃ o,a[b]?=BD o:=by
 obtain⟨k,h,_⟩:=h;exact⟨_,h.v.h0⟩
section
variable{a:Pa}{N:Int}{A B:Option Int}{fz:Bool}{rd:lv}{Z:Nat->Ks}{σ:Ea}
set_option tactic.hygienic true in
def Ha.KG(S:Ha a N A B fz rd Z σ){i}(h:i<3){d g}{c}{z}(s:ri (bs i) z c)(f:eI (bs i) σ c)(b:Bk a N d g c):Ha a N d g fz rd (Fn Z i z) c:=by
 obtain⟨m,n⟩:=dD i;refine⟨⟨f _ _ ⋯ ⋯ ⋯ S.H.h0,f _ _ ⋯ ⋯ ⋯ S.H.hk,f _ _ ⋯ ⋯ ⋯ S.H.hu⟩,b,λj l=>?_⟩;unfold Fn;split
 ·next e=>rw[e];exact s
 ·next e=>exact(S.k j l).keep (S.k i h) (Ő h l λx=>e x.symm) (by have:=(dD j).1;lia) f ⟨_,S.B.h5⟩ ⟨_,S.B.h6⟩
def Ha.ef(S:Ha a N A B fz rd Z σ){i}(c:i<3){f}{R}{z}(E:Ef (bs i) σ f R z):∃ b,f σ=J R b/\Ha a N A B fz rd (Fn Z i z) b:=by
 obtain⟨b,e,s,fr⟩:=E;have h:=(dD i).1;have g:∀ {j:Nat} {o:Ob},j<=6->σ[j]?=BD o->b[j]?=BD o:=λd=>fr _ _$ ϐ ⋯;exact⟨b,e,S.KG c s fr.l ⟨g ⋯ S.B.h2,g ⋯ S.B.h3,g ⋯ S.B.h4,g ⋯ S.B.h5,g ⋯ S.B.h6⟩⟩
def Ha.app(S:Ha a N A B fz rd Z σ) j:Ha a N A B fz rd Z$ σ++j:=⟨⟨Cg S.H.h0,Cg S.H.hk,Cg S.H.hu⟩,⟨Cg S.B.h2,Cg S.B.h3,Cg S.B.h4,Cg S.B.h5,Cg S.B.h6⟩,λi b=>(S.k i b).app j⟩
def Ha.way(S:Ha a N A B fz rd Z σ) b:Ha a N A B fz b Z$ σ.set 8$ Ϗ b:=⟨⟨yd ⋯ S.H.h0,yd ⋯ S.H.hk,eu S.H.hu⟩,⟨yd ⋯ S.B.h2,yd ⋯ S.B.h3,yd ⋯ S.B.h4,yd ⋯ S.B.h5,yd ⋯ S.B.h6⟩,λi c=>(S.k i c).low (dD i).1 ⋯ S.H.hu rfl _⟩
variable(S:Ha a N A B fz rd Z σ)
include S
theorem yeq:bc [9,14,16] "pots" (O 1) σ=J (PL a) σ:=kh (Lj S.H.h0) rfl rfl
theorem bJ:bc [16] "keepers" (O 1) σ=J (O 7) σ:=kh (Lj S.H.h0) rfl rfl
theorem TL:bc [16] "under_way" (O 1) σ=J (O 8) σ:=kh (Lj S.H.h0) rfl rfl
theorem IE:bc [16] "public" (O 1) σ=J (O 2) σ:=kh (Lj S.H.h0) rfl rfl
theorem HY:bc [14,15,16] "every" (O 1) σ=J (U a.e) σ:=kh (Lj S.H.h0) rfl rfl
theorem Gn{x} k b c(d:(MT a).lookup x=A5):Kj [(16,b)] k x c (O 1) σ=(c σ).bind (Fi k b$ O 1):=Lp (Lj S.H.h0) rfl d
omit S
theorem Bk.Vi(S:Bk a N A B σ){x} k b c(d:(HI a N).lookup x=A5):Kj [(9,b)] k x c (O 2) σ=(c σ).bind (Fi k b$ O 2):=Lp (Lj S.h2) rfl d
include S
theorem AT:ig σ (O 7)=BD k3:=by
 have:=S.H.hk;unfold ig;cases fz<;>simp[this]
theorem qY{i:Nat}(a:i<3):Hi (O 7) (U i) σ=J (O$ bs i) σ:=by
 unfold Hi;simp[tj,AT S]
 match i,a with
 |0,_=>rfl
 |1,_=>rfl
 |2,_=>rfl
theorem zY{i:Nat}(a:i<3):Pq (U i) (O 7) σ=J (ϒ E8) σ/\ot (U i) (O 7) σ=J (ϒ J8) σ:=by
 unfold Pq ot;simp only[tj,AT S]
 match i,a with
 |0,_=>exact⟨rfl,rfl⟩
 |1,_=>exact⟨rfl,rfl⟩
 |2,_=>exact⟨rfl,rfl⟩
theorem gF{i:Nat}(a:i<3):Vr [O 1,U i] σ=J (O$ bs i) σ:=by
 obtain⟨o,e⟩:=(S.k i a).at;unfold Vr eg;simp[(bJ S),((zY S a).2),(qY S a),(kg e)]
end
def Ll{f g}{a ρ'}{b σ'}{r}(h:f a b=J (Ϙ ρ') σ')(e:oo (g ρ' σ')=r):oo (lc f g a b)=r:=by rw[Pi,h,Ad,cj,e]
noncomputable def xp(a:Pa):Nat->Pt
 |0=>a.x
 |_=>a.y
def Jx{a}(h:a.Ok){p}(b:p<2):(xp a p).Ok/\(xp a p).p=p:=by
 match p,b with
 |0,_=>exact⟨h.x,h.px⟩
 |1,_=>exact⟨h.y,h.py⟩
noncomputable def Du(p i:Nat)(R:lv):lv:=R.map λY=>ϑ [U ((2 * p+1 - i:Nat):Int),Y]
def Hx{b}{z a}{c}{f}{R}(E:Ef b c f R z)(h:z=a):Ef b c f R a:=h ▸ E
section
variable{a:Pa}(h:a.Ok){N:Int}{A B:Option Int}{fz:Bool}{Z:Nat->Ks}{σ:Ea}
include h
theorem qQ{rd}(S:Ha a N A B fz rd Z σ)(z:rd.length<=5){p i:Nat}(o:p<2)(y:i=p\/i=p+1){R}(w:R=[]\/∃ Y,R=[Y]/\∀ σ,Kb Y (U 1) σ=J (U p) σ):lw [O 1,U i,ύ R] σ=J Ϝ (σ.set 8$ Ϗ$ rd++Du p i R):=by
 rcases w with rfl|⟨Y,rfl,s⟩
 ·unfold lw SN Du Hf;rw[Ce,ee,qE S.H.hu];simp
 ·have c:=yeq S;have n:=bJ S;have q:=TL S;have b:=(zY S (i:=2 * p+1 - i)$ by lia).1;have f:=pM (d:=ϑ [U ((2 * p+1 - i:Nat):Int),Y]) S.H.hu ⋯;have t:=λv=>nP S.H.hu Xj v;obtain⟨ok,_⟩:=Jx h o;have u:∀ σ,Kb (PL a) (U p) σ=J (pD (xp a p) p) σ:=λσ=>by
   unfold PL
   match p,o with
   |0,_=>exact WC$ Lr (j:=0) rfl
   |1,_=>exact WC$ Lr (j:=1) rfl
  obtain⟨l,r,m,x⟩:∃ l r:Nat,(∀ σ,Ey (pD (xp a p) p) A5 (BD 2) σ=J (ϑ [U l,U r]) σ)/\(l=p+1/\r=p\/l=p/\r=p+1):=by
   unfold pD;split
   ·exact⟨p+1,p,λσ=>by unfold Cd;rw[hG];rfl,ϐ ⟨rfl,rfl⟩⟩
   ·exact⟨p,p+1,λσ=>by unfold Cd;rw[hG];rfl,ϓ ⟨rfl,rfl⟩⟩
  have g:((l:Int) == (i:Int))=decide (l=i):=by
   by_cases e:l=i
   ·simp[e]
   ·rw[ub e];simp;lia
  show _=J Ϝ (σ.set 8$ Ϗ$ rd++[ϑ [U ((2 * p+1 - i:Nat):Int),Y]]);unfold lw SN Hf;dsimp only;generalize PL a=P,pD (xp a p) p=Q,σ.set 8 (Ϗ$ rd++[ϑ [U ((2 * p+1 - i:Nat):Int),Y]])=C at *;by_cases e:l=i
  ·have k:2 * p+1 - i=r:=by lia
   rw[k]at b f;rw[yc e]at g;simp[CM,s,c,n,q,u,m,b,t,f,g]
  ·have k:2 * p+1 - i=l:=by lia
   rw[k]at b f;rw[ub e]at g;simp[CM,s,c,n,q,u,m,b,t,f,g]
theorem LU{Z}(S:Ha a N A B fz [] Z σ){p:Nat}(f:p<2){X Y}(g:∀ σ,Kb Y (U 1) σ=J (U p) σ){z}(E:Ef (bs p) σ (sB [O$ bs p,X]) (ϑ [ϒ E8,ύ [Y]]) z):∃ d,nt [O 1,U p,X] σ=J (ϒ E8) d/\Ha a N A B fz [ϑ [U ((p+1:Nat):Int),Y]] (Fn Z p z) d:=by
 obtain⟨d,e,c⟩:=S.ef ⋯ E;have s:=qQ h c ⋯ f (ϐ rfl) (R:=[Y])$ ϓ ⟨Y,rfl,g⟩;rw[show []++Du p p [Y]=[ϑ [U _,Y]] by unfold Du;rw[show 2 * p+1 - p=p+1 by lia];rfl]at s;refine⟨_,?_,c.way _⟩;unfold nt Hf;simp[(λb=>Gn S (x:="keeper") 2 Vr b rfl),(gF S (i:=p)$ by lia),(λb=>(S.k p$ by lia).Vi (m:="wish") 2 sB b rfl),e,(λb=>Gn c (x:="send") 3 lw b rfl),s]
theorem C2{Z}{i p:Nat}(v:p<2)(t:i=p\/i=p+1){X}{R}(S:Ha a N A B fz [ϑ [U i,X]] Z σ){z}(E:∀ g,Ha a N A B fz [] Z g->Ef (bs i) g (eo [O$ bs i,X]) (ύ R) z)(s:R=[]\/∃ Y,R=[Y]/\∀ σ,Kb Y (U 1) σ=J (U p) σ):∃ g,Nd [O 1,U 0,ϒ J8] σ=J Ϝ g/\Ha a N A B fz (Du p i R) (Fn Z i z) g:=by
 have j:=S.H.hu;have n:=TL S;have w:Gq [O 8] σ=J (U 1) σ:=by unfold Gq;simp[CH j]
 have o:Ff [U 0,U 0,U 0] σ=J (ϒ E8) σ:=bt ⋯ σ;have q:wD [O 1,U 0] σ=J Ϝ σ:=by
  unfold wD eg;simp[n,w,o]
 have F:vC (O 8) [U 0] σ=J (ϑ [U i,X]) (σ.set 8$ Ϗ []):=by
  have:We σ 8=BD [ϑ [U i,X]]:=by unfold We;simp[j]
  unfold vC;simp[this]
 have c:=S.way [];obtain⟨g,e,l⟩:=c.ef (i:=i) ⋯ (E _ c);have C:=λb=>(c.k i$ by lia).Vi (m:="take") 2 eo b rfl;have G:=λb=>Gn l (x:="send") 3 lw b rfl;have y:=λb=>Gn c (x:="hand_over") 3 iD b rfl;refine⟨_,?_,l.way _⟩;generalize σ.set 8 (Ϗ [])=f at *;have u:iD [O 1,U i,X] f=J Ϝ (g.set 8$ Ϗ$ []++Du p i R):=by
  have r:∀ b,Kj [(16,lw)] 3 "send" b (O 1) f=(b f).bind (Fi 3 lw$ O 1):=λb=>Gn c (x:="send") 3 lw b rfl;unfold iD Hf;simp[(bJ c),(qY c (i:=i)$ by lia),C,e,r,(qQ h l ⋯ v t s)]
 unfold Nd ES;simp[n,q,(λb=>Gn S (x:="check_letter") 2 wD b rfl),(Į j (k:=0) (d:=ϑ [U i,X])$ show Ep _ ((0:Nat):Int)=_ from Lr rfl),(λb=>nP j vC b),F,y,u]
end
inductive Cv(a:Pa):Nat->(Nat->Ks)->lv->(Nat->Ks)->Prop where
 |nil {Z:Nat->Ks}:Cv a 0 Z [] Z
 |step {n i p:Nat} {X:D} {R:lv} {Z W:Nat->Ks} {z:Ks} (hX:cl X=E8) (hp:p<2) (hi:i=p\/i=p+1) (E:∀ τ,Ha a 0 A5 A5 J8 [] Z τ->Ef (bs i) τ (eo [O (bs i),X]) (ύ R) z) (hR:R=[]\/∃ Y,R=[Y]/\∀ σ,Kb Y (U 1) σ=J (U p) σ) (k:Cv a n (Fn Z i z) (Du p i R) W):Cv a (n+1) Z [ϑ [U i,X]] W
section
variable{a:Pa}(h:a.Ok)
def MK{rd}{Z}{b}(S:Ha a 0 A5 A5 J8 rd Z b)(c:Af rd=E8):ez [O 1] b=J (ύ rd) b:=by
 unfold ez eg;simp[(TL S),(oK (CH S.H.hu) c),c]
include h
theorem XN:∀ (m n k:Nat) (Z:Nat->Ks) (rd:lv) (W:Nat->Ks) (y:Option D) (σ:Ea),n<=m->Cv a n Z rd W->Ha a 0 A5 A5 J8 rd Z σ->∃ d c,vm (pd 1) yA ((List.range' k m).map λ(i:Nat)=>U i) [BD$ O 1,y] σ=J (Ϙ [BD$ O 1,d]) c/\Ha a 0 A5 A5 J8 [] W c
 |0,n,k,Z,rd,W,y,σ,A,C,S=>by
  obtain rfl:n=0:=by lia
  cases C;exact⟨y,σ,by rw[List.range'_zero,Ce,nz],S⟩
 |m+1,n,k,Z,rd,W,y,σ,A,C,S=>by
  have q:=λj=>Gn S (x:="road") 1 ez j rfl;rw[List.range'_succ,Sa,Qo];simp only[Za,jb];cases C with
  |nil=>
   have o:=MK S rfl;obtain⟨d,c,e,g⟩:=XN m 0 _ Z [] Z _ σ ⋯ .nil S;refine⟨d,c,?_,g⟩;have l:sj (ύ []) (ύ []) σ=J (ϒ J8) σ:=Gx rfl;have b:yA [BD$ O 1,BD$ U k] σ=J (Ϙ [BD$ O 1,BD$ U k]) σ:=by
    unfold yA;simp[o,q,l]
   rw[b,Ad,Yh,e]
  |@step n i p X R _ _ z v B w E u C=>
   have o:=MK S (by simp[Af,cl,v]);obtain⟨f,t,r⟩:=C2 h B w S E u;obtain⟨d,c,e,g⟩:=XN m n (k+1) _ _ W (BD$ U k) f ⋯ C r;refine⟨d,c,?_,g⟩;have l:sj (ύ [ϑ [U i,X]]) (ύ []) σ=J _ σ:=tE (b:=J8) rfl;have b:yA [BD$ O 1,BD$ U k] σ=J (Ϙ [BD$ O 1,BD$ U k]) f:=by
    generalize ύ [ϑ [U i,X]]=F at *;unfold yA;simp[o,q,l,(λj=>Gn S (x:="deliver") 2 (λs=>Nd$ s++[ϒ J8]) j rfl),t]
   rw[b,Ad,Yh,e]
theorem oR{n}(k:n<=12){Z W}{rd}{c}(C:Cv a n Z rd W)(S:Ha a 0 A5 A5 J8 rd Z c):∃ b,jc [O 1] c=J (ϒ E8) b/\Ha a 0 A5 A5 J8 [] W b:=by
 obtain⟨l,b,e,d⟩:=XN h 12 n 0 Z rd W A5 c k C S;refine⟨b,?_,d⟩;have f:wl _ (ύ []) b=J _ b:=mL rfl;have m:zt (U 12) c=J (.seq$ (List.range' 0 12).map λ(i:Nat)=>U i) c:=by rw[Qy ⋯ ⋯];rfl
 have g:Qk (Jo$ eC$ U 12) (pd 1) yA [BD$ O 1,A5] c=J (Ϙ [BD$ O 1,l]) b:=by
  simp_all
 unfold jc bW
 (try dsimp only);rw[Ur]
 exact Ll g (by simp[(MK d rfl),(λj=>Gn d (x:="road") 1 ez j rfl),f])
end
noncomputable abbrev Up:D:=.gt ["held"]
noncomputable def Z2(Z:Nat->Ks)(p:Nat)(u v:Ks):Nat->Ks:=Fn (Fn Z p u) (p+1) v
def pE{Z}{p}{u v z}:Fn (Z2 Z p u v) p z=Z2 Z p z v:=funext λj=>by
 unfold Z2 Fn;split;all_goals simp_all
theorem DJ{Z}{p}{u v z}:Fn (Z2 Z p u v) (p+1) z=Z2 Z p u z:=funext λj=>by
 unfold Z2 Fn;split<;>rfl
def Fw{Z}{p}{u v}:Z2 Z p u v p=u/\Z2 Z p u v (p+1)=v:=by
 unfold Z2 Fn
 simp_all
def SQ{Z}{p}{u v}(a:Z p=u)(b:Z (p+1)=v):Z2 Z p u v=Z:=funext λj=>by
 unfold Z2 Fn;split;all_goals simp_all
structure Fm(x:Pt)(al:Int)(P:Nat->Int->Kv->Ks)(R:Nat->Ks):Prop where
 pl:∀ i g Q,(P i g Q).L<x.t.y/\(P i g Q).c=Up/\(P i g Q).g=g/\(P i g Q).Q=Q/\∃ S',(ac x (1 - x.q) i,S')∈(P i g Q).A
 pu:∀ i j g Q,(P i g Q).up (ac x (1 - x.q) j)=P j g Q
 ps:∀ i g Q g' Q',({ P i g Q with g:=g',Q:=Q' }:Ks)=P i g' Q'
 p1:∀ g Q,Wk (P 1 g Q) ≥ Wk (P 0 g Q) - al
 p2:∀ g Q,Wk (P 2 g Q) ≥ Wk (P 1 g Q)
 rl:∀ i,(R i).L<x.t.y/\(R i).c=Up/\Cj (R i).Q (.inl x.p)=A5/\∃ S',(ac x x.q i,S')∈(R i).A
 ru:∀ i j,(R i).up (ac x x.q j)=R j
 r1:Wk (R 1) ≥ Wk (R 0)
 r2:Wk (R 2) ≥ Wk (R 1)
section
variable{a:Pa}(h:a.Ok){p:Nat}(hp:p<2){al:Int}{P:Nat->Int->Kv->Ks}{R:Nat->Ks}(F:Fm (xp a p) al P R){Z:Nat->Ks}
include h hp F
theorem ypu(b:(xp a p).q=0){u}{d}(S:Ha a 0 A5 A5 J8 [] (Z2 Z p u$ R 0) d):Ef (bs$ p+1) d (eo [O$ bs$ p+1,Pm p (xp a p).s1]) (ύ [li p 0 (xp a p).s1])$ R 1:=by
 obtain⟨ok,e⟩:=Jx h hp;obtain⟨l,c,_,m⟩:=F.rl 0;have E:=Ğ (Fw.2 ▸ S.k _ ⋯) ok l c (b ▸ m) (by rw[<-b,F.ru];exact F.r1);rw[e]at E;exact Hx E (by rw[<-b,F.ru])
theorem Ą(b:(xp a p).q=1){u}{g}(S:Ha a 0 A5 A5 J8 [] (Z2 Z p u$ R 0) g):Ef (bs$ p+1) g (eo [O$ bs$ p+1,li p 0 (xp a p).s1]) (ύ [Hn p (xp a p).s0 (xp a p).s1])$ R 1:=by
 obtain⟨ok,i⟩:=Jx h hp;obtain⟨l,c,f,m⟩:=F.rl 0;have E:=sV (d:=A5) (Fw.2 ▸ S.k _ ⋯) ok l c (b ▸ m) f (by rw[<-b,F.ru];have:=F.r1;simpa using this);rw[i]at E;exact Hx E (by
  have e:=F.ru 0 1;rw[b]at e;rw[<-e];simp[Ks.up])
theorem Y5(b:(xp a p).q=0){u}{d}(S:Ha a 0 A5 A5 J8 [] (Z2 Z p u$ R 1) d):Ef (bs$ p+1) d (eo [O$ bs$ p+1,Hn p (xp a p).s0 (xp a p).s1]) (ύ [Im p 0 0])$ R 2:=by
 obtain⟨ok,e⟩:=Jx h hp;obtain⟨l,c,_,m⟩:=F.rl 1;have E:=fR (Fw.2 ▸ S.k _ ⋯) ok l c (b ▸ m) (by rw[<-b,F.ru];exact F.r2);rw[e]at E;exact Hx E (by rw[<-b,F.ru])
theorem ypw(b:(xp a p).q=1){u}{d}(S:Ha a 0 A5 A5 J8 [] (Z2 Z p u$ R 1) d):Ef (bs$ p+1) d (eo [O$ bs$ p+1,Im p 0 0]) (ύ [])$ R 2:=by
 obtain⟨ok,e⟩:=Jx h hp;obtain⟨l,c,_,m⟩:=F.rl 1;have E:=kS (Fw.2 ▸ S.k _ ⋯) ok l c (b ▸ m) (by rw[<-b,F.ru];exact F.r2);rw[e]at E;exact Hx E (by rw[<-b,F.ru])
theorem yov(b:1 - (xp a p).q=1){v}{i}(S:Ha a 0 A5 A5 J8 [] (Z2 Z p (P 0 0 [(.inl p,um al (xp a p).s1)]) v) i):Ef (bs p) i (eo [O$ bs p,li p 0 (xp a p).s1]) (ύ [Hn p (xp a p).s0 (xp a p).s1])$ P 1 al []:=by
 obtain⟨ok,f⟩:=Jx h hp;obtain⟨l,c,g,q,m⟩:=F.pl 0 0 [(.inl p,um al (xp a p).s1)];have E:=sV (d:=BD al) (Fw (Z:=Z).1 ▸ S.k p ⋯) ok l c (b ▸ m) (by rw[q,f];simp[Cj]) (by rw[<-b,F.pu];exact F.p1 ..);rw[f]at E;refine Hx E ?_;have e:=F.pu 0 1 0 [(.inl p,um al (xp a p).s1)];rw[b]at e;rw[e,g,q,<-F.ps 1 0 [(.inl p,um al (xp a p).s1)] al []];simp[uv]
theorem Ō(b:1 - (xp a p).q=0){v}{d}(S:Ha a 0 A5 A5 J8 [] (Z2 Z p (P 1 al []) v) d):Ef (bs p) d (eo [O$ bs p,Hn p (xp a p).s0 (xp a p).s1]) (ύ [Im p 0 0])$ P 2 al []:=by
 obtain⟨ok,e⟩:=Jx h hp;obtain⟨l,c,_,_,m⟩:=F.pl 1 al [];have E:=fR (Fw.1 ▸ S.k p ⋯) ok l c (b ▸ m) (by rw[<-b,F.pu];exact F.p2 ..);rw[e]at E;exact Hx E (by rw[<-b,F.pu])
theorem t6(b:1 - (xp a p).q=1){v}{d}(S:Ha a 0 A5 A5 J8 [] (Z2 Z p (P 1 al []) v) d):Ef (bs p) d (eo [O$ bs p,Im p 0 0]) (ύ [])$ P 2 al []:=by
 obtain⟨ok,e⟩:=Jx h hp;obtain⟨l,c,_,_,m⟩:=F.pl 1 al [];have E:=kS (Fw.1 ▸ S.k p ⋯) ok l c (b ▸ m) (by rw[<-b,F.pu];exact F.p2 ..);rw[e]at E;exact Hx E (by rw[<-b,F.pu])
end
theorem ZN p Y:Du p (p+1) [Y]=[ϑ [U p,Y]]:=by
 unfold Du;rw[show 2 * p+1 - (p+1)=p by lia];rfl
theorem AX p Y:Du p p [Y]=[ϑ [U ((p+1:Nat):Int),Y]]:=by
 unfold Du;rw[show 2 * p+1 - p=p+1 by lia];rfl
def ĩ p s a:Kb (Pm p s) (U 1) a=J (U p) a:=by unfold Pm;simp
def D5(z:Ks)(a:z.g=0) X:({ z with Q:=X }:Ks)={ z with g:=0,Q:=X }:=by cases z;simp_all
def Ο(z:Ks)(a:z.Q=[]) g:({ z with g:=g }:Ks)={ z with g:=g,Q:=[] }:=by cases z;simp_all
def TR{a}(h:a.Ok){p}(b:p<2){py}{P}{R}(F:Fm (xp a p) (al (xp a p) py) P R){Z}{n}(S:Ha a 0 A5 A5 J8 [] (Z2 Z p (P 0 0 [])$ R 0) n):∃ d f,nt [O 1,U p,Mj (xp a p) py] n=J (ϒ E8) d/\jc [O 1] d=J (ϒ E8) f/\Ha a 0 A5 A5 J8 [] (Z2 Z p (P 2 (al (xp a p) py) [])$ R 2) f:=by
 obtain⟨ok,ep⟩:=Jx h b;obtain⟨l,c,t,u,m⟩:=F.pl 0 0 [];have W:=fun {v:Int} (e:1 - (xp a p).q=v)=>ò (Fw (Z:=Z).1 ▸ S.k p ⋯) ok l c (by rw[u];simp) py e (e ▸ m) (by rw[<-e,F.pu];exact F.p1 ..);rcases ok.q with i|i
 ·have g:1 - (xp a p).q=1:=by lia
  have E:=W g;have s:ZC (P 0 0 []) (xp a p) py=P 0 0 [(.inl p,um (al (xp a p) py) (xp a p).s1)]:=by
   unfold ZC;rw[pa ⋯,u,ep,<-F.ps 0 0 [] 0 [(.inl p,um _ (xp a p).s1)]];exact D5 _ t _
  obtain⟨d,e,j⟩:=LU h S b (Y:=Pm p (xp a p).s1) (λn=>ĩ ..) (by have:=Hx E s;unfold lt at this;rw[ep]at this;exact this);rw[pE]at j;have C:Cv a 4 (Z2 Z p (P 0 0 [(.inl p,um (al (xp a p) py) (xp a p).s1)])$ R 0) [ϑ [U ((p+1:Nat):Int),Pm p (xp a p).s1]]$ Z2 Z p (P 2 (al (xp a p) py) [])$ R 2:=by
   refine .step (R:=[li p 0 (xp a p).s1]) (ybb _ _) b (ϓ rfl) (λd T=>ypu h b F i T) (ϓ ⟨_,rfl,JG _ _ _⟩) ?_;rw[DJ,ZN];refine .step (R:=[Hn p (xp a p).s0 (xp a p).s1]) (YQ _ _ _) b (ϐ rfl) (λd T=>yov h b F g T) (ϓ ⟨_,rfl,cJ _ _ _⟩) ?_;rw[pE,AX];refine .step (R:=[Im p 0 0]) (LS _ _ _) b (ϓ rfl) (λd T=>Y5 h b F i T) (ϓ ⟨_,rfl,hH _ _ _⟩) ?_;rw[DJ,ZN];refine .step (R:=[]) (RV _ _ _) b (ϐ rfl) (λd T=>t6 h b F g T) (ϐ rfl) ?_;rw[pE];exact .nil
  obtain⟨f,r,o⟩:=oR h ⋯ C j;exact⟨d,f,e,r,o⟩
 ·have g:1 - (xp a p).q=0:=by omega
  have E:=W g;have s:ZC (P 0 0 []) (xp a p) py=P 1 (al (xp a p) py) []:=by
   unfold ZC;rw[ja i,t,br];have:=F.pu 0 1 0 [];rw[g]at this;rw[this,<-F.ps 1 0 [] (al (xp a p) py) []];exact Ο _ (F.pl 1 0 []).2.2.2.1 _
  obtain⟨d,e,j⟩:=LU h S b (Y:=li p 0 (xp a p).s1) (λn=>JG ..) (by have:=Hx E s;unfold lt at this;rw[ep]at this;exact this);rw[pE]at j;have C:Cv a 3 (Z2 Z p (P 1 (al (xp a p) py) [])$ R 0) [ϑ [U ((p+1:Nat):Int),li p 0 (xp a p).s1]]$ Z2 Z p (P 2 (al (xp a p) py) [])$ R 2:=by
   refine .step (R:=[Hn p (xp a p).s0 (xp a p).s1]) (YQ _ _ _) b (ϓ rfl) (λd T=>Ą h b F i T) (ϓ ⟨_,rfl,cJ _ _ _⟩) ?_;rw[DJ,ZN];refine .step (R:=[Im p 0 0]) (LS _ _ _) b (ϐ rfl) (λd T=>Ō h b F g T) (ϓ ⟨_,rfl,hH _ _ _⟩) ?_;rw[pE,AX];refine .step (R:=[]) (RV _ _ _) b (ϓ rfl) (λd T=>ypw h b F i T) (ϐ rfl) ?_;rw[DJ];exact .nil
  obtain⟨f,r,o⟩:=oR h ⋯ C j;exact⟨d,f,e,r,o⟩
def Gu(a:Pa)(i:Nat)(g:Int)(Q:Kv):Ks:=⟨a.e,0,g,[],[(ac a.x (1 - a.x.q) i,A5)],Q,Up⟩
def ko(a:Pa)(i j:Nat)(g:Int)(Q:Kv):Ks:=⟨a.e,0,g,[],[(ac a.x a.x.q i,A5),(ac a.y (1 - a.y.q) j,A5)],Q,Up⟩
def Kx(a:Pa)(j:Nat):Ks:=⟨a.e,0,0,[7],[(ac a.y a.y.q j,A5)],[],Up⟩
section
variable{a:Pa}(h:a.Ok)
include h
theorem jC{x}(a:x.Ok) i:(ac x (1 - x.q) i).p=x.p/\(ac x x.q i).p=x.p:=⟨(Tp a (by have:=a.q;lia) i).1,(Tp a a.q i).1⟩
theorem Q6:Fm a.x (al a.x E8) (Gu a) (λi=>ko a i 0 0 []):=by
 have b:=λi=>jC h h.x i;have f:=h.dy;have d:=h.dx;have e:=h.e;have c:∀ i j,cx [(ac a.x a.x.q i,A5),(ac a.y (1 - a.y.q) 0,A5)] (ac a.x a.x.q j)=[(ac a.x a.x.q j,A5),(ac a.y (1 - a.y.q) 0,A5)]:=λi j=>by
  unfold cx;simp[(b i).2,(b j).2,((λi=>jC h h.y i) 0).1,h.px,h.py]
 refine⟨λi g Q=>⟨by show 0<a.x.t.y;lia,rfl,rfl,rfl,A5,Wa.mpr rfl⟩,λi j g Q=>?_,λk k k k k=>rfl,λg Q=>?_,λg Q=>?_,λi=>⟨by show 0<a.x.t.y;lia,rfl,rfl,A5,ua⟩,λi j=>?_,?_,?_⟩
 ·unfold Ks.up cx Gu;simp[(b i).1,(b j).1]
 ·rw[xF h.x rfl (show (Gu a 1 g Q).A=[(_,A5)]from rfl),xF h.x rfl (show (Gu a 0 g Q).A=[(_,A5)]from rfl)];simp[al]
 ·rw[xF h.x rfl (show (Gu a 2 g Q).A=[(_,A5)]from rfl),xF h.x rfl (show (Gu a 1 g Q).A=[(_,A5)]from rfl)];simp
 ·unfold Ks.up ko;dsimp only;rw[c]
 ·rw[UB h rfl rfl (by simp[ko]) (ϐ rfl) (show (ko a 1 0 0 []).A=_ from rfl),UB h rfl rfl (by simp[ko]) (ϐ rfl) (show (ko a 0 0 0 []).A=_ from rfl)]
  simp_all
 ·rw[UB h rfl rfl (by simp[ko]) (ϐ rfl) (show (ko a 2 0 0 []).A=_ from rfl),UB h rfl rfl (by simp[ko]) (ϐ rfl) (show (ko a 1 0 0 []).A=_ from rfl)]
  simp_all
theorem y9:Fm a.y (al a.y J8) (ko a 2)$ Kx a:=by
 have k:=λi=>jC h h.x i;have b:=λi=>jC h h.y i;have m:=h.py;have l:=h.px;have o:=h.dy;have n:=h.dx;have e:=h.e;have p:=h.y.t.a;have c:=λ(j:Nat) g Q=>UB h rfl rfl (by simp[ko]) (ϓ$ va _) (show (ko a 2 j g Q).A=_ from rfl);have d:=λj=>yX h.y (show (Kx a j).A=[(_,A5)]from rfl)$ ϓ ⟨by rw[h.y.w];simp[Kx],by show 0+a.e<a.y.t.y;lia⟩;have f:∀ i j,cx [(ac a.x a.x.q 2,A5),(ac a.y (1 - a.y.q) i,A5)] (ac a.y (1 - a.y.q) j)=[(ac a.x a.x.q 2,A5),(ac a.y (1 - a.y.q) j,A5)]:=λi j=>by
  unfold cx;simp[(k 2).2,(b i).1,(b j).1,l,m]
 refine⟨λi g Q=>⟨by show 0<a.y.t.y;lia,rfl,rfl,rfl,A5,ra _ ua⟩,λi j g Q=>?_,λr r r r r=>rfl,λg Q=>?_,λg Q=>?_,λi=>⟨by show 0<a.y.t.y;lia,rfl,rfl,A5,Wa.mpr rfl⟩,λi j=>?_,?_,?_⟩
 ·unfold Ks.up ko;dsimp only;rw[f]
 ·rw[c,c];simp[al]
 ·rw[c,c];exact Gm _
 ·unfold Ks.up cx Kx;simp[(b i).2,(b j).2]
 ·rw[d,d];simp
 ·rw[d,d];simp;omega
end
def YH{a}{n}{xs}{i:Nat}{d}(h:a[n]?=BD (Ϗ xs))(b:xs[i]?=BD d):Kb (O n) (U i) a=J d a:=by
 have l:We a n=BD xs:=by unfold We;rw[h]
 simp[Kb,Ui,l,Lr b]
def oF{a}{n}{A}(h:a[n]?=BD (ώ A)):ig a (O n)=BD A:=by unfold ig;simp[h]
theorem VW{b}{a}{n k i}{e ρ1}{c}{xs}{d}(h:We c n=BD xs)(f:xs[i]?=BD d)(g:b d e=BD ρ1):Yq b a n (k+1) i e c=(a ρ1 c).bind (fw$ Yq b a n k$ i+1):=by
 rw[Yq];simp only[h,f,g];rfl
def ę{e}{a}{n k i}{c}{b}{xs}(h:We b n=BD xs)(d:xs[i]?=A5):Yq e a n (k+1) i c b=J (Ϙ c) b:=by
 rw[Yq];simp[h,d]
def yM b a:ig (b++[ώ a]) (O b.length)=BD a:=by unfold ig;simp
def WU{c}{kvs b}{j}(e:c[j]?=BD (ώ b))(h:kvs.length+b.length<=1000):DA (O c.length) [O j] (c++[ώ kvs])=J Ϝ (c++[ώ$ Sx kvs b]):=by
 have d:=(ba.mp e).1;have f:(c++[ώ kvs])[c.length]?=BD (ώ kvs):=by simp
 have g:ig (c++[ώ kvs]) (O j)=BD b:=by unfold ig;dsimp only;rw[ib d,e]
 unfold DA;simp only[f,g];have a:(apart c.length (O j) && decide (kvs.length+b.length<=Og))=E8:=by
  unfold apart;simp only[Fa,Rb];exact⟨by simp;lia,h⟩
 rw[ja a,az]
def zzl{σ}{x}{a}{vs}(d:jf σ x=A5)(b:ig σ x=BD a)(c:jx a=BD vs)(e:vs.length<64):Yf σ (xx [x] σ)=J (ύ$ (Op vs).map U) σ:=by
 have o:xx [x] σ=J (O σ.length) (σ++[Ϗ$ (Op vs).map U]):=by
  unfold xx;simp[d];unfold iE;simp[b,c];rw[ja e];rfl
 rw[o];exact Fz ⋯
section
variable{a:Pa}{N:Int}{A B:Option Int}{σ:Ea}(S:Bk a N A B σ)
include S
theorem Bk.app j:Bk a N A B$ σ++j:=⟨Cg S.h2,Cg S.h3,Cg S.h4,Cg S.h5,Cg S.h6⟩
theorem Bk.set{r}(b:6<r) o:Bk a N A B$ σ.set r o:=⟨yd ⋯ S.h2,yd ⋯ S.h3,yd ⋯ S.h4,yd ⋯ S.h5,yd ⋯ S.h6⟩
theorem OE:Qs [O 2] σ=J (U N) σ:=by
 have d:bc [7,9] "day" (O 2) σ=J _ σ:=kh (Lj S.h2) rfl rfl;unfold Qs eg;simp[d]
theorem ZM{p:Nat}(e:p<2):jB [O 2,U p] σ=J Ϝ σ:=by
 have d:bc [9,14,16] "pots" (O 2) σ=J _ σ:=kh (Lj S.h2) rfl rfl;have c:Gq [PL a] σ=J (U 2) σ:=by unfold PL;simp
 unfold jB eg;dsimp only;simp[d,c,(bt (i:=p) (a:=0) (b:=1) ⋯ σ)]
noncomputable def Ng:D:=ϑ [ϙ "held"]
theorem P3{p:Nat}(d:p<2):LC [O 2,U p] σ=J Ng σ:=by
 have c:bc [9,15] "claims" (O 2) σ=J _ σ:=kh (Lj S.h2) rfl rfl;obtain⟨x,f⟩:∃ x:Pt,Kb _ (U p) σ=J _ σ:=by
  match p,d with
  |0,_=>exact⟨a.x,YH S.h3 rfl⟩
  |1,_=>exact⟨a.y,YH S.h3 rfl⟩
 have g:∀ b,Kj [(6,OC)] 1 "told" b _ σ=(b σ).bind (Fi 1 OC$ jI x):=λb=>Lp (LD rfl) rfl rfl;have h:∀ x σ,OC [x] σ=J Ng σ:=λx σ=>by unfold OC Ng eg;dsimp only;simp
 have e:cl Ng=E8:=rfl;unfold LC eg;dsimp only;simp[(ZM S d),(λb=>S.Vi (x:="check_pot") 2 jB b rfl),c,f,g,h,e]
end
noncomputable def sP(A B:Option Int)(p:Nat):Option Int:=if p=0 then A else B
section
variable{a:Pa}{N:Int}{A B:Option Int}{σ:Ea}(S:Bk a N A B σ)
include S
theorem qN{p:Nat}(a:p<2):Kb (O 4) (U p) σ=J (O$ 5+p) σ/\σ[5+p]?=BD (ώ$ sK$ sP A B p):=by
 match p,a with
 |0,_=>exact⟨YH S.h4 rfl,S.h5⟩
 |1,_=>exact⟨YH S.h4 rfl,S.h6⟩
theorem YY{p:Nat}(a:p<2):Zy [O 2,U p] σ=J (O σ.length) (σ++[ώ$ sK$ sP A B p]):=by
 have f:bc [9] "shown" (O 2) σ=J _ σ:=kh (Lj S.h2) rfl rfl;obtain⟨c,d⟩:=qN S a;have b:oC [O$ 5+p] σ=J (O σ.length) (σ++[ώ$ sK$ sP A B p]):=by
  unfold oC;simp[oF d]
 unfold Zy Hf;simp[(ZM S a),(λe=>S.Vi (x:="check_pot") 2 jB e rfl),f,c,b]
theorem N5{p}(c:p<2)(j:sP A B p=A5):JC [O 2,U p,U 7] σ=J Ϝ (σ.set (5+p)$ ώ$ sK$ BD N)/\Bk a N (if p=0 then BD N else A) (if p=0 then B else BD N) (σ.set (5+p)$ ώ$ sK$ BD N):=by
 have f:=ZM S c;have l:bc [9] "shown" (O 2) σ=J (O 4) σ:=kh (Lj S.h2) rfl rfl;have d:bc [7,9] "day" (O 2) σ=J (U N) σ:=kh (Lj S.h2) rfl rfl;obtain⟨h,b⟩:=qN S c;rw[j]at b;have n:=FY (s:=7) ⋯ σ;have k:ot (U 7) (O$ 5+p) σ=J (ϒ E8) σ:=by
  unfold ot;simp only[tj,oF b];rfl
 have m:∀ e,An e (U N) _ (U 7) σ=J (Ϙ e) (σ.set (5+p)$ ώ$ sK$ BD N):=λe=>jq b (by simp[sK]);refine⟨?_,?_⟩
 ·unfold JC Hf;simp[f,(λi=>S.Vi (x:="check_pot") 2 jB i rfl),l,d,h,n,k,m]
 ·have g:=eu (x:=ώ$ sK$ BD N) b;refine⟨yd ⋯ S.h2,yd ⋯ S.h3,yd ⋯ S.h4,?_,?_⟩
  ·match p,c with
   |0,_=>exact g
   |1,_=>exact yd ⋯ S.h5
  ·match p,c with
   |0,_=>exact yd ⋯ S.h6
   |1,_=>exact g
def mK:Option Int->Option Int->Kv
 |A,A5=>sK A
 |_,B=>sK B
noncomputable def kw(A B:Option Int):gV:=if A=A5/\B=A5 then []else [7]
theorem Ĳ:zC [O 2] σ=J (ύ$ (kw A B).map U) σ:=by
 have p:bc [9] "shown" (O 2) _=J (O 4) (σ++[ώ []]):=kh (Lj (S.app _).h2) rfl rfl;have m1:∀ a c,Yw DA c (O σ.length) (σ++[ώ a])=(c$ σ++[ώ a]).bind (DA$ O σ.length):=λa c=>by
  unfold Yw;rw[yM];rfl
 have o:Sx (sK A) (sK B)=mK A B:=by
  cases A<;>cases B<;>simp[sK,mK,Sx,Zi]
 have m0:Sx [] (sK A)=sK A:=by cases A<;>rfl
 have e:∀ A,(sK A).length<=1:=λA=>by cases A<;>simp[sK]
 have u5:=WU (kvs:=[]) S.h5 (by have:=e A;simp;lia);have u6:=WU (kvs:=sK A) S.h6 (by have:=e A;have:=e B;lia);rw[m0]at u5;rw[o]at u6;have f:jJ [BD$ O 2,BD$ O σ.length,BD$ O 5] (σ++[ώ []])=J (Ϙ [BD$ O 2,BD$ O σ.length,BD$ O 5]) (σ++[ώ$ sK A]):=by simp[m1,u5]
 have g:jJ [BD$ O 2,BD$ O σ.length,BD$ O 6] (σ++[ώ$ sK A])=J (Ϙ [BD$ O 2,BD$ O σ.length,BD$ O 6]) (σ++[ώ$ mK A B]):=by simp[m1,u6]
 have b:∀ a,We (σ++[ώ a]) 4=BD [O 5,O 6]:=λa=>by unfold We;rw[Cg S.h4]
 have m:Yq (pd 2) jJ 4 1001 0 [BD$ O 2,BD$ O σ.length,A5] (σ++[ώ []])=J (Ϙ [BD$ O 2,BD$ O σ.length,BD$ O 6]) (σ++[ώ$ mK A B]):=by
  rw[VW (k:=1000) (d:=O 5) (ρ1:=[BD$ O 2,BD$ O σ.length,BD$ O 5]) (b _) rfl rfl,f,Ad,Yh,VW (k:=999) (d:=O 6) (ρ1:=[BD$ O 2,BD$ O σ.length,BD$ O 6]) (b _) rfl rfl,g,Ad,Yh,ę (k:=998) (b _) rfl]
 have q:Wv (O 4) (σ++[ώ []])=J (.Ul 4) (σ++[ώ []]):=by unfold Wv;simp[b]
 have l:∀ (i:D->Ev->Option Ev) (body:Ev->M Fl) (j:Ev) (n:Nat),eG i body j (.Ul n)=Yq i body n 1001 0 j:=λr r r r=>rfl;have h:=zzl (σ:=σ++[ώ$ mK A B]) (x:=O σ.length) (by unfold jf We;simp) (yM σ _) (vs:=kw A B) (by cases A<;>cases B<;>rfl) (by unfold kw;split<;>simp);rw[show Op (kw A B)=kw A B by unfold kw;split<;>simp[Op]]at h;have fz:Yf σ (J (ύ$ (kw A B).map U)$ σ++[ώ$ mK A B])=J (ύ$ (kw A B).map U) σ:=HH (mF _) ⋯;unfold zC BR eg;dsimp only;generalize mK A B=M,(kw A B).map U=KK at *;simp[p,q,l,m,h,fz]
theorem P8:Yt [O 2] σ=J (PL a) σ:=by
 have d:bc [9,14,16] "pots" (O 2) σ=J _ σ:=kh (Lj S.h2) rfl rfl;have c:Af [pD a.x 0,pD a.y 1]=E8:=by unfold pD Cd;split<;>split<;>simp
 have b:=QC c σ;have e:cl (PL a)=E8:=c;have b:Yf σ (yq [PL a] σ)=J (PL a) σ:=b;unfold Yt eg;dsimp only
 simp_all
end
structure KL(b:Nat)(k:Kp)(o:Ob)(f g:Ka->D)(σ:Ea):Prop where
 h0:σ[b]?=BD (ϔ 15 (ji b k))
 h1:σ[b+1]?=BD (ώ (jl k.K))
 h2:σ[b+2]?=BD o
 h3:σ[b+3]?=BD (ώ (MV f k.as))
 h4:σ[b+4]?=BD (ώ (MV g k.as))
 h5:σ[b+5]?=BD (ώ k.Q)
 h6:σ[b+6]?=BD (ώ [])
 a:∀ x∈k.as,Qi σ x.r x.a/\x.a.Ok
 d:(k.as.map (·.a.p)).Nodup
 hb:10<=b/\b+6<HB
noncomputable def fq(f:Ka->D)(p:Int)(d:D):Ka->D:=λx=>if x.a.p=p then d else f x
def RQ{f}{as}{p} d(h:∃ x∈as,x.a.p=p):Zi (MV f as) (.inl p) d=MV (fq f p d) as:=by
 obtain⟨x,b,e⟩:=h;unfold Zi MV fq;rw[ja$ Sd.mpr ⟨_,Ja.mpr ⟨x,b,rfl⟩,by simp[e]⟩,Cb];refine ke λz c=>?_;by_cases e:z.a.p=p;all_goals simp_all
def ZV f a:(MV f a).length=a.length:=by unfold MV;simp
def z7{a}{n c}{b}(h:a[n]?=BD (ϔ c b)){cs}(i:cs.contains c=E8)(j:b.length<1000) g f d:Zw g cs f d (O n) a=J (Ϙ g) (a.set n$ ϔ c$ Tj f d b):=by
 have e:rz cs f d (O n) a=J () (a.set n$ ϔ c$ Tj f d b):=by
  unfold rz;simp only[h];rw[ja ⋯]
 unfold Zw;rw[e]
section
variable{b:Nat}{k:Kp}{o:Ob}{f g:Ka->D}{σ:Ea}(h:KL b k o f g σ)
include h
theorem KL.app j:KL b k o f g$ σ++j:=⟨Cg h.h0,Cg h.h1,Cg h.h2,Cg h.h3,Cg h.h4,Cg h.h5,Cg h.h6,λx c=>⟨(h.a x c).1.app j,(h.a x c).2⟩,h.d,h.hb⟩
theorem KL.ac{r}{c}(e:σ[r]?=BD c)(d:isA c=J8) z:∀ x∈k.as,Qi (σ.set r z) x.r x.a/\x.a.Ok:=λx b=>⟨yd ((h.a x b).1.ne (h.a x b).2 e d) (h.a x b).1,(h.a x b).2⟩
theorem KL.set{r}(i:r<b\/b+6<r){a}(e:σ[r]?=BD a)(c:isA a=J8) z:KL b k o f g$ σ.set r z:=⟨yd ⋯ h.h0,yd ⋯ h.h1,yd ⋯ h.h2,yd ⋯ h.h3,yd ⋯ h.h4,yd ⋯ h.h5,yd ⋯ h.h6,h.ac e c z,h.d,h.hb⟩
theorem KL.swap(c:isA o=J8) a:KL b k a f g$ σ.set (b+2) a:=⟨yd ⋯ h.h0,yd ⋯ h.h1,eu h.h2,yd ⋯ h.h3,yd ⋯ h.h4,yd ⋯ h.h5,yd ⋯ h.h6,h.ac h.h2 c _,h.d,h.hb⟩
theorem KL.Vi{m} n a c(d:(ji 0 ⟨0,0,0,[],[],[],Ϝ⟩).lookup m=A5):Kj [(15,a)] n m c (O b) σ=(c σ).bind (Fi n a$ O b):=Lp (Lj h.h0) rfl$ OU d
theorem j0:bc [15] "accounts" (O b) σ=J (O$ b+2) σ:=kh (Lj h.h0) rfl rfl
theorem rJ:bc [9,15] "claims" (O b) σ=J (O$ b+3) σ:=kh (Lj h.h0) rfl rfl
theorem WL:bc [15] "seen" (O b) σ=J (O$ b+4) σ:=kh (Lj h.h0) rfl rfl
theorem AU:bc [14,15] "last_look" (O b) σ=J (U k.L) σ:=kh (Lj h.h0) rfl rfl
theorem eO{x}(c:x∈k.as):Hi (O$ b+3) (U x.a.p) σ=J (f x) σ:=HA h.h3$ ZB f h.d x c
theorem GT{x}(c:x∈k.as):Hi (O$ b+4) (U x.a.p) σ=J (g x) σ:=HA h.h4$ ZB g h.d x c
theorem nM{a}{N}{A B}(v:Bk a N A B σ){x}(t:x∈k.as){p:Nat}(s:p<2)(q:x.a.p=p)(M:k.as.length<=3):∃ c,nL [BD$ O b,BD$ O 2,BD$ U p] σ=J (Ϙ [BD$ O b,BD$ O 2,BD$ U p]) c/\KL b k o (fq f p Ng) (fq g p$ O σ.length) c/\Bk a N A B c/\c.length=σ.length+1/\c[σ.length]?=BD (ώ$ sK$ sP A B p)/\Fr b σ c:=by
 have L:=h.hb;have I:=P3 v s;have G:=λm=>v.Vi (x:="told") 2 LC m rfl;have w:=rJ h;have s1:∀ l,An l Ng (O$ b+3) (U p) σ=J (Ϙ l) (σ.set (b+3)$ ώ$ MV (fq f p Ng) k.as):=λl=>by rw[jq h.h3 (by rw[ZV];lia),RQ _ ⟨x,t,q⟩]
 have E:KL b k o (fq f p Ng) g$ σ.set (b+3)$ ώ$ MV (fq f p Ng) k.as:=⟨yd ⋯ h.h0,yd ⋯ h.h1,yd ⋯ h.h2,eu h.h3,yd ⋯ h.h4,yd ⋯ h.h5,yd ⋯ h.h6,h.ac h.h3 rfl _,h.d,h.hb⟩
 have n:=v.set (r:=b+3) ⋯$ ώ$ MV (fq f p Ng) k.as;have l1:(σ.set (b+3)$ ώ$ MV (fq f p Ng) k.as).length=σ.length:=Fd;have z:Fr b σ$ σ.set (b+3)$ ώ$ MV (fq f p Ng) k.as:=.set σ ⋯ _;generalize σ.set (b+3) (ώ$ MV (fq f p Ng) k.as)=i at *;have u:=YY n s;have F:=λm=>n.Vi (x:="shown_for") 2 Zy m rfl;have e:=E.app [ώ$ sK$ sP A B p];have ό:=n.app [ώ$ sK$ sP A B p];have l2:(i++[ώ$ sK$ sP A B p]).length=σ.length+1:=by simp[l1]
 have D:(i++[ώ$ sK$ sP A B p])[σ.length]?=BD (ώ$ sK$ sP A B p):=by rw[<-l1];simp
 have C:=z.trans$ .app b i [ώ$ sK$ sP A B p];rw[l1]at u;generalize i++[ώ$ sK$ sP A B p]=j at *;have y:=WL e;have H:∀ l,An l (O σ.length) (O$ b+4) (U p) j=J (Ϙ l) (j.set (b+4)$ ώ$ MV (fq g p$ O σ.length) k.as):=λl=>by rw[jq e.h4 (by rw[ZV];lia),RQ _ ⟨x,t,q⟩]
 have bl:b+4<σ.length:=(ba.mp h.h4).1;refine⟨_,?_,⟨yd ⋯ e.h0,yd ⋯ e.h1,yd ⋯ e.h2,yd ⋯ e.h3,eu e.h4,yd ⋯ e.h5,yd ⋯ e.h6,e.ac e.h4 rfl _,h.d,h.hb⟩,ό.set ⋯ _,by rw[Fd,l2],yd ⋯ D,C.trans$ .set j ⋯ _⟩;generalize j.set (b+4) (ώ$ MV (fq g p$ O σ.length) k.as)=K at *;generalize Ng=TT at *;simp[I,G,w,s1,u,F,y,H]
end
inductive Rn(V:Ka->D)(tg:D->Ev->Option Ev)(body:Ev->M Fl):List Ka->Ev->Ea->Ev->Ea->Prop where
 |nil {ρ:Ev} {σ:Ea}:Rn V tg body [] ρ σ ρ σ
 |cons {x:Ka} {l:List Ka} {ρ ρ1 ρ2 ρ3:Ev} {σ σ2 σ3:Ea} (h1:tg (V x) ρ=BD ρ1) (h2:body ρ1 σ=J (Ϙ ρ2) σ2) (t:Rn V tg body l ρ2 σ2 ρ3 σ3):Rn V tg body (x::l) ρ σ ρ3 σ3
def gU{nx}{V}{h}{a}{b:List Ka}(q:∀ i x c,b[i]?=BD x->nx i c=BD (BD$ V x))(n:∀ c,nx b.length c=BD A5){l}{ρ d}{c e}(R:Rn V h a l ρ c d e):∀ i k,b.drop i=l->i<=b.length->l.length<k->mo nx h a k i ρ c=J (Ϙ d) e:=by
 induction R with
 |nil=>
  intro i k f o p;obtain rfl:i=b.length:=by have:=js.mp f;lia
  cases k with
  |zero=>simp_all
  |succ k=>exact OA$ n _
 |@cons x l _ _ _ _ _ _ _ j m _ r=>
  intro i k f o p;have g:b[i]?=BD x:=by have:=Eb (·[0]?) f;simpa using this
  cases k with
  |zero=>simp_all
  |succ k=>rw[Gs (q i x _ g) j,m,Ad,Yh,r _ k (by have:=Eb List.tail f;simpa using this) (ba.mp g).1 ⋯]
theorem xJ{V:Ka->D}{tg:D->Ev->Option Ev}{body:Ev->M Fl}{σ:Ea}(P:Ev->Prop):∀ (l:List Ka) (a:Ev),(∀ x∈l,∀ a,P a->∃ d c,tg (V x) a=BD d/\body d σ=J (Ϙ c) σ/\P c)->P a->∃ b,Rn V tg body l a σ b σ/\P b
 |[],a,_,e=>⟨a,.nil,e⟩
 |x::l,a,h,e=>by
  obtain⟨d,c,i,j,g⟩:=h x ua a e;obtain⟨b,R,f⟩:=xJ P l c (λy k=>h y$ ra _ k) g;exact⟨b,.cons i j R,f⟩
section
variable{b:Nat}{k:Kp}{f g:Ka->D}{σ σ':Ea}{tg:D->Ev->Option Ev}{body:Ev->M Fl}{r ρ':Ev}(h:KL b k (ώ$ AV k.as) f g σ)(hl:k.as.length<=3)(gf:σ'[b+2]?=BD (ϣ$ AV k.as))
include h
theorem oZ:Vd (bc [15] "accounts") (ya 0) (BD (O b)::r) σ=J (O$ b+2) σ:=by
 have:=j0 h
 simp_all
include hl gf
theorem G3(R:Rn (λx=>U x.a.p) tg body k.as (BD (O b)::r) (σ.set (b+2)$ ϣ$ AV k.as) ρ' σ'):Qt (Vd (bc [15] "accounts")$ ya 0) (Am (BH$ Vd (bc [15] "accounts")$ ya 0) tg body) (BD (O b)::r) σ=J (Ϙ ρ') (σ'.set (b+2)$ ώ$ AV k.as):=by
 have c:=oZ h (r:=r);have e:BH (Vd (bc [15] "accounts")$ ya 0) (BD (O b)::r) σ=J (lA$ AV k.as) (σ.set (b+2)$ ϣ$ AV k.as):=by
  show Kc _ BI _=_;rw[Yl,c,Ad];unfold BI;simp[h.h2]
 refine hJ c h.h2 e (gU (λi x f d=>?_) (λf=>?_) R 0 1001 rfl ⋯$ by lia) gf
 ·unfold lA AV MV;simp[d,Ut]
 ·unfold lA AV MV;simp
theorem lO(R:Rn (λx=>ϑ [U x.a.p,O x.r]) tg body k.as (BD (O b)::r) (σ.set (b+2)$ ϣ$ AV k.as) ρ' σ'):Qt (Vd (bc [15] "accounts")$ ya 0) (Am (lx$ Vd (bc [15] "accounts")$ ya 0) tg body) (BD (O b)::r) σ=J (Ϙ ρ') (σ'.set (b+2)$ ώ$ AV k.as):=by
 have c:=oZ h (r:=r);refine hJ c h.h2 (EX c h.h2) (gU (λi x e d=>?_) (λe=>?_) R 0 1001 rfl ⋯$ by lia) gf
 ·unfold Sr AV MV;simp[d,Ut]
 ·unfold Sr AV MV;simp
end
section
variable{b:Nat}{k:Kp}{g:Ka->D}{σ:Ea}(h:KL b k (ώ$ AV k.as) (λf=>Ng) g σ)(hl:k.as.length<=3)
include h hl
theorem O0{a}{N}{A B}(v:Bk a N A B σ):WB [O b,O 2] σ=J (O σ.length) (σ++[Ϗ []]):=by
 have q:=h.app [Ϗ []];have w:=P8$ v.app [Ϗ []];have ό:=λF=>(v.app [Ϗ []]).Vi (x:="made_of") 1 Yt F rfl;have u:∀ n o f g e:Option D,Di (Uk (io$ Gi$ vf [(9,Yt)] 1 "made_of" (ya 1) zb) [] (pd 0) zl$ Fb Kb (ya 0)$ eC$ U 4) [BD$ O b,BD$ O 2,n,o,f,g,e] (σ++[Ϗ []])=J (ύ$ [pD a.x 0,pD a.y 1].map λL=>U 50) (σ++[Ϗ []]):=λn o f g e=>by
  refine Nu (s:=.seq$ [pD a.x 0,pD a.y 1].map id) (ix:=[]) id _ ?_ (λi L=>Eb BD$ Rr _ id i) ⋯ (λx m j=>?_) (λL L=>rfl)
  ·unfold PL at w;simp[w,ό]
  ·have:∀ l,Kb x (U 4) l=J (U 50) l:=λl=>by
    rcases Da.mp m with rfl|m
    ·unfold pD;split<;>exact xP ..
    ·obtain rfl:=Wa.mp m;unfold pD;split<;>exact xP ..
   simp[this]
 have u:=λn o f g e:Option D=>(u n o f g e)
 generalize ύ ([pD a.x 0,pD a.y 1].map λL=>U 50)=W at *;have t:=q.swap rfl$ ϣ$ AV k.as;obtain⟨K,R,f,g,e,rfl⟩:=xJ (V:=λx=>ϑ [U x.a.p,O x.r]) (tg:=Il 2$ Qg (pd 4)$ Qg (pd 5) Vl) (body:=gQ) (σ:=(σ++[Ϗ []]).set (b+2)$ ϣ$ AV k.as) (λC=>∃ f g e,C=[BD$ O b,BD$ O 2,BD$ O σ.length,BD W,f,g,e]) k.as [BD$ O b,BD$ O 2,BD$ O σ.length,BD W,A5,A5,A5] (λx m C H=>by
  obtain⟨f,g,e,rfl⟩:=H;refine⟨[BD$ O b,BD$ O 2,BD$ O σ.length,BD W,BD$ U x.a.p,BD$ O x.r,e],[BD$ O b,BD$ O 2,BD$ O σ.length,BD W,BD$ U x.a.p,BD$ O x.r,BD Ng],rfl,?_,_,_,_,rfl⟩;have c:=rJ t;have d:=eO t m;generalize (σ++[Ϗ []]).set (b+2) (ϣ$ AV k.as)=l at *;have G:Vg [O x.r,Ng] l=J (ϒ J8) l:=by
   have E:(("held" : Str) == "laid")=J8:=by decide
   have I:∀ σ,Kb Ng (U 0) σ=J (ϙ "held") σ:=λσ=>nr rfl;unfold Vg Tc;dsimp only;generalize Ng=TT at *;simp[I,E]
  generalize Ng=TT at *;simp[c,d,G]) ⟨_,_,_,rfl⟩
 have z:=lO q hl t.h2 (r:=[BD$ O 2,BD$ O σ.length,BD W,A5,A5,A5]) R;rw[Ik,qE q.h2]at z;unfold WB lV Hf;simp[u,z,-Tt,-Ip]
theorem zuo:yC [O b,O 2] σ=J (O σ.length) (σ++[Ϗ []]):=by
 have e:=h.app [Ϗ []];have f:=e.swap rfl$ ϣ$ AV k.as;obtain⟨n,R,g,i,rfl⟩:=xJ (V:=λx=>ϑ [U x.a.p,O x.r]) (tg:=Il 2$ Qg (pd 3)$ Qg (pd 4) Vl) (body:=fT) (σ:=(σ++[Ϗ []]).set (b+2)$ ϣ$ AV k.as) (λl=>∃ g i,l=[BD _,BD _,BD _,g,i]) k.as [BD _,BD$ O 2,BD _,A5,A5] (λx o l m=>by
  obtain⟨g,i,rfl⟩:=m;refine⟨[BD$ O b,BD$ O 2,BD$ O σ.length,BD$ U x.a.p,BD$ O x.r],[BD$ O b,BD$ O 2,BD$ O σ.length,BD$ U x.a.p,BD$ O x.r],rfl,?_,_,_,rfl⟩;have c:bc [15] "finishing" (O b) ((σ++[Ϗ []]).set (b+2)$ ϣ$ AV k.as)=J (O$ b+6) ((σ++[Ϗ []]).set (b+2)$ ϣ$ AV k.as):=kh (Lj f.h0) rfl rfl;have d:Pq (U x.a.p) (O$ b+6) ((σ++[Ϗ []]).set (b+2)$ ϣ$ AV k.as)=J (ϒ J8) ((σ++[Ϗ []]).set (b+2)$ ϣ$ AV k.as):=by
   unfold Pq;simp only[tj,oF f.h6];rfl
  generalize (σ++[Ϗ []]).set (b+2) (ϣ$ AV k.as)=q at *;simp[c,d]) ⟨_,_,rfl⟩
 have j:=lO e hl f.h2 (r:=[BD$ O 2,BD$ O σ.length,A5,A5]) R;rw[Ik,qE e.h2]at j;unfold yC WY Hf;simp[j,-Tt]
end
def KR{b}{n}{a}(h:Qi b n a)(f:a.Ok){s}{t}(w:a.y=[s])(v:s.ts=[t]):Zj [O n,Ng] b=J (ύ$ if t.p=a.q then []else [t.D]) b:=by
 have x:∀ b,Kb Ng (U 0) b=J (ϙ "held") b:=λb=>nr rfl;have k:=h.app [Ϗ []];have st:=JS (c:=Ng) k f x;rw[w]at st;have st:df [O n,Ng] (b++[Ϗ []])=J (ύ [s.D]) (b++[Ϗ []]):=st;have o:=Vv k f;have l:=s2 s;rw[v]at l;have d:∀ C:Option D,Di (Uk (io$ Gi$ Fb Kb (ya 3)$ eC$ U 2) [0] (pd 0) (eT$ Fb sj (Fb Kb (ya 0)$ eC$ U 0)$ Vd (bc [7,8,10,11,12,13] "side")$ ya 2)$ ya 0) [BD$ O n,BD Ng,BD$ O b.length,BD s.D] (b++[Ϗ []])=J (ύ$ ([t].filter λu=>decide$ u.p≠a.q).map Ti.D) (b++[Ϗ []]):=λC=>by
  refine wH (s:=.seq$ [t].map Ti.D) Ti.D Ti.D (λu=>decide$ u.p≠a.q) (by simp[l]) (λi H=>Eb BD$ Rr [t] _ i) ⋯ (λu F j=>?_) (λu H H=>AL u);have o:=Vv (h.app$ Ϗ []::j) f;have B:∀ g,Kb u.D (U 0) g=J (U u.p) g:=λg=>by unfold Ti.D;simp
  have A:=IY u.p a.q;exact⟨by simp[B,o,A],λH=>by simp⟩
 have d:=d A5;have e:(([t].filter λu=>decide$ u.p≠a.q).map Ti.D)=if t.p=a.q then []else [t.D]:=by
  by_cases c:t.p=a.q<;>simp[c]
 rw[e]at d;have r:Af (if t.p=a.q then []else [t.D])=E8:=by split<;>simp[AL]
 have G:(if t.p=a.q then []else [t.D]).length<=1:=by split<;>simp
 generalize (if t.p=a.q then []else [t.D])=X at *;have ex:=vZ (σ:=b) (ys:=[]) (zs:=X) (by simp;omega);rw[Eg]at ex;have z:∀ m,yu ww m (O b.length) (b++[Ϗ []])=(m$ b++[Ϗ []]).bind (ww$ O b.length):=λm=>CC (xs:=[]) (by unfold jf We;simp);have fz:=Fz (σ:=b) r;unfold Zj zZ Tc;dsimp only;generalize s.D=E,Ng=TT at *;simp[st,d,ex,z,fz,-Ip]
def KL.congr{b}{k}{o}{f g c i}{l}(h:KL b k o f g l)(m:∀ x∈k.as,f x=c x)(n:∀ x∈k.as,g x=i x):KL b k o c i l:=by
 have e:∀ {u j:Ka->D},(∀ x∈k.as,u x=j x)->MV u k.as=MV j k.as:=λp=>ke λx q=>by rw[p x q]
 exact⟨h.h0,h.h1,h.h2,e m ▸ h.h3,e n ▸ h.h4,h.h5,h.h6,h.a,h.d,h.hb⟩
def Qq5{l:List Ka}(a:l.length<=2)(b:l≠[]):(∃ x,l=[x])\/∃ x y,l=[x,y]:=by
 rcases l with _|⟨x,_|⟨y,_|⟨z,t⟩⟩⟩<;>simp_all
def R6{b}{k}{f g}{i}(h:KL b k (ώ$ AV k.as) f g i){a}{N}{A B}(v:Bk a N A B i)(hl:k.as.length<=2)(hn:k.as≠[])(hp:∀ x∈k.as,x.a.p=0\/x.a.p=1)(hM:HB<=i.length):∃ (R:Ka->Nat) (y:Option D) (c:Ea),UH [BD$ O b,BD$ O 2,A5] i=J (Ϙ [BD$ O b,BD$ O 2,y]) c/\KL b k (ώ$ AV k.as) (λ_=>Ng) (λz=>O$ R z) c/\Bk a N A B c/\(∀ z∈k.as,i.length<=R z/\c[R z]?=BD (ώ$ sK$ sP A B z.a.p.toNat))/\(∀ z∈k.as,∀ w∈k.as,R z=R w->z.a.p=w.a.p)/\Fr b i c:=by
 have bb:=h.hb;have ϊ:=h.swap rfl$ ϣ$ AV k.as;have W:=v.set (r:=b+2) ⋯$ ϣ$ AV k.as;have V:(i.set (b+2)$ ϣ$ AV k.as).length=i.length:=Fd;have T:Fr b i$ i.set (b+2)$ ϣ$ AV k.as:=.set i ⋯ _;have M:∀ x∈k.as,x.a.p.toNat<2/\x.a.p=x.a.p.toNat:=λx hx=>by have:=hp x hx;omega
 have u:∀ (l:List Ka) (_:k.as=l) (R:Ka->Nat) (y:Option D) (s t:Ka->D) (j:Ea),Rn (λx=>U x.a.p) (pd 2) nL l [BD$ O b,BD$ O 2,A5] (i.set (b+2)$ ϣ$ AV k.as) [BD$ O b,BD$ O 2,y] j->KL b k (ϣ$ AV k.as) s t j->Bk a N A B j->Fr b i j->(∀ x∈k.as,s x=Ng)->(∀ x∈k.as,t x=O (R x))->(∀ z∈k.as,i.length<=R z/\j[R z]?=BD (ώ$ sK$ sP A B z.a.p.toNat))->(∀ z∈k.as,∀ w∈k.as,R z=R w->z.a.p=w.a.p)->∃ (R:Ka->Nat) (y:Option D) (c:Ea),UH [BD$ O b,BD$ O 2,A5] i=J (Ϙ [BD$ O b,BD$ O 2,y]) c/\KL b k (ώ$ AV k.as) (λ_=>Ng) (λz=>O$ R z) c/\Bk a N A B c/\(∀ z∈k.as,i.length<=R z/\c[R z]?=BD (ώ$ sK$ sP A B z.a.p.toNat))/\(∀ z∈k.as,∀ w∈k.as,R z=R w->z.a.p=w.a.p)/\Fr b i c:=λl Y R y s t j rn E S fr hf hg K hi=>
  ⟨R,y,_,G3 h ⋯ E.h2 (r:=[BD$ O 2,A5])$ Y ▸ rn,(E.swap rfl _).congr hf hg,S.set ⋯ _,λz m=>⟨(K z m).1,yd (by have:=(K z m).1;omega) (K z m).2⟩,hi,fr.trans$ .set j ⋯ _⟩
 have sh:=Qq5 hl hn
 have ϋ:∀ (x:Ka) (y:Option D),x.a.p=x.a.p.toNat->pd 2 (U x.a.p) [BD$ O b,BD$ O 2,y]=BD [BD$ O b,BD$ O 2,BD$ U (x.a.p.toNat:Int)]:=λx y e=>by rw[<-e];rfl
 rcases sh with⟨x,e⟩|⟨x,y,e⟩
 ·have n:∀ {P:Ka->Prop},P x->∀ z∈k.as,P z:=λh z m=>by rw[e]at m;rw[Wa.mp m];exact h
  obtain⟨L,o⟩:=M x (by rw[e];simp);obtain⟨F,I,C,Q,l1,q,ό⟩:=nM ϊ W (x:=x) (by rw[e];simp) L o ⋯;rw[V]at l1 q C;exact u _ e (λ_=>i.length) _ _ _ F (.cons (ϋ x _ o) I .nil) C Q (T.trans ό) (n$ ja o) (n$ ja o) (n ⟨va _,q⟩)$ n (n λ_=>rfl)
 ·have two:∀ {P:Ka->Prop},P x->P y->∀ z∈k.as,P z:=λh Z z m=>by
   rw[e]at m;rcases Da.mp m with rfl|m
   ·exact h
   ·rw[Wa.mp m];exact Z
  have G:x.a.p≠y.a.p:=by have:=h.d;rw[e]at this;simpa using this
  obtain⟨L,o⟩:=M x (by rw[e];simp);obtain⟨q1,H⟩:=M y (by rw[e];simp);obtain⟨F,I,C,Q,l1,q,ό⟩:=nM ϊ W (x:=x) (by rw[e];simp) L o ⋯;rw[V]at l1 q C;obtain⟨j,X,E,S,l2,t,s⟩:=nM C Q (x:=y) (by rw[e];simp) q1 H ⋯;rw[l1]at l2 t E;have q:=s _ _ (ϓ$ by omega) q;refine u _ e (λz=>if z.a.p=y.a.p then i.length+1 else i.length) _ _ _ j (.cons (ϋ x _ o) I$ .cons (ϋ y _ H) X .nil) E S ((T.trans ό).trans s) (two ?_$ ja H) (two ?_ ?_) (two ?_ ?_)$ two (two (λ_=>rfl) ?_) (two ?_ λ_=>rfl)
  ·unfold fq;rw[pa ⋯,ja o]
  ·unfold fq;rw[pa ⋯,ja o,pa G]
  ·unfold fq;rw[ja H,ja rfl]
  ·rw[pa G];exact⟨va _,q⟩
  ·rw[ja rfl];exact⟨by omega,t⟩
  ·rw[pa G,ja rfl];omega
  ·rw[pa G,ja rfl];omega
noncomputable def sv(k:Kp)(t:Ti)(S:Option Int):Bool:=decide ((7:Int)∈k.K) && (S.isNone && (decide (k.L<t.y) && decide (t.y<=k.L+k.e)))
def zt9 K w:(Cj (jl K)$ .inl w).isSome=decide (w∈K):=by
 induction K with
 |nil=>rfl
 |cons v K a=>
  unfold jl Cj at a ⊢;by_cases h:v=w
  ·simp[h]
  ·have b:¬ w=v:=λz=>h z.symm
   simp_all
noncomputable def Ii(p:Nat):D:=ϑ [ϙ "show",U p,U 7]
section
variable{b:Nat}{k:Kp}{o:Ob}{f g:Ka->D}{σ:Ea}(h:KL b k o (λc=>Ng) g σ){x:Ka}(hx:x∈k.as){p r:Nat}(hp:p<2)(ep:x.a.p=p)(gx:g x=O r){S:Option Int}(hS:σ[r]?=BD (ώ$ sK S)){s:Sn}{t:Ti}(hy:x.a.y=[s])(ht:s.ts=[t])(hw:t.w=7)
include h hx ep gx hS hw
theorem zzw:qC [O b,U p,t.D] σ=J (ϒ$ sv k t S) σ:=by
 have kn:bc [14,15] "known" (O b) σ=J _ σ:=kh (Lj h.h0) rfl rfl;have i:bc [14,15,16] "every" (O b) σ=J _ σ:=kh (Lj h.h0) rfl rfl;have j:=WL h;have gs:=GT h hx;rw[gx,ep]at gs;have c:∀ σ,Kb t.D (U 2) σ=J (U 7) σ:=λσ=>by unfold Ti.D;simp[hw]
 have l:∀ σ,Kb t.D (U 3) σ=J (U t.y) σ:=λσ=>by unfold Ti.D;simp
 have a:ot (U 7) (O$ b+1) σ=J (ϒ !decide ((7:Int)∈k.K)) σ:=by
  unfold ot;simp only[tj,oF h.h1];rw[zt9]
 have g:Pq (U 7) (O r) σ=J (ϒ S.isSome) σ:=by
  unfold Pq;simp[tj,oF hS];cases S<;>rfl
 unfold qC sv eg;dsimp only;generalize t.D=m,decide ((7:Int)∈k.K)=e at *;cases e
 ·simp[kn,c,a]
 ·cases S with
  |some d=>simp_all
  |none=>
   cases f:decide (k.L<t.y)<;>simp[kn,i,(AU h),j,gs,c,l,a,g,f]
omit gx hS hw
include hy ht
theorem OV(f:t.p=x.a.q){n} e:Ky [BD$ O b,BD$ O 2,BD$ O n,BD$ U p,BD$ O x.r,e] σ=J (Ϙ [BD$ O b,BD$ O 2,BD$ O n,BD$ U p,BD$ O x.r,e]) σ:=by
 have c:=KR (h.a x hx).1 (h.a x hx).2 hy ht;rw[ja f]at c;have d:=eO h hx;rw[ep]at d;simp[c,(rJ h),d]
include gx hS hw hp
theorem O8(F:t.p≠x.a.q){a}{A B}(v:Bk a k.L A B σ)(W:S=sP A B p){n}{j}(w:σ[n]?=BD (Ϗ j))(hd:j.length<=9)(N:HB<=r)(Z:HB<=n) y5:∃ i:Ea,Ky [BD$ O b,BD$ O 2,BD$ O n,BD$ U p,BD$ O x.r,y5] σ=J (Ϙ [BD$ O b,BD$ O 2,BD$ O n,BD$ U p,BD$ O x.r,BD t.D]) i/\KL b k o (λ_=>Ng) g i/\Bk a k.L (if sv k t S=E8/\p=0 then BD k.L else A) (if sv k t S=E8/\p≠0 then BD k.L else B) i/\i[r]?=BD (ώ$ sK$ if sv k t S then BD k.L else S)/\i[n]?=BD (Ϗ$ if sv k t S then j++[Ii p]else j)/\(∀ q z,q≠5->q≠6->q≠r->q≠n->σ[q]?=BD z->i[q]?=BD z)/\i.length=σ.length:=by
 have bb:=h.hb;have H:=KR (h.a x hx).1 (h.a x hx).2 hy ht;rw[pa F]at H;have c:=rJ h;have d:=eO h hx;rw[ep]at d;have E:=zzw h hx ep gx hS hw;have P:=λs=>h.Vi (m:="is_to_show") 3 qC s rfl;cases u:sv k t S with
 |false=>
  rw[u]at E;refine⟨σ,?_,h,by simpa using v,by simpa using hS,by simpa using w,λq z _ _ _ _ e=>e,rfl⟩;generalize Ng=TT,t.D=ϊ at *;simp[H,c,d,E,P]
 |true=>
  rw[u]at E;have T:S=A5:=by
   unfold sv at u;cases S with
   |none=>rfl
   |some d=>simp at u
  obtain⟨V,v1⟩:=N5 v hp (W ▸ T);have ms:=λs=>v.Vi (x:="show") 3 JC s rfl;have G:∃ ϋ,σ[5+p]?=BD (ώ ϋ):=⟨_,(qN v hp).2⟩
  obtain⟨ϋ,G⟩:=G;unfold HB at *;have y:=h.set (r:=5+p) (ϐ$ by lia) G rfl$ ώ$ sK$ BD k.L;have l:(σ.set (5+p)$ ώ$ sK$ BD k.L)[r]?=BD (ώ$ sK S):=yd ⋯ hS;have Q:(σ.set (5+p)$ ώ$ sK$ BD k.L)[n]?=BD (Ϗ j):=yd ⋯ w;have X:∀ q z,q≠5->q≠6->σ[q]?=BD z->(σ.set (5+p)$ ώ$ sK$ BD k.L)[q]?=BD z:=λq z K M e=>yd ⋯ e;have l1:(σ.set (5+p)$ ώ$ sK$ BD k.L).length=σ.length:=Fd;generalize σ.set (5+p) (ώ$ sK$ BD k.L)=f at *;rw[T]at l;have la:=AU y;have se:=WL y;have gs:=GT y hx;rw[gx,ep]at gs;have st:∀ ρ,An ρ (U k.L) (O r) (U 7) f=J (Ϙ ρ) (f.set r$ ώ$ sK$ BD k.L):=λρ=>jq l (by simp[sK]);have k2:=y.set (r:=r) (ϓ$ by omega) l rfl$ ώ$ sK$ BD k.L;have v2:=v1.set (r:=r) ⋯$ ώ$ sK$ BD k.L;have R:r≠n:=λe=>by rw[e,Q]at l;cases l
  have r2:=eu (x:=ώ$ sK$ BD k.L) l;have C:(f.set r$ ώ$ sK$ BD k.L)[n]?=BD (Ϗ j):=yd R Q;have Y:∀ q z,q≠r->f[q]?=BD z->(f.set r$ ώ$ sK$ BD k.L)[q]?=BD z:=λq z F e=>yd (λe=>F e.symm) e;have l2:(f.set r$ ώ$ sK$ BD k.L).length=f.length:=Fd;generalize f.set r (ώ$ sK$ BD k.L)=I at *;have ό:=pM (d:=Ii p) C ⋯;have ma:=λs=>nP C Xj s;have t2:∀ σ,Kb t.D (U 2) σ=J (U 7) σ:=λσ=>by unfold Ti.D;simp[hw]
  refine⟨I.set n$ Ϗ$ j++[Ii p],?_,k2.set (ϓ$ by omega) C rfl _,?_,?_,?_,λq z K M N w e=>yd (λe=>w e.symm)$ Y q z N$ X q z K M e,by rw[Fd,l2,l1]⟩
  ·unfold Ii at ό ⊢;generalize Ng=TT,t.D=ϊ at *;simp[H,c,d,E,P,ms,V,la,se,gs,st,ma,ό,t2]
  ·have:=v2.set (r:=n) ⋯$ Ϗ$ j++[Ii p]
   match p,hp with
   |0,_=>simpa using this
   |1,_=>simpa using this
  ·rw[ja rfl];exact yd (λe=>R e.symm) r2
  ·rw[ja rfl];exact eu C
end
def w8{a}{m n}{xs b}(e:a[m]?=BD (Ϗ xs))(f:a[n]?=BD (Ϗ b))(g:xs.length+b.length<=1000):jh (O m) (O n) a=J (ύ$ xs++b) a:=by
 have c:We a m=BD xs:=by unfold We;rw[e]
 have d:We a n=BD b:=by unfold We;rw[f]
 show nA _ _ a=_;unfold nA;simp[jf,c,d,Og,g]
theorem zv6{σ}{n}{xs ys}(b:σ[n]?=BD (Ϗ ys))(c:xs.length+ys.length<=1000):lE (ύ xs) (O n) σ=J (O σ.length) (σ++[Ϗ$ xs++ys]):=by
 have a:We σ n=BD ys:=by unfold We;rw[b]
 unfold lE;simp[jf,a];rw[ja (by trivial)];rfl
def T1(a:Ac)(t:Ti):Prop:=∃ s,a.y=[s]/\s.ts=[t]/\t.w=7
def mJ(k:Kp)(x:Ka)(t:Ti)(S:Option Int):Bool:=decide (t.p≠x.a.q) && sv k t S
section
variable{b:Nat}{k:Kp}{σ:Ea}{R:Ka->Nat}{x:Ka}{l:List Ka}(el:k.as=x::l){p:Nat}(hp:p<2)(ep:x.a.p=p){t:Ti}(hx:T1 x.a t)(hl:∀ y∈l,∃ u,T1 y.a u/\u.p=y.a.q/\0<=y.a.p)(h3:k.as.length<=3){a:Pa}{A B:Option Int}
include el hp ep hx hl h3
theorem J0(h:KL b k (ώ$ AV k.as) (λ_=>Ng) (λz=>O$ R z) σ)(v:Bk a k.L A B σ)(P:σ[R x]?=BD (ώ$ sK$ sP A B p))(hR:HB<=R x)(hM:HB<=σ.length){C}(ϋ:C=mJ k x t (sP A B p)):∃ f:Ea,pA [O b,O 2] σ=J (O σ.length) f/\KL b k (ώ$ AV k.as) (λ_=>Ng) (λz=>O$ R z) f/\Bk a k.L (if C=E8/\p=0 then BD k.L else A) (if C=E8/\p≠0 then BD k.L else B) f/\f[R x]?=BD (ώ$ sK$ if C then BD k.L else sP A B p)/\f[σ.length]?=BD (Ϗ$ if C then [Ii p]else [])/\(∀ q z,q≠5->q≠6->q≠R x->σ[q]?=BD z->f[q]?=BD z):=by
 obtain⟨s,E,Q,hw⟩:=hx;have bb:=h.hb;have K:=h.app [Ϗ []];have v1:=v.app [Ϗ []];have G:=K.swap rfl$ ϣ$ AV k.as;have W:=v1.set (r:=b+2) ⋯$ ϣ$ AV k.as;unfold HB at *;have ϊ:((σ++[Ϗ []]).set (b+2)$ ϣ$ AV k.as)[R x]?=BD (ώ$ sK$ sP A B p):=yd ⋯$ Cg P;have T:((σ++[Ϗ []]).set (b+2)$ ϣ$ AV k.as)[σ.length]?=BD (Ϗ []):=yd ⋯ ⋯;have f2:∀ q z,q≠b+2->σ[q]?=BD z->((σ++[Ϗ []]).set (b+2)$ ϣ$ AV k.as)[q]?=BD z:=λq z o e=>yd (λe=>o e.symm)$ Cg e;have rn:R x≠σ.length:=λe=>by
  have:=(ba.mp P).1;omega
 have ό:∀ c (d:Option D),Ky [BD$ O b,BD$ O 2,BD$ O σ.length,BD$ U p,BD$ O x.r,A5] ((σ++[Ϗ []]).set (b+2)$ ϣ$ AV k.as)=J (Ϙ [BD$ O b,BD$ O 2,BD$ O σ.length,BD$ U p,BD$ O x.r,d]) c->KL b k (ϣ$ AV k.as) (λ_=>Ng) (λz=>O$ R z) c->∃ i j d,Qt (Vd (bc [15] "accounts")$ ya 0) (Am (lx$ Vd (bc [15] "accounts")$ ya 0) (Il 2$ Qg (pd 3)$ Qg (pd 4) Vl) Ky) [BD$ O b,BD$ O 2,BD$ O σ.length,A5,A5,A5] (σ++[Ϗ []])=J (Ϙ [BD$ O b,BD$ O 2,BD$ O σ.length,i,j,d]) (c.set (b+2)$ ώ$ AV k.as):=λc d e g=>by
  obtain⟨a0,Z,i,j,m,rfl⟩:=xJ (V:=λx=>ϑ [U x.a.p,O x.r]) (tg:=Il 2$ Qg (pd 3)$ Qg (pd 4) Vl) (body:=Ky) (σ:=c) (λY=>∃ i j d,Y=[BD$ O b,BD$ O 2,BD$ O σ.length,i,j,d]) l [BD$ O b,BD$ O 2,BD$ O σ.length,BD$ U p,BD$ O x.r,d] (λy E Y hP=>by
   obtain⟨i,j,d,rfl⟩:=hP;obtain⟨u,⟨s',e1,H,e3⟩,e4,e5⟩:=hl y E;refine⟨[BD$ O b,BD$ O 2,BD$ O σ.length,BD$ U y.a.p,BD$ O y.r,d],[BD$ O b,BD$ O 2,BD$ O σ.length,BD$ U y.a.p,BD$ O y.r,d],rfl,?_,_,_,_,rfl⟩;have M:y.a.p=y.a.p.toNat:=by omega
   have:=OV g (x:=y) (by rw[el];exact ra _ E) M e1 H e4 (n:=σ.length) d;rw[<-M]at this;exact this) ⟨_,_,_,rfl⟩
  refine⟨i,j,m,lO K h3 g.h2 (r:=[BD$ O 2,BD$ O σ.length,A5,A5,A5]) ?_⟩;have:Rn (λx=>ϑ [U x.a.p,O x.r]) (Il 2$ Qg (pd 3)$ Qg (pd 4) Vl) Ky (x::l) [BD$ O b,BD$ O 2,BD$ O σ.length,A5,A5,A5] ((σ++[Ϗ []]).set (b+2)$ ϣ$ AV k.as) [BD$ O b,BD$ O 2,BD$ O σ.length,i,j,m] c:=.cons (by rw[ep];rfl) e Z;exact el ▸ this
 have F:∀ c d,Ky [BD$ O b,BD$ O 2,BD$ O σ.length,BD$ U p,BD$ O x.r,A5] ((σ++[Ϗ []]).set (b+2)$ ϣ$ AV k.as)=J (Ϙ [BD$ O b,BD$ O 2,BD$ O σ.length,BD$ U p,BD$ O x.r,d]) c->KL b k (ϣ$ AV k.as) (λ_=>Ng) (λz=>O$ R z) c->pA [O b,O 2] σ=J (O σ.length) (c.set (b+2)$ ώ$ AV k.as):=λc d e g=>by
  obtain⟨i,j,m,th⟩:=ό c d e g;unfold pA dR Hf;simp[th,-Tt]
 have w:x∈k.as:=by rw[el];exact ua
 by_cases o:t.p=x.a.q
 ·have c0:C=J8:=by rw[ϋ];unfold mJ;simp[o]
  subst c0;refine⟨_,F _ _ (OV G w ep E Q o A5) G,G.swap rfl _,by simpa using W.set (r:=b+2) ⋯ (ώ$ AV k.as),yd ⋯ (by simpa using ϊ),yd ⋯ (by simpa using T),λq z _ _ _ e=>?_⟩;rw[Ik,qE K.h2];exact Cg e
 ·have cC:C=sv k t (sP A B p):=by rw[ϋ];unfold mJ;simp[o]
  obtain⟨c,e,g,X,N,S,fr,ln⟩:=O8 G w hp ep rfl ϊ E Q hw o W rfl T ⋯ (by unfold HB;omega) (by unfold HB;omega) A5;rw[<-cC]at X N S;refine⟨_,F _ _ e g,g.swap rfl _,X.set ⋯ _,yd ⋯ N,yd ⋯ (by simpa using S),λq z h5 h6 hr e=>?_⟩;by_cases I:q=b+2
  ·subst I;have H:=h.h2;rw[H]at e;cases e;exact eu g.h2
  ·exact yd (λe=>I e.symm)$ fr q z h5 h6 hr (by have:=(ba.mp e).1;omega)$ f2 q z I e
end
theorem uniq{d:Type}{i:Type}{f:d->i}:∀ {g:List d},(g.map f).Nodup->∀ p∈g,∀ b∈g,f p=f b->p=b
 |[],_,p,h,_,_,_=>by cases h
 |x::g,hd,p,c,b,a,e=>by
  rw[Sa,Wc]at hd;rcases Da.mp c with rfl|c<;>rcases Da.mp a with rfl|a
  ·rfl
  ·exact absurd (Ja.mpr ⟨b,a,e.symm⟩) hd.1
  ·exact absurd (Ja.mpr ⟨p,by assumption,e⟩) hd.1
  ·exact uniq hd.2 p c b a e
noncomputable def ZE(K:gV)(w:Int):gV:=if w∈K then K else K++[w]
def o9 K w:Zi (jl K) (.inl w) (ϒ E8)=jl (ZE K w):=by
 unfold ZE;by_cases h:w∈K
 ·have a:(jl K).any (λc=>decide$ c.1=.inl w)=E8:=Sd.mpr ⟨_,Ja.mpr ⟨w,h,rfl⟩,by simp⟩;unfold Zi;unfold jl
  simp_all
 ·rw[pa h,R8 _ λp b e=>by
   obtain⟨d,a,rfl⟩:=Ja.mp b;have e:d=w:=by simpa using e
   exact h$ e ▸ a]
  unfold jl
  simp_all
def kn(A B:Option Int)(K:gV):gV:=if A=A5/\B=A5 then K else ZE K 7
def U7{b}{k}{f g}{a}(h:KL b k (ώ$ AV k.as) f g a)(o:k.K.length<=50) A B:∃ i:Ea,Cu [O b,ύ$ (kw A B).map U] a=J Ϝ i/\KL b { k with K:=kn A B k.K } (ώ$ AV k.as) f g i/\(∀ q z,q≠b+1->a[q]?=BD z->i[q]?=BD z)/\i.length=a.length:=by
 unfold kw kn;by_cases c:A=A5/\B=A5
 ·rw[ja c,ja c];refine⟨a,?_,h,λq z p e=>e,rfl⟩;unfold Cu bH Hf;simp
 ·rw[pa c,pa c];have m:bc [14,15] "known" (O b) a=J _ a:=kh (Lj h.h0) rfl rfl;have st:∀ j,An j (ϒ E8) (O$ b+1) (U 7) a=J (Ϙ j) (a.set (b+1)$ ώ$ jl$ ZE k.K 7):=λj=>by
   rw[jq h.h1 (by unfold jl;simp;lia),o9]
  have n:=h.hb;refine⟨a.set (b+1)$ ώ$ jl$ ZE k.K 7,?_,⟨yd ⋯ h.h0,eu h.h1,yd ⋯ h.h2,yd ⋯ h.h3,yd ⋯ h.h4,yd ⋯ h.h5,yd ⋯ h.h6,h.ac h.h1 rfl _,h.d,h.hb⟩,λq z l e=>yd (λe=>l e.symm) e,Fd⟩;unfold Cu bH Hf;simp[m,st]
def Bk.fr{a}{N}{A B}{c b}(v:Bk a N A B c)(f:∀ q z,q<=6->c[q]?=BD z->b[q]?=BD z):Bk a N A B b:=⟨f _ _ ⋯ v.h2,f _ _ ⋯ v.h3,f _ _ ⋯ v.h4,f _ _ ⋯ v.h5,f _ _ ⋯ v.h6⟩
def oO{b}{z}{j}(S:ri b z j)(hb:10<=b)(hM:HB<=j.length){a}{N}{A B}(v:Bk a N A B j){T}{S0}{l}(ϊ:z.A=(T,S0)::l)(hl:l.length<=1)(a6:∀ y∈z.A,y.1.p=0\/y.1.p=1){p:Nat}(ep:T.p=p){t}(ht:T1 T t)(a4:∀ y∈l,∃ u,T1 y.1 u/\u.p=y.1.q){K}(hK:kn A B z.K=K)(hz:z.K.length<=10)(hk:K.length<=60){C}(hC:C=(decide (t.p≠T.q) && (decide ((7:Int)∈K) && ((sP A B p).isNone && (decide (N<t.y) && decide (t.y<=N+z.e)))))){A'}(a2:A'=(T,if C then BD N else sP A B p)::l.map λy=>(y.1,sP A B y.1.p.toNat))(ok:Ej N$ A'.map pw):∃ (n:Nat) (I:Ea),Sw [O b,O 2] j=J (O n) I/\I[n]?=BD (Ϗ$ if C then [Ii p]else [])/\ri b { z with L:=N,K:=K,c:=Ng,A:=A' } I/\Bk a N (if C=E8/\p=0 then BD N else A) (if C=E8/\p≠0 then BD N else B) I/\eI b j I:=by
 obtain⟨k,h,rfl⟩:=S;have hB:=h.hb;obtain⟨x,V,ό,ex,M⟩:∃ x V,k.as=x::V/\x.a=T/\(V.map λx=>(x.a,x.S))=l:=by
  have ϊ:(k.as.map λx=>(x.a,x.S))=(T,S0)::l:=ϊ
  match e:k.as,ϊ with
  |x::V,ϊ=>exact⟨x,V,rfl,(Oz (mu ϊ).1).1,(mu ϊ).2⟩
 have w:x∈k.as:=by rw[ό];exact ua
 have a3:k.as.length<=2:=by rw[ό,gb];rw[<-M,Oa]at hl;omega
 have H:∀ y∈k.as,y.a.p=0\/y.a.p=1:=λy F=>a6 _$ Ja.mpr ⟨y,F,rfl⟩;have a5:p<2:=by have:=H x w;rw[ex]at this;omega
 subst ex;have k0:KL b k (ώ$ AV k.as) (λ_=>k.c) Ka.v j:=⟨h.v.h0,h.v.h1,h.h2,h.v.h3,h.v.h4,h.h5,h.h6,λx hx=>⟨(h.a x hx).1,(h.a x hx).2.1⟩,h.v.d,⟨hb,hB⟩⟩
 have e1:bO [BD$ O b,BD$ O 2,A5] j=J (Ϙ [BD$ O b,BD$ O 2,A5]) (j.set b$ ϔ 15$ ji b { k with L:=N }):=by
  have td:=OE v;have mt:=λG=>v.Vi (x:="today") 1 Qs G rfl;have pu:=λρ=>z7 h.v.h0 (cs:=[14,15]) rfl (by simp[ji]) ρ "last_look"$ U N;rw[show Tj "last_look" (U N) (ji b k)=ji b { k with L:=N } from rfl]at pu;generalize j.set b (ϔ 15$ ji b { k with L:=N })=Y at *;simp[td,mt,pu]
 have k1:KL b { k with L:=N } (ώ$ AV k.as) (λ_=>k.c) Ka.v$ j.set b$ ϔ 15$ ji b { k with L:=N }:=⟨eu k0.h0,yd ⋯ k0.h1,yd ⋯ k0.h2,yd ⋯ k0.h3,yd ⋯ k0.h4,yd ⋯ k0.h5,yd ⋯ k0.h6,k0.ac k0.h0 rfl _,k0.d,k0.hb⟩
 have v1:=v.set (r:=b) ⋯$ ϔ 15$ ji b { k with L:=N };have f1:Fr b j$ j.set b$ ϔ 15$ ji b { k with L:=N }:=.set j ⋯ _;have n1:(j.set b$ ϔ 15$ ji b { k with L:=N }).length=j.length:=Fd;generalize j.set b (ϔ 15$ ji b { k with L:=N })=a8 at *;obtain⟨R,y2,Y,e2,k2,v2,hR,hi,f2⟩:=R6 k1 v1 a3 (by rw[ό];simp) H ⋯;obtain⟨o,e3,k3,f3,n3⟩:=U7 k2 (by show k.K.length<=50;have:k.K.length<=10:=hz;omega) A B;rw[show kn A B ({ k with L:=N }:Kp).K=K from hK]at k3;have l3:yN [BD$ O b,BD$ O 2,y2] Y=J (Ϙ [BD$ O b,BD$ O 2,y2]) o:=by
  have al:=Ĳ v2;have ma:=λG=>v2.Vi (x:="all_shown") 1 zC G rfl;have ml:=λG=>k2.Vi (m:="learn") 2 Cu G rfl;generalize ύ ((kw A B).map U)=W at *;simp[al,ma,ml,e3]
 have v3:Bk a N A B o:=v2.fr λq z X e=>f3 q z ⋯ e;have E:∀ z∈k.as,j.length<=R z/\o[R z]?=BD (ώ$ sK$ sP A B z.a.p.toNat):=λz hz=>by
  have:=(hR z hz).1;exact⟨by omega,f3 _ _ ⋯ (hR z hz).2⟩
 have k3:KL b { k with L:=N,K:=K } (ώ$ AV k.as) (λ_=>Ng) (λz=>O$ R z) o:=k3;have P:({ k with L:=N,K:=K }:Kp).as.length<=3:=by show k.as.length<=3;omega
 have m3:HB<=o.length:=by
  have:=(ba.mp (E x w).2).1;have:=(E x w).1;omega
 have st:=O0 k3 P v3;have k4:=k3.app [Ϗ []];have v4:=v3.app [Ϗ []];have pN:x.a.p.toNat=p:=by omega
 have ϋ:=(E x w).2;rw[pN]at ϋ;obtain⟨i,e5,k5,v5,g5,d5,f5⟩:=J0 (k:={ k with L:=N,K:=K }) (l:=V) ό a5 ep ht (λy F=>by
  obtain⟨u,hu,X⟩:=a4 (y.a,y.S) (by rw[<-M];exact Ja.mpr ⟨y,F,rfl⟩);have:=H y (by rw[ό];exact ra _ F);exact⟨u,hu,X,by omega⟩) P k4 v4 (Cg ϋ) (by have:=(E x w).1;omega) (by simp;omega) (C:=C) (by rw[hC];unfold mJ sv;rfl)
 have g4:i[o.length]?=BD (Ϗ []):=f5 _ _ (by unfold HB at m3;omega) (by unfold HB at m3;omega) (λe=>by
  have:=(ba.mp ϋ).1;omega) ⋯
 have ly:=zuo k5 P;have k6:=k5.app [Ϗ []];have k7:=k6.app [Ϗ$ if C then [Ii p]else []];have dl:(if C then [Ii p]else []).length<=1:=by split<;>simp
 have ad:=w8 g4 d5 (by rw[Dd];omega);rw[Eg]at ad;have ct:=zv6 (σ:=i++[Ϗ []]) (n:=i.length) (xs:=if C then [Ii p]else []) (ys:=[]) ⋯ (by rw[Dd];omega);rw[ee]at ct;have m4:=λG=>k3.Vi (m:="strike_all") 2 WB G rfl;have m5:=λG=>k4.Vi (m:="show_all") 2 pA G rfl;have m6:=λG=>k5.Vi (m:="lay_all") 2 yC G rfl;have e7:mN [BD$ O b,BD$ O 2,y2] o=J (.rt$ O (i++[Ϗ []]).length) (i++[Ϗ []]++[Ϗ$ if C then [Ii p]else []]):=by
  generalize i++[Ϗ []]++[Ϗ$ if C then [Ii p]else []]=Z at *;generalize (if C then [Ii p]else [])=DS,i++[Ϗ []]=b0,o++[Ϗ []]=a9 at *;simp[m4,st,m5,e5,ad,m6,ly,ct]
 refine⟨(i++[Ϗ []]).length,_,?_,by simp,?_,(v5.app [Ϗ []]).app [Ϗ$ if C then [Ii p]else []],?_⟩
 ·unfold Sw TW Hf
  (try dsimp only);rw[Ur,fC]
  show oo (lc bO (lc UH$ lc yN mN) [BD$ O b,BD$ O 2,A5] j)=_;rw[Pi,e1,Ad,cj,Pi,e2,Ad,cj,Pi,l3,Ad,cj,e7,rY]
 ·have a1:∀ q z,q≠5->q≠6->q≠R x->o[q]?=BD z->(i++[Ϗ []]++[Ϗ$ if C then [Ii p]else []])[q]?=BD z:=λq z a b c e=>Cg$ Cg$ f5 q z a b c$ Cg e;have a0:∀ y∈k.as,(i++[Ϗ []]++[Ϗ$ if C then [Ii p]else []])[R y]?=BD (ώ$ sK$ if y.a.p=x.a.p/\C=E8 then BD N else sP A B y.a.p.toNat):=λy F=>by
   by_cases e:y.a.p=x.a.p
   ·obtain rfl:y=x:=uniq h.v.d y F x w e;have g5:i[R y]?=_:=g5;rw[Cg$ Cg g5,pN];cases C<;>simp
   ·rw[show (if y.a.p=x.a.p/\C=E8 then BD N else sP A B y.a.p.toNat)=sP A B y.a.p.toNat from pa λz=>e z.1];have:=E y F;exact a1 _ _ (by unfold HB at hM;omega) (by unfold HB at hM;omega) (λz=>e$ hi y F x w z) this.2
  generalize i++[Ϗ []]++[Ϗ$ if C then [Ii p]else []]=Z at *;have k7:KL b { k with L:=N,K:=K } (ώ$ AV k.as) (λ_=>Ng) (λz=>O$ R z) Z:=k7;have mm:∀ (f:Ka->D),MV f (k.as.map λy=>(⟨y.r,y.a,if y.a.p=x.a.p/\C=E8 then BD N else sP A B y.a.p.toNat,O$ R y⟩:Ka))=MV (λy=>f ⟨y.r,y.a,if y.a.p=x.a.p/\C=E8 then BD N else sP A B y.a.p.toNat,O$ R y⟩) k.as:=λf=>by
   unfold MV;rw[Cb];rfl
  have eA:((k.as.map λy=>(⟨y.r,y.a,if y.a.p=x.a.p/\C=E8 then BD N else sP A B y.a.p.toNat,O$ R y⟩:Ka)).map λy=>(y.a,y.S))=A':=by
   rw[Cb,a2,ό,Sa];congr 1
   ·simp only[Function.comp,pN];cases C<;>simp
   ·rw[<-M,Cb];refine ke λy F=>?_;have hd:=h.v.d;rw[ό,Sa,Wc]at hd;have:y.a.p≠x.a.p:=λe=>hd.1$ e ▸ qj F;simp only[Function.comp];rw[pa λz=>this z.1]
  refine⟨⟨k.e,N,k.g,K,k.as.map λy=>⟨y.r,y.a,if y.a.p=x.a.p/\C=E8 then BD N else sP A B y.a.p.toNat,O$ R y⟩,k.Q,Ng⟩,⟨⟨k7.h0,k7.h1,?_,?_,?_,λj=>nr rfl⟩,?_,k7.h5,k7.h6,λy' a7=>?_,hB,by rw[Oa];omega,hk,?_,h.q⟩,?_⟩
  ·show _=BD (ώ$ MV _ _);rw[mm];exact k7.h3
  ·show _=BD (ώ$ MV _ _);rw[mm];exact k7.h4
  ·show (List.map _$ List.map _ k.as).Nodup;rw[Cb];exact h.v.d
  ·show _=BD (ώ$ MV _ _);rw[mm];exact k7.h2
  ·obtain⟨y,F,rfl⟩:=Ja.mp a7;exact⟨(k7.a y F).1,(k7.a y F).2,ϓ ⟨R y,rfl,by have:=(E y F).1;omega,a0 y F⟩⟩
  ·show Ej N (List.map pv _);rw[FL,eA];exact ok
  ·unfold Kp.s;dsimp only;rw[eA]
 ·intro q z X h5 h6 e;have lt:=(ba.mp e).1;have:=(E x w).1;exact Cg$ Cg$ f5 q z h5 h6 ⋯$ Cg$ f3 q z ⋯$ f2 q z X$ f1 q z X e
noncomputable def ym(a:Pa)(t:Ti):Int:=(t.y - 1) / a.e
noncomputable def gm(a:Pa)(k m:Int):Option Int:=if k<=m then BD (k * a.e)else A5
def m0(a:Pa):Int:=ym a a.x.t
def m1(a:Pa):Int:=ym a a.y.t
def kx(a:Pa)(m:Int):gV:=if m1 a<m then [7]else []
noncomputable def Wz(m:Int):D:=if m=0 then Up else Ng
def zk(a:Pa)(m:Int):Nat->Ks
 |0=>⟨a.e,m * a.e,a.x.t.a,kx a m,[(ac a.x (1 - a.x.q) 2,gm a (m0 a) (m - 1))],[],Wz m⟩
 |1=>⟨a.e,m * a.e,0,kx a m,[(ac a.x a.x.q 2,gm a (m0 a) m),(ac a.y (1 - a.y.q) 2,gm a (m1 a) (m - 1))],[],Wz m⟩
 |_=>⟨a.e,m * a.e,0,[7],[(ac a.y a.y.q 2,gm a (m1 a) m)],[],Wz m⟩
def Zm(a:Pa)(m:Int)(i:Nat):Nat->Ks:=λj=>if j<i then zk a m j else zk a (m - 1) j
def bA(a:Pa)(m:Int)(i:Nat):Option Int:=gm a (m0 a)$ if 2<=i then m else m - 1
def bB(a:Pa)(m:Int)(i:Nat):Option Int:=gm a (m1 a)$ if 3<=i then m else m - 1
def Js(a:Pa)(m:Int)(i:Nat):lv:=if i=1/\m=m0 a then [Ii 0]else if i=2/\m=m1 a then [Ii 1]else []
section
variable{a:Pa}(h:a.Ok)
include h
theorem uA t:ym a t * a.e<t.y/\t.y<=ym a t * a.e+a.e:=by
 have f:=h.e;have b:=Ds (t.y - 1) a.e;have c:=bn (t.y - 1) (by lia:a.e≠0);have d:=ik (t.y - 1) (by omega:0<a.e);rw[wG]at b;unfold ym;omega
theorem uD{i j}:i * a.e<j * a.e ↔ i<j:=Int.mul_lt_mul_right (by have:=h.e;omega)
theorem EW t{m}:(m * a.e<t.y/\t.y<=m * a.e+a.e) ↔ m=ym a t:=by
 obtain⟨d,f⟩:=uA h t;constructor
 ·rintro ⟨g,i⟩;have b:m * a.e<(ym a t+1) * a.e:=by rw[Ag];lia
  have c:ym a t * a.e<(m+1) * a.e:=by rw[Ag];lia
  have:=(uD h).mp b;have:=(uD h).mp c
  lia
 ·rintro rfl;exact⟨d,f⟩
theorem aI:1<=m1 a/\m1 a<m0 a:=by
 obtain⟨d,f⟩:=uA h a.x.t;obtain⟨g,i⟩:=uA h a.y.t;have c:=h.dy;have b:=h.dx;constructor
 ·have:0 * a.e<m1 a * a.e:=by show 0 * a.e<ym a a.y.t * a.e;omega
  have:=(uD h).mp this;lia
 ·have:m1 a * a.e<m0 a * a.e:=by show ym a a.y.t * a.e<ym a a.x.t * a.e;lia
  exact(uD h).mp this
theorem k8 t(d:t.w=7){m k}(i:k=m\/k=m - 1):lj (gm a (ym a t) k) t=E8\/m * a.e<t.y:=by
 obtain⟨b,f⟩:=uA h t;unfold gm;by_cases c:ym a t<=k
 ·rw[ja c];left;unfold lj;simp[d,b]
 ·right;have g:=h.e;have:m * a.e<=ym a t * a.e:=dc ⋯ ⋯
  lia
theorem DI{x}(a:x.Ok) q:T1 (ac x q 2) x.t:=⟨x.s1,rfl,rfl,a.w⟩
theorem K3{x}(i:x.Ok){q}(e:q=0\/q=1){L}{S}{r}(c:Ej L r)(j:r.length<=2)(g:lj S x.t=E8\/L<x.t.y):Ej L$ pw (ac x q 2,S)::r:=by
 refine⟨by simp;lia,λp a=>?_,λp a=>?_,λp a=>?_,λp a=>?_⟩<;>rcases Da.mp a with rfl|a
 ·exact e
 ·exact c.q p a
 ·exact⟨Nat.zero_lt_one,by show 1<=2;lia⟩
 ·exact c.f p a
 ·intro s b;obtain rfl:s=x.s1:=Wa.mp b;simp[Pt.s1,i.w]
 ·exact c.d p a
 ·intro s b t h;obtain rfl:s=x.s1:=Wa.mp b;obtain rfl:t=x.t:=Wa.mp h;exact g
 ·exact c.t p a
omit h in
theorem EL L:Ej L []:=⟨by simp,λp a=>(by cases a),λp a=>(by cases a),λp a=>(by cases a),λp a=>(by cases a)⟩
theorem gY{m}{A B}(b:A=A5/\B=A5 ↔ ¬ m1 a<m):kn A B (kx a$ m - 1)=kx a m:=by
 unfold kn kx;by_cases c:m1 a<m
 ·rw[pa (λz=>b.mp z c),ja c];split<;>rfl
 ·rw[ja$ b.mpr c,pa c,pa ⋯]
theorem Xw{k m}:gm a k m=A5 ↔ ¬ k<=m:=by unfold gm;split<;>simp_all
theorem VX m:gm a (m0 a) (m - 1)=A5/\gm a (m1 a) (m - 1)=A5 ↔ ¬ m1 a<m:=by
 have:=aI h;rw[Xw h,Xw h];lia
end
section
variable{a:Pa}(h:a.Ok){m:Int}
include h
theorem wV{t}{q}{K:gV}(d:t.p≠q)(c:m=ym a t->(7:Int)∈K):decide (m=ym a t)=(decide (t.p≠q) && (decide ((7:Int)∈K) && ((gm a (ym a t)$ m - 1).isNone && (decide (m * a.e<t.y) && decide (t.y<=m * a.e+a.e))))):=by
 rw[yc d,Bool.true_and,wf];simp only[Rb,Fa];rw[<-EW h t];refine⟨λb=>?_,λb=>b.2.2⟩;have e:=(EW h t).mp b;exact⟨c e,by rw[(Xw h).mpr ⋯];rfl,b⟩
omit h in
theorem ZP k:(if decide (m=k)=E8 then BD (m * a.e)else gm a k (m - 1))=gm a k m:=by
 unfold gm;by_cases c:m=k
 ·rw[ja$ yc c,ja ⋯,c]
 ·rw[pa (by simp[c])]
  grind
end
section
variable{a:Pa}(h:a.Ok){m:Int}(hm:1<=m)
include h hm
theorem MU{fz}{rd}{i}(ϊ:i<3){f}(S:Ha a (m * a.e) (bA a m i) (bB a m i) fz rd (Zm a m i) f):∃ (n:Nat) (b:Ea),Sw [O$ bs i,O 2] f=J (O n) b/\b[n]?=BD (Ϗ$ Js a m i)/\Ha a (m * a.e) (bA a m$ i+1) (bB a m$ i+1) fz rd (Zm a m$ i+1) b:=by
 have ϋ:HB<=f.length:=by
  obtain⟨k,P,_⟩:ri 27 _ f:=S.k 2 ⋯;have:=(ba.mp P.h6).1;unfold HB;lia
 have cm:Wz m=Ng:=pa ⋯;obtain⟨w1,w2⟩:=aI h;have ό:=jC h h.x 2;have o:=jC h h.y 2;have Y:=(Tp h.x h.x.q 2).2.1;have Z:=(Tp h.y h.y.q 2).2.1;have H:1 - a.x.q=0\/1 - a.x.q=1:=by have:=h.x.q;omega
 have I:1 - a.y.q=0\/1 - a.y.q=1:=by have:=h.y.q;omega
 have Q:=(Tp h.x H 2).2.1;have R:=(Tp h.y I 2).2.1;rw[h.px]at ό;rw[h.py]at o;have lk:∀ m,(kx a m).length<=1:=λm=>by unfold kx;split<;>simp
 have ok:∀ {x:Pt},x.Ok->∀ {k q:Int},(q=0\/q=1)->(k=m\/k=m - 1)->∀ {r:List Pv},Ej (m * a.e) r->r.length<=2->Ej (m * a.e) (pw (ac x q 2,gm a (ym a x.t) k)::r):=fun {x} T {k q} W P {r} X V=>K3 h T W X V$ k8 h _ T.w P
 match i,ϊ,S with
 |0,_,S=>
  have S0:ri 10 (zk a (m - 1) 0) f:=S.k 0 ⋯;have v:Bk a (m * a.e) (gm a (m0 a)$ m - 1) (gm a (m1 a)$ m - 1) f:=S.B;obtain⟨n,b,s,u,z,E,F⟩:=oO S0 ⋯ ϋ v (l:=[]) rfl ⋯ (λy d=>by
   obtain rfl:=Wa.mp d;exact ϐ ό.1) (p:=0) ό.1 (DI h h.x _) (λy d=>by cases d) (gY h$ VX h m) (by have:=lk$ m - 1;show (kx a$ m - 1).length<=10;omega) (by have:=lk m;omega) (C:=J8) (by simp[Q,h.x.tp]) rfl (ok h.x H (ϓ rfl) (EL _)$ by simp)
  refine⟨n,b,s,u,?_⟩;have:=S.KG (i:=0) ⋯ z F (by simpa using E);have G:Fn (Zm a m 0) 0 { zk a (m - 1) 0 with L:=m * a.e,K:=kx a m,c:=Ng,A:=[(ac a.x (1 - a.x.q) 2,sP (gm a (m0 a)$ m - 1) (gm a (m1 a)$ m - 1) 0)] }=Zm a m 1:=funext λj=>by
   unfold Fn Zm
   match j with
   |0=>simp[zk,cm,sP]
   |j+1=>simp
  exact G ▸ this
 |1,_,S=>
  have S0:ri 18 (zk a (m - 1) 1) f:=S.k 1 ⋯;have v:Bk a (m * a.e) (gm a (m0 a)$ m - 1) (gm a (m1 a)$ m - 1) f:=S.B;have M:decide (m=m0 a)=(decide (a.x.t.p≠(ac a.x a.x.q 2).q) && (decide ((7:Int)∈kx a m) && ((sP (gm a (m0 a)$ m - 1) (gm a (m1 a)$ m - 1) 0).isNone && (decide (m * a.e<a.x.t.y) && decide (a.x.t.y<=m * a.e+a.e))))):=by
   exact wV h (by rw[Y,h.x.tp];rcases h.x.q with e|e<;>omega) λe=>by
    unfold kx;rw[ja (by have:m=m0 a:=e;omega)];simp
  have g:(if decide (m=m0 a)=E8 then BD (m * a.e)else sP (gm a (m0 a)$ m - 1) (gm a (m1 a)$ m - 1) 0)=gm a (m0 a) m:=ZP _;obtain⟨n,b,s,u,z,E,F⟩:=oO S0 ⋯ ϋ v (l:=[(ac a.y (1 - a.y.q) 2,gm a (m1 a) (m - 1 - 1))]) rfl ⋯ (λy d=>by
   rcases Da.mp d with rfl|d
   ·exact ϐ ό.2
   ·obtain rfl:=Wa.mp d;exact ϓ o.1) (p:=0) ό.2 (DI h h.x _) (λy d=>by
   obtain rfl:=Wa.mp d;exact⟨_,DI h h.y _,by rw[R,h.y.tp]⟩) (gY h$ VX h m) (by have:=lk$ m - 1;show (kx a$ m - 1).length<=10;omega) (by have:=lk m;omega) M rfl (by
   rw[g];show Ej (m * a.e) [pw (ac a.x a.x.q 2,gm a (m0 a) m),pw (ac a.y (1 - a.y.q) 2,sP (gm a (m0 a)$ m - 1) (gm a (m1 a)$ m - 1) (ac a.y (1 - a.y.q) 2).p.toNat)];rw[o.1];exact ok h.x h.x.q (ϐ rfl) (ok h.y I (ϓ rfl) (EL _)$ by simp) ⋯)
  refine⟨n,b,s,?_,?_⟩
  ·rw[u];unfold Js;by_cases c:m=m0 a<;>simp[c]
  have:=S.KG (i:=1) ⋯ z F E;rw[g]at this;have G:Fn (Zm a m 1) 1 { zk a (m - 1) 1 with L:=m * a.e,K:=kx a m,c:=Ng,A:=(ac a.x a.x.q 2,gm a (m0 a) m)::[(ac a.y (1 - a.y.q) 2,gm a (m1 a) (m - 1 - 1))].map λy=>(y.1,sP (gm a (m0 a)$ m - 1) (gm a (m1 a)$ m - 1) y.1.p.toNat) }=Zm a m 2:=funext λj=>by
   unfold Fn Zm
   match j with
   |0=>simp
   |1=>simp[zk,cm,sP,o.1]
   |j+2=>simp[show ¬ j+2<1 by omega,show ¬ j+2<2 by omega]
  have N:(if decide (m=m0 a)=E8/\(0:Nat)=0 then BD (m * a.e)else gm a (m0 a) (m - 1))=gm a (m0 a) m:=by rw[<-g];simp[sP]
  rw[N]at this;exact G ▸ (by simpa using this:Ha a (m * a.e) (gm a (m0 a) m) (gm a (m1 a)$ m - 1) fz rd _ b)
 |2,_,S=>
  have S0:ri 27 (zk a (m - 1) 2) f:=S.k 2 ⋯;have v:Bk a (m * a.e) (gm a (m0 a) m) (gm a (m1 a)$ m - 1) f:=S.B;have M:decide (m=m1 a)=(decide (a.y.t.p≠(ac a.y a.y.q 2).q) && (decide ((7:Int)∈[(7:Int)]) && ((sP (gm a (m0 a) m) (gm a (m1 a)$ m - 1) 1).isNone && (decide (m * a.e<a.y.t.y) && decide (a.y.t.y<=m * a.e+a.e))))):=by
   exact wV h (by rw[Z,h.y.tp];rcases h.y.q with e|e<;>omega) λD=>by simp
  have g:(if decide (m=m1 a)=E8 then BD (m * a.e)else sP (gm a (m0 a) m) (gm a (m1 a)$ m - 1) 1)=gm a (m1 a) m:=ZP _;obtain⟨n,b,s,u,z,E,F⟩:=oO S0 ⋯ ϋ v (l:=[]) rfl ⋯ (λy d=>by
   obtain rfl:=Wa.mp d;exact ϓ o.2) (p:=1) o.2 (DI h h.y _) (λy d=>by cases d) (K:=[7]) (by unfold kn;split<;>rfl) (by show 1<=10;omega) ⋯ M rfl (by rw[g];exact ok h.y h.y.q (ϐ rfl) (EL _) ⋯)
  refine⟨n,b,s,?_,?_⟩
  ·rw[u];unfold Js;by_cases c:m=m1 a<;>simp[c]
  have:=S.KG (i:=2) ⋯ z F E;rw[g]at this;have G:Fn (Zm a m 2) 2 { zk a (m - 1) 2 with L:=m * a.e,K:=[7],c:=Ng,A:=(ac a.y a.y.q 2,gm a (m1 a) m)::([]:List (Ac × Option Int)).map λy=>(y.1,sP (gm a (m0 a) m) (gm a (m1 a)$ m - 1) y.1.p.toNat) }=Zm a m 3:=funext λj=>by
   unfold Fn Zm
   match j with
   |0=>simp
   |1=>simp
   |2=>simp[zk,cm]
   |j+3=>simp[show ¬ j+3<2 by omega,show ¬ j+3<3 by omega]
  have N:(if decide (m=m1 a)=E8/\(1:Nat)≠0 then BD (m * a.e)else gm a (m1 a) (m - 1))=gm a (m1 a) m:=by rw[<-g];simp[sP]
  rw[N]at this;exact G ▸ (by simpa using this:Ha a (m * a.e) (gm a (m0 a) m) (gm a (m1 a) m) fz rd _ b)
end
section
variable{a:Pa}{N:Int}{A B:Option Int}{fz:Bool}{rd:lv}{Z Z':Nat->Ks}{σ:Ea}
def Ha.congr(S:Ha a N A B fz rd Z σ)(e:∀ i,i<3->Z i=Z' i):Ha a N A B fz rd Z' σ:=⟨S.H,S.B,λi b=>e i b ▸ S.k i b⟩
def Ha.Uc(S:Ha a N A B fz rd Z σ) b:Ha a N A B b rd Z$ σ.set 7$ if b then ϣ k3 else ώ k3:=
 ⟨⟨yd ⋯ S.H.h0,eu S.H.hk,yd ⋯ S.H.hu⟩,S.B.set ⋯ _,λi c=>(S.k i c).low (dD i).1 ⋯ S.H.hk (by cases fz<;>rfl) _⟩
def aT(S:Ha a N A B fz rd Z σ){i}(b:i<3):xB [O$ bs i] σ=J (U (Z i).L) σ:=by
 obtain⟨k,c,e⟩:=S.k i b;rw[<-e];show _=J (U k.L) σ;unfold xB eg;simp[(tQ c.v)]
def JL(S:Ha a N A B fz rd Z σ):nw [O 1] σ=J (O 2) σ:=by
 unfold nw eg;simp[(IE S),(kg S.B.h2)]
def Ě(S:Ha a N A B fz rd Z σ){i}(d:i<3){n}{b}(e:Sw [O$ bs i,O 2] σ=J (O n) b):YC [O 1,U i] σ=J (O n) b:=by
 unfold YC Hf;simp[(λc=>Gn S (x:="keeper") 2 Vr c rfl),(gF S d),(IE S),(λc=>(S.k i d).Vi (m:="look") 2 Sw c rfl),e]
end
theorem wS a m i:Zm a m 0 i=zk a (m - 1) i:=by rfl
def fY a m{i}(b:i<3):Zm a m 3 i=zk a m i:=by unfold Zm;rw[ja b]
def St(a:Pa)(N m:Int)(b:Ea):Prop:=Ha a N (gm a (m0 a) m) (gm a (m1 a) m) J8 [] (zk a m) b
def Pr(a:Pa)(t m:Int):Prop:=t=0/\m=0\/m * a.e<t/\t<=m * a.e+a.e/\0<=m
section
variable{a:Pa}(h:a.Ok)
include h
theorem dS m{i}(b:i<3):(zk a m i).L=m * a.e:=by
 match i,b with
 |0,_=>rfl
 |1,_=>rfl
 |2,_=>rfl
theorem fP{N m}{i}(d:i<3){f}(y:Option D)(p:1<=m)(o:N=m * a.e)(S:Ha a N (bA a m i) (bB a m i) E8 [] (Zm a m i) f):∃ b:Ea,du [BD$ O 1,BD$ O$ bs i] f=J (Ϙ [BD$ O 1,BD$ O$ bs i]) b/\Ha a N (bA a m$ i+1) (bB a m$ i+1) E8 [] (Zm a m$ i+1) b:=by
 subst o;obtain⟨n,b,e,_,g⟩:=MU h p d S;refine⟨b,?_,g⟩;have lk:=aT S d;have j:(Zm a m i i).L=(m - 1) * a.e:=by unfold Zm;rw[pa ⋯,dS h _ d]
 rw[j]at lk;have l:decide (m * a.e - (m - 1) * a.e ≥ a.e)=E8:=yc (by rw[Int.sub_mul];lia);simp[(IE S),(OE S.B),(λc=>S.B.Vi (x:="today") 1 Qs c rfl),lk,(λc=>(S.k i d).Vi (m:="looked") 1 xB c rfl),(HY S),l,(λc=>(S.k i d).Vi (m:="look") 2 Sw c rfl),e]
theorem oP{N m}{i}(c:i<3){d}(g:N - m * a.e<a.e)(S:Ha a N (gm a (m0 a) m) (gm a (m1 a) m) E8 [] (zk a m) d):du [BD$ O 1,BD$ O$ bs i] d=J (Ϙ [BD$ O 1,BD$ O$ bs i]) d:=by
 have lk:=aT S c;rw[dS h _ c]at lk;have f:decide (N - m * a.e ≥ a.e)=J8:=ub ⋯;simp[(IE S),(OE S.B),(λb=>S.B.Vi (x:="today") 1 Qs b rfl),lk,(λb=>(S.k i c).Vi (m:="looked") 1 xB b rfl),(HY S),f]
theorem ybq{N m}{b}(S:St a N m b):∃ c,tD [O 2] b=J Ϝ c/\St a (N+1) m c:=by
 have d:=Lj S.B.h2;have f:∀ e:Ev,sA e [7,9] "day" (eC$ U 1) _ b=J _ (b.set 2$ ϔ 9$ HI a _):=λe=>by
  have lk:List.lookup ("day" : Str) (HI a N)=BD _:=rfl;unfold sA;rw[d];simp only[lk];rw[wn,Cy,dm];unfold yI;simp only[S.B.h2];rfl
 refine⟨b.set 2 _,?_,⟨yd ⋯ S.H.h0,yd ⋯ S.H.hk,yd ⋯ S.H.hu⟩,⟨eu S.B.h2,yd ⋯ S.B.h3,yd ⋯ S.B.h4,yd ⋯ S.B.h5,yd ⋯ S.B.h6⟩,λi d=>(S.k i d).low (dD i).1 ⋯ S.B.h2 rfl _⟩;unfold tD Hf;simp[f]
theorem zvz{N m}{l}(S:St a N m l)(r:Pr a N m\/1<=m/\N=m * a.e):∃ (f:Int) (j:Ea),mB [O 1] l=J Ϝ j/\St a (N+1) f j/\Pr a (N+1) f/\m<=f:=by
 have W:=h.e;have z:=S.Uc E8;have G:Vd (bc [16] "keepers") (ya 0) [BD$ O 1,A5] l=J (O 7) l:=by
  have:=bJ S;simp[this]
 have ϊ:SK (Vd (bc [16] "keepers")$ ya 0) [BD$ O 1,A5] l=J (wA k3) (l.set 7$ ϣ k3):=by
  show Kc _ UI _=_;rw[Yl,G,Ad];unfold UI;simp only[S.H.hk];rfl
 have t:∀ (f:Int) (b:Ea),mo (wA k3) (pd 1) du 1001 0 [BD$ O 1,A5] (l.set 7$ ϣ k3)=J (Ϙ [BD$ O 1,BD$ O 27]) b->Ha a N (gm a (m0 a) f) (gm a (m1 a) f) E8 [] (zk a f) b->Pr a (N+1) f->m<=f->∃ (f:Int) (j:Ea),mB [O 1] l=J Ϝ j/\St a (N+1) f j/\Pr a (N+1) f/\m<=f:=λf b Q C y P=>by
  have V:=hJ (A:=k3) (A':=k3) G S.H.hk ϊ Q C.H.hk;have w:St a N f$ b.set 7$ ώ k3:=C.Uc J8;obtain⟨j,e,I⟩:=ybq h w;refine⟨f,j,?_,I,y,P⟩;have p:=IE w;have R:=λM=>w.B.Vi (x:="next_day") 1 tD M rfl;generalize b.set 7 (ώ k3)=v at *;unfold mB OX Hf;simp[V,p,R,e,-Tt]
 by_cases c:N=(m+1) * a.e/\Pr a N m
 ·have q:1<=m+1:=by rcases c.2 with⟨_,e⟩|⟨_,_,e⟩<;>omega
  have ό:Ha a N (bA a (m+1) 0) (bB a (m+1) 0) E8 [] (Zm a (m+1) 0)$ l.set 7$ ϣ k3:=by
   have e:m+1 - 1=m:=by omega
   unfold bA bB;rw[pa ⋯,pa ⋯,e];exact z.congr λi U=>by rw[wS,e]
  obtain⟨u,n,T1⟩:=fP h (i:=0) ⋯ A5 q c.1 ό;obtain⟨b,o,K⟩:=fP h (i:=1) ⋯ A5 q c.1 T1;obtain⟨v,s,L⟩:=fP h (i:=2) ⋯ A5 q c.1 K;refine t (m+1) v ?_ (L.congr λi ϋ=>fY a (m+1) ϋ) (ϓ ⟨by omega,by omega,by omega⟩) ⋯;rw[Gs (k:=1000) (d:=O 10) rfl rfl];have n:du ([BD$ O 1,A5].set 1$ BD$ O 10) (l.set 7$ ϣ k3)=_:=n;rw[n,Ad,Yh,Gs (k:=999) (d:=O 18) rfl rfl];have o:du ([BD$ O 1,BD$ O 10].set 1$ BD$ O 18) u=_:=o;have s:du ([BD$ O 1,BD$ O 18].set 1$ BD$ O 27) b=_:=s;show (du ([BD$ O 1,BD$ O 10].set 1$ BD$ O 18) u).bind _=_;rw[o,Ad,Yh,Gs (k:=998) (d:=O 27) rfl rfl];show (du ([BD$ O 1,BD$ O 18].set 1$ BD$ O 27) b).bind _=_;rw[s,Ad,Yh];exact OA (k:=997) rfl
 ·have lt:N - m * a.e<a.e:=by
   rw[Ag]at c;rcases r with r|⟨_,e⟩
   ·rcases r with⟨n,o⟩|⟨D,E,F⟩
    ·rw[n,o];omega
    ·have:N≠m * a.e+a.e:=λe=>c ⟨by omega,ϓ ⟨D,E,F⟩⟩;omega
   ·omega
  have y:Pr a (N+1) m:=by
   right;rcases r with r|⟨g,e⟩
   ·rcases r with⟨n,o⟩|⟨D,E,F⟩
    ·rw[n,o];omega
    ·omega
   ·omega
  have T:Ha a N (gm a (m0 a) m) (gm a (m1 a) m) E8 [] (zk a m)$ l.set 7$ ϣ k3:=z;refine t m _ ?_ T y$ Gm _;rw[Gs (k:=1000) (d:=O 10) rfl rfl];have n:du ([BD$ O 1,A5].set 1$ BD$ O 10) (l.set 7$ ϣ k3)=_:=oP h (i:=0) ⋯ lt T;rw[n,Ad,Yh,Gs (k:=999) (d:=O 18) rfl rfl];have o:du ([BD$ O 1,BD$ O$ bs 0].set 1$ BD$ O 18) (l.set 7$ ϣ k3)=_:=oP h (i:=1) ⋯ lt T;rw[o,Ad,Yh,Gs (k:=998) (d:=O 27) rfl rfl];have s:du ([BD$ O 1,BD$ O$ bs 1].set 1$ BD$ O 27) (l.set 7$ ϣ k3)=_:=oP h (i:=2) ⋯ lt T;rw[s,Ad,Yh];exact OA (k:=997) rfl
end
def ri.worth{b}{z}{a}(S:ri b z a):Dz [O b] a=J (U$ Wk z) a:=by
 obtain⟨k,h,rfl⟩:=S;rw[CS h,VI]
def ri.given{b}{z}{a}(S:ri b z a):yD [O b] a=J (U z.g) a:=by
 obtain⟨k,h,rfl⟩:=S;show _=J (U k.g) a;unfold yD eg;simp[(j3 h.v)]
def ri.words{b}{z}{a}(S:ri b z a):Cr [O b] a=J (ύ$ (ks z.K).map U) a:=by
 obtain⟨k,h,rfl⟩:=S;exact kY h.v h.z
section
variable{a:Pa}{N:Int}{A B:Option Int}{rd:lv}{Z:Nat->Ks}{σ:Ea}(S:Ha a N A B J8 rd Z σ)
include S
theorem yQ:qf [O 1] σ=J (ύ$ [0,1,2].map λi:Nat=>U$ Wk (Z i)+(Z i).g) σ:=by
 have f:∀ c,zt (U 3) c=J (.seq$ [0,1,2].map λi:Nat=>U i) c:=λc=>by rw[Qy ⋯ ⋯];rfl
 have l:Di (Uk (io$ Jo$ eC$ U 3) [0] (pd 0) zl$ Fb jh (vf [(15,Dz)] 1 "worth" (vf [(16,Vr)] 2 "keeper" (ya 2)$ Qa (ya 0) zb) zb)$ vf [(15,yD)] 1 "given" (vf [(16,Vr)] 2 "keeper" (ya 2)$ Qa (ya 0) zb) zb) [BD$ O 1] σ=J (ύ$ [0,1,2].map λi:Nat=>U$ Wk (Z i)+(Z i).g) σ:=by
  refine Nu (s:=.seq$ [0,1,2].map λi:Nat=>U i) (λi:Nat=>U i) _ (by simp[f]) (λi h=>Eb BD$ Rr [0,1,2] _ i) ⋯ (λi a j=>?_) (λh h=>rfl);have a:i<3:=by simp at a;lia
  have T:=S.app j;have e:=λb=>(T.k i a).Vi (m:="given") 1 yD b rfl;generalize σ++j=c at *;simp[(λb=>Gn T (x:="keeper") 2 Vr b rfl),(gF T a),((T.k i a).worth),((T.k i a).given),(λb=>(T.k i a).Vi (m:="worth") 1 Dz b rfl),e]
 have d:Af ([0,1,2].map λi:Nat=>U$ Wk (Z i)+(Z i).g)=E8:=rfl;unfold qf Tc;dsimp only;generalize ([0,1,2].map λi:Nat=>U$ Wk (Z i)+(Z i).g)=L at *;simp[l,d,-Ip]
end
def zh5 u t a:Bh [U u,U t] a=J (sD$ if u<t then BD u else A5) a:=by
 have fz:∀ S:Option Int,Yf a (J _$ a++[ώ$ sK S])=J (sD S) a:=λS=>by
  unfold Yf;dsimp only;rw[ja ⋯,TF (j:=[]) (m:=5) (by cases S<;>rfl)];rfl
 unfold Bh Tc;by_cases c:u<t
 ·have st:∀ b,An b _ (O a.length) _ (a++[ώ []])=J (Ϙ b) (a++[ώ$ sK$ BD u]):=λb=>by
   rw[jq (kvs:=[]) ⋯ ⋯,az];rfl
  have:=fz$ BD u;rw[ja c];simp[c,st,this]
 ·have:=fz A5;rw[pa c];simp[c];exact this
def Xf(a:Pa):D:=ύ [U$ m0 a * a.e,U$ m1 a * a.e]
def KQ a b:Kb (Xf a) (U 0) b=J (U$ m0 a * a.e) b:=by unfold Xf;simp
def dY a b:Kb (Xf a) (U 1) b=J (U$ m1 a * a.e) b:=by unfold Xf;simp
section
variable{a:Pa}(h:a.Ok){t m:Int}{σ:Ea}(S:St a t m σ)(hP:Pr a t m)(ht:0<t)
include h hP ht
theorem Z7 k:(if k * a.e<t then BD (k * a.e)else A5)=gm a k m:=by
 unfold gm;rcases hP with⟨e,_⟩|⟨b,d,f⟩
 ·lia
 by_cases c:k<=m
 ·have:=dc c (show 0<=a.e by have:=h.e;lia);rw[ja c,ja ⋯]
 ·have:=dc (show m+1<=k by lia) (show 0<=a.e by have:=h.e;lia);rw[pa c,pa ⋯]
include S
theorem n5:Ah [O 1,Xf a,U a.e] σ=J (ϒ E8) σ:=by
 have V:=OE S.B;have Q:=λd=>S.B.Vi (x:="today") 1 Qs d rfl;have l:=λd=>Gn S (x:="book") 1 nw d rfl;have bk:=JL S;have s0:=KQ a;have s1:=dY a;have y:∀ b,zt (U 2) b=J (.seq [U 0,U 1]) b:=λb=>by rw[Qy ⋯ ⋯];rfl
 have v:∀ (p:Nat) (k:Int) (b:Ea) (q:Option D),p<2->St a t m b->(∀ σ,Kb (Xf a) (U p) σ=J (U$ k * a.e) σ)->sP (gm a (m0 a) m) (gm a (m1 a) m) p=gm a k m->KC [BD$ O 1,BD$ Xf a,BD$ U a.e,BD$ U t,BD$ U p,q] b=J (Ϙ [BD$ O 1,BD$ Xf a,BD$ U a.e,BD$ U t,BD$ U p,q]) (b++[ώ$ sK$ gm a k m]):=λp k b q N T ϊ H=>by
  have l:=λd=>Gn T (x:="book") 1 nw d rfl;have bk:=JL T;have z:=YY T.B N;rw[H]at z;have P:=λd=>T.B.Vi (x:="shown_for") 2 Zy d rfl;have s:=zh5 (k * a.e) t$ b++[ώ$ sK$ gm a k m];rw[Z7 h hP ht k]at s;have n:lF (O b.length) (sD$ gm a k m) (b++[ώ$ sK$ gm a k m])=J (ϒ J8) (b++[ώ$ sK$ gm a k m]):=by
   have C:=yM b$ sK$ gm a k m;have E:ig (b++[ώ$ sK$ gm a k m]) (sD$ gm a k m)=BD (sK$ gm a k m):=by
    unfold sD ig;cases gm a k m<;>rfl
   have lk:vx (sK$ gm a k m) (sK$ gm a k m)=E8:=by
    cases gm a k m<;>simp[sK,vx]
   unfold lF;simp only[C,E];rw[ja lk]
  generalize Xf a=SL,sD (gm a k m)=X,sK (gm a k m)=Y at *;simp[l,bk,z,P,ϊ,s,n]
 have w:∀ (i:Nat) (b:Ea) (o:Option D),i<2->St a t m b->DC [BD$ O 1,BD$ Xf a,BD$ U a.e,BD$ U t,o,BD$ U i] b=J (Ϙ [BD$ O 1,BD$ Xf a,BD$ U a.e,BD$ U t,o,BD$ U i]) b:=λi b o M T=>by
  have mk:=λd=>Gn T (x:="keeper") 2 Vr d rfl;have ϋ:=gF T (i:=i) ⋯;have A:=(T.k i$ by omega).words;have R:=λd=>(T.k i$ by omega).Vi (m:="words") 1 Cr d rfl;have G:(zk a m i).K=kx a m:=by
   match i,M with
   |0,_=>rfl
   |1,_=>rfl
  rw[G]at A;have u:Uy J8 (U 7) (ύ$ (ks$ kx a m).map U) b=J (ϒ ((ks$ kx a m).any (·== 7))) b:=fV (neg:=J8) (ws:=ks$ kx a m) rfl;have F:((ks$ kx a m).any (·== (7:Int)))=decide (t > m1 a * a.e+a.e):=by
   rcases hP with⟨e,_⟩|⟨Z,g2,g3⟩
   ·omega
   have he:=h.e;by_cases c:m1 a<m
   ·have:=dc (show m1 a+1<=m by omega) (show 0<=a.e by omega);rw[Ag]at this;rw[show ks (kx a m)=[7] by rw[show kx a m=[7]from ja c];exact Kt.mp$ bv [7]];exact(yc$ by omega).symm
   ·have:=dc (show m<=m1 a by omega) (show 0<=a.e by omega);rw[show ks (kx a m)=[] by rw[show kx a m=[]from pa c];exact List.perm_nil.mp$ bv []];exact(ub$ by omega).symm
  rw[F]at u;have n:sj (ϒ$ decide$ t > m1 a * a.e+a.e) _ b=J (ϒ J8) b:=Gx (by simp[pl]);generalize Xf a=SL,(ks$ kx a m).map U=W at *;simp[mk,ϋ,A,R,u,s1,n]
 have T1:St a t m$ σ++[ώ$ sK$ gm a (m0 a) m]:=Ha.app S _;have r:St a t m$ σ++[ώ$ sK$ gm a (m0 a) m]++[ώ$ sK$ gm a (m1 a) m]:=Ha.app T1 _;have I:Qk (Jo$ eC$ U 2) (pd 4) KC [BD$ O 1,BD$ Xf a,BD$ U a.e,BD$ U t,A5,A5] σ=J (Ϙ [BD$ O 1,BD$ Xf a,BD$ U a.e,BD$ U t,BD$ U 1,A5]) (σ++[ώ$ sK$ gm a (m0 a) m]++[ώ$ sK$ gm a (m1 a) m]):=by
  rw[nB];simp only[qI,Cy,Ad,y,dm,kD];rw[Qo];simp only[Za,jb];have f:KC [BD$ O 1,BD$ Xf a,BD$ U a.e,BD$ U t,BD$ U 0,A5] σ=_:=v 0 (m0 a) σ A5 ⋯ S s0 rfl;have g:KC [BD$ O 1,BD$ Xf a,BD$ U a.e,BD$ U t,BD$ U 1,A5] _=_:=v 1 (m1 a) _ A5 ⋯ T1 s1 rfl;rw[f,Ad,Yh,Qo];simp only[Za,jb];show (KC [BD$ O 1,BD$ Xf a,BD$ U a.e,BD$ U t,BD$ U 1,A5] _).bind _=_;rw[g,Ad,Yh,nz];rfl
 generalize j:σ++[ώ$ sK$ gm a (m0 a) m]++[ώ$ sK$ gm a (m1 a) m]=b at *;have ό:Qk (Jo$ eC$ U 2) (pd 5) DC [BD$ O 1,BD$ Xf a,BD$ U a.e,BD$ U t,BD$ U 1,A5] b=J (Ϙ [BD$ O 1,BD$ Xf a,BD$ U a.e,BD$ U t,BD$ U 1,BD$ U 1]) b:=by
  rw[nB];simp only[qI,Cy,Ad,y,dm,kD];rw[Qo];simp only[Za,jb];have f:DC [BD$ O 1,BD$ Xf a,BD$ U a.e,BD$ U t,BD$ U 1,BD$ U 0] b=_:=w 0 b _ ⋯ r;have g:DC [BD$ O 1,BD$ Xf a,BD$ U a.e,BD$ U t,BD$ U 1,BD$ U 1] b=_:=w 1 b _ ⋯ r;rw[f,Ad,Yh,Qo];simp only[Za,jb];show (DC [BD$ O 1,BD$ Xf a,BD$ U a.e,BD$ U t,BD$ U 1,BD$ U 1] b).bind _=_;rw[g,Ad,Yh,nz];rfl
 have L:Ch 6 GG [O 1,Xf a,U a.e] σ=J (ϒ E8) b:=by
  unfold GG;rw[fC];show oo (lc (Xe 3 _) _ [BD$ O 1,BD$ Xf a,BD$ U a.e,A5,A5,A5] σ)=_;refine Ll (ρ':=[BD$ O 1,BD$ Xf a,BD$ U a.e,BD$ U t,A5,A5]) (σ':=σ) (by simp[l,bk,Q,V])$ Ll I$ Ll ό ⋯
 have fz:Yf σ (J (ϒ E8) b)=J (ϒ E8) σ:=by rw[<-j];exact HH rfl ⋯
 unfold Ah Tc
 (try dsimp only);rw[Ur]
 show Yf σ (Ch 6 GG [O 1,Xf a,U a.e] σ)=_;rw[L,fz]
end
section
variable{a:Pa}(h:a.Ok){t m:Int}{σ:Ea}(S:St a t m σ)(hP:Pr a t m)
include h S hP
theorem Ï(ht:0<=t) c:∃ u A,ve [O 1,Xf a,U a.e,U c] σ=J (ϒ E8) A/\St a t u A/\(Pr a t u\/1<=u/\t=u * a.e)/\m<=u:=by
 have he:=h.e;have td:=OE S.B;have mt:=λo=>S.B.Vi (x:="today") 1 Qs o rfl;have mb:=λo=>Gn S (x:="book") 1 nw o rfl;have bk:=JL S;have Q:∀ σ,pq (U t) (U a.e) σ=J (U$ t % a.e) σ:=λσ=>ZK t a.e ⋯;have l:∀ σ,sj (U$ t % a.e) (U 0) σ=J (ϒ$ decide$ t % a.e≠0) σ:=λσ=>IY _ _ σ;have f1:iY [BD$ O 1,BD$ Xf a,BD$ U a.e,BD$ U c,A5,A5,A5,A5] σ=J (Ϙ [BD$ O 1,BD$ Xf a,BD$ U a.e,BD$ U c,BD$ U t,A5,A5,A5]) σ:=by
  generalize Xf a=SL at *;simp[mb,bk,mt,td]
 have W:∀ (r:ii D),oo (lc CJ (lc jK$ lc gJ$ vh$ eC$ ϒ E8) [BD$ O 1,BD$ Xf a,BD$ U a.e,BD$ U c,BD$ U t,A5,A5,A5] σ)=r->ve [O 1,Xf a,U a.e,U c] σ=r:=λr e=>by
  unfold ve jU
  (try dsimp only);rw[Ur,fC]
  exact Ll f1 e
 by_cases k:c % 2=0\/t % a.e≠0\/t=0
 ·refine⟨m,σ,W _ ?_,S,ϐ hP,Gm _⟩;have M:CJ [BD$ O 1,BD$ Xf a,BD$ U a.e,BD$ U c,BD$ U t,A5,A5,A5] σ=J (.rt$ ϒ E8) σ:=by
   generalize Xf a=SL at *;by_cases s:c % 2=0
   ·simp[s]
   ·have E:(c % 2 == 0)=J8:=by simp[s]
    by_cases j:t % a.e≠0
    ·rw[yc j]at l;simp[E,Q,l]
    ·have k3:t=0:=by
      rcases k with k|k|k
      ·exact absurd k s
      ·exact absurd k j
      ·exact k
     rw[ub j]at l;subst k3;simp[E,Q,l]
  rw[Pi,M,Ad,Þ,rY]
 ·have s:¬ c % 2=0:=λe=>k$ ϐ e;have j:¬ t % a.e≠0:=λe=>k$ ϓ$ ϐ e;have k3:¬ t=0:=λe=>k$ ϓ$ ϓ e;rcases hP with⟨e,_⟩|⟨V,g2,g3⟩
  ·exact absurd e k3
  have F:t=(m+1) * a.e:=by
   have j:t % a.e=0:=zaF.mp j;have K:=Ds t a.e;rw[j,br,wG]at K;rw[<-K]at V;have:=(uD h).mp V;have ϋ:t / a.e * a.e<(m+1+1) * a.e:=by rw[Ag,Ag];omega
   have:=(uD h).mp ϋ;have e:t / a.e=m+1:=by omega
   rw[<-K,e]
  have P:1<=m+1:=by omega
  have M:CJ [BD$ O 1,BD$ Xf a,BD$ U a.e,BD$ U c,BD$ U t,A5,A5,A5] σ=J (Ϙ [BD$ O 1,BD$ Xf a,BD$ U a.e,BD$ U c,BD$ U t,A5,A5,A5]) σ:=by
   have E:(c % 2 == 0)=J8:=by simp[s]
   have b3:(t == 0)=J8:=by simp[k3]
   rw[ub j]at l;generalize Xf a=SL at *;simp[E,Q,l,b3]
  have l0:∀ σ,Nr [] σ=J (ύ []) σ:=λσ=>aA rfl;have l1:∀ x σ,Nr [x] σ=J (ύ [x]) σ:=λx σ=>aA rfl;have l3:∀ x y z σ,Nr [x,y,z] σ=J (ύ [x,y,z]) σ:=λx y z σ=>aA rfl;have f3:jK [BD$ O 1,BD$ Xf a,BD$ U a.e,BD$ U c,BD$ U t,A5,A5,A5] σ=J (Ϙ [BD$ O 1,BD$ Xf a,BD$ U a.e,BD$ U c,BD$ U t,BD$ ύ [ύ [],ύ [Ii 0],ύ [Ii 1]],A5,A5]) σ:=by
   unfold Ii;generalize Xf a=SL at *;simp[l1,l3,aA]
  have step:∀ (i:Nat) (f:Ea) (I w:Option D),i<3->Ha a t (bA a (m+1) i) (bB a (m+1) i) J8 [] (Zm a (m+1) i) f->∃ b:Ea,Cw [BD$ O 1,BD$ Xf a,BD$ U a.e,BD$ U c,BD$ U t,BD$ ύ [ύ [],ύ [Ii 0],ύ [Ii 1]],BD$ U i,w] f=J (Ϙ [BD$ O 1,BD$ Xf a,BD$ U a.e,BD$ U c,BD$ U t,BD$ ύ [ύ [],ύ [Ii 0],ύ [Ii 1]],BD$ U i,BD$ ύ$ Js a (m+1) i]) b/\Ha a t (bA a (m+1)$ i+1) (bB a (m+1)$ i+1) J8 [] (Zm a (m+1)$ i+1) b:=λi f I w p T=>by
   rw[F]at T;obtain⟨n,b,e,ϊ,ό⟩:=MU h P p T;have g:=Ě T p e;have v:=λo=>Gn T (x:="look") 2 YC o rfl;have X:pl 8 (ύ$ Js a (m+1) i)=E8:=by unfold Js Ii;split<;>(try split)<;>simp[pl]
   have d:sj (O n) (ύ$ Js a (m+1) i) b=J (ϒ J8) b:=by
    have L:il b 8 (O n) (ύ$ Js a (m+1) i)=il b 8 (ύ$ Js a (m+1) i) (ύ$ Js a (m+1) i):=by
     show xr _ (L4.kd b$ O n) _=xr _ (L4.kd b$ ύ$ Js a (m+1) i) _;congr 1;unfold L4.kd We;simp[ϊ]
    exact tE$ L.trans$ lG 8 _ X
   refine⟨b,?_,by rw[F];exact ό⟩;have Y:=KQ a;have Z:=dY a;have q:∀ k:Int,(k * a.e == t)=decide (m+1=k):=λk=>by
    rw[F,wf,Rb,Bf];exact⟨λe=>(Int.eq_of_mul_eq_mul_right (by omega:a.e≠0) e).symm,λe=>by rw[e]⟩
   have G:=q$ m0 a;have H:=q$ m1 a;unfold Js at d ⊢;clear X ϊ;generalize Xf a=SL,Ii 0=D0,Ii 1=D1 at *
   match i,p,g,d with
   |0,_,g,d=>
    simp at d g;simp[Cw,g,v,d]
   |1,_,g,d=>
    simp at g;by_cases k:m+1=m0 a
    ·rw[yc k]at G;simp[k]at d;simp[Cw,Y,G,k,g,v,d]
    ·rw[ub k]at G;simp[k]at d;simp[Cw,Y,G,k,g,v,d]
   |2,_,g,d=>
    simp at g;by_cases k:m+1=m1 a
    ·rw[yc k]at H;simp[k]at d;simp[Cw,Z,H,k,g,v,d]
    ·rw[ub k]at H;simp[k]at d;simp[Cw,Z,H,k,g,v,d]
  have T0:Ha a t (bA a (m+1) 0) (bB a (m+1) 0) J8 [] (Zm a (m+1) 0) σ:=by
   have e:m+1 - 1=m:=by omega
   unfold bA bB;rw[pa ⋯,pa ⋯,e];exact S.congr λi _=>by rw[wS,e]
  obtain⟨f,L,T1⟩:=step 0 σ A5 A5 ⋯ T0;obtain⟨b,e2,ό⟩:=step 1 f A5 _ ⋯ T1;obtain⟨C,e3,T3⟩:=step 2 b A5 _ ⋯ ό;refine⟨m+1,C,W _ ?_,T3.congr λi p=>fY a (m+1) p,ϓ ⟨by omega,F⟩,by omega⟩;have rk:∀ R,zt (U 3) R=J (.seq [U 0,U 1,U 2]) R:=λR=>by rw[Qy ⋯ ⋯];rfl
  have N:∃ I w,gJ [BD$ O 1,BD$ Xf a,BD$ U a.e,BD$ U c,BD$ U t,BD$ ύ [ύ [],ύ [Ii 0],ύ [Ii 1]],A5,A5] σ=J (Ϙ [BD$ O 1,BD$ Xf a,BD$ U a.e,BD$ U c,BD$ U t,BD$ ύ [ύ [],ύ [Ii 0],ύ [Ii 1]],I,w]) C:=by
   refine⟨BD$ U ((2:Nat):Int),BD$ ύ$ Js a (m+1) 2,?_⟩;unfold gJ;rw[nB];simp only[qI,Cy,Ad,rk,dm,kD];rw[Qo];simp only[Za,jb];show (Cw [_,_,_,_,_,_,BD$ U ((0:Nat):Int),_] σ).bind _=_;rw[L,Ad,Yh,Qo];simp only[Za,jb];show (Cw [_,_,_,_,_,_,BD$ U ((1:Nat):Int),_] f).bind _=_;rw[e2,Ad,Yh,Qo];simp only[Za,jb];show (Cw [_,_,_,_,_,_,BD$ U ((2:Nat):Int),_] b).bind _=_;rw[e3,Ad,Yh,nz]
  obtain⟨I,w,N⟩:=N;exact Ll M$ Ll f3$ Ll N ⋯
end
noncomputable def LP(l r a b u v:Int):D:=ύ [Cd l r u v 50,Cd a b u v 50]
noncomputable def k0(e:Int):Kp:=⟨e,0,0,[],[],[],Up⟩
def yw{a L:Ea} i:(a++L)[a.length+i]?=L[i]?:=by
 rw[Wd ⋯,show a.length+i - a.length=i by lia]
def Gy{a L:Ea}:(a++L)[a.length]?=L[0]?:=yw 0
def SC{a L:Ea} i x:(a++L).set (a.length+i) x=a++L.set i x:=by
 simp_all
def qX{a L:Ea} x:(a++L).set a.length x=a++L.set 0 x:=SC 0 x
section
variable{σ0:Ea}
def mV{b}{r}{cs}{c}{f}{d}{a}(h:cs.contains c=E8)(g:Nat.ble (a.length+1) 1000=E8):Zw b cs f d (O σ0.length) (σ0++ϔ c a::r)=J (Ϙ b) (σ0++ϔ c (Tj f d a)::r):=by
 have e:rz cs f d (O σ0.length) (σ0++ϔ c a::r)=J () (σ0++ϔ c (Tj f d a)::r):=by
  have:(σ0++ϔ c a::r)[σ0.length]?=BD _:=Gy;unfold rz;simp only[this];rw[ja (by rw[h];simpa using (show a.length<1000 from Oe g)),qX];rfl
 unfold Zw;rw[e]
def XA{d}{c}{f}{b}{r}{a}{k}(h:d.contains c=E8)(i:Nat.ble (b.length+1) 1000=E8)(j:a.length+1=k):Jl d f cq (ya 0) (BD (O σ0.length)::r) (σ0++ϔ c b::a)=J (Ϙ$ BD (O σ0.length)::r) (σ0++ϔ c (Tj f (O$ σ0.length+k) b)::(a++[ώ []])):=by
 rw[cQ,GR,dm,XT,Uu,dm];have e:(σ0++ϔ c b::a).length=σ0.length+k:=by rw[Nb,gb];lia
 have g:(σ0++ϔ c b::a)++[ώ []]=σ0++ϔ c b::(a++[ώ []]):=by simp
 rw[e,g];exact mV h i
def EC{b}{c}{f}{a}{g}{d}{e ds'}{r}(h:b.contains c=E8)(i:Nat.ble (a.length+1) 1000=E8)(j:g (BD (O σ0.length)::r) (σ0++ϔ c a::e)=J d (σ0++ϔ c a::ds')):Jl b f g (ya 0) (BD (O σ0.length)::r) (σ0++ϔ c a::e)=J (Ϙ$ BD (O σ0.length)::r) (σ0++ϔ c (Tj f d a)::ds'):=by
 rw[cQ,j,dm,XT,Uu,dm,mV h i]
def Oy{e}{c}{f}{a}{g}{d}{b}{r}(h:e.contains c=E8)(i:Nat.ble (a.length+1) 1000=E8)(j:g (BD (O σ0.length)::r) (σ0++ϔ c a::b)=J d (σ0++ϔ c a::b)):Jl e f g (ya 0) (BD (O σ0.length)::r) (σ0++ϔ c a::b)=J (Ϙ$ BD (O σ0.length)::r) (σ0++ϔ c (Tj f d a)::b):=EC h i j
end
def xD{a}{n c}{b}(h:a[n]?=BD (ϔ c b)){cs}{f}{d}(e:cs.contains c=E8)(g:b.lookup f=BD d):bc cs f (O n) a=J d a:=kh (Lj h) e g
noncomputable def cS(u v:Int):Sn:=⟨0,u,v,[]⟩
def Cn(u:Int):Prop:=0<=u/\u<=1000000000000
noncomputable def fA(p q u v:Int):Ac:=de p q (cS u v) Ϝ []
def i8{p q u v}(b:0<=p/\p<=2)(c:q=0\/q=1)(d:Cn u)(e:Cn v) a:Zd [U p,U q,U u,U v] a=J (O a.length) (a++[ϔ 11 (fA p q u v).fs]):=by
 have f:El [U u,U v] a=J (cS u v).D a:=Õ d e a;have mk:Bl 11 7 rq [U p,U q,(cS u v).D,Ϝ,ύ [(cS u v).D],ύ []] a=J _ (a++[ϔ 11 (fA p q u v).fs]):=VF (Fx b c rfl rfl) a;unfold Zd BV
 simp_all
section
variable(l r u v w:Int)(σ:Ea)
def ε:Kb (Cd l r u v w) (U 0) σ=J (U l) σ:=by unfold Cd;simp
def ő:Kb (Cd l r u v w) (U 1) σ=J (U r) σ:=by unfold Cd;simp
def jV:Kb (Cd l r u v w) (U 2) σ=J (U u) σ:=by unfold Cd;simp
def DR:Kb (Cd l r u v w) (U 3) σ=J (U v) σ:=by unfold Cd;simp
theorem wQ:Kb (Cd l r u v w) (U 4) σ=J (U w) σ:=nr rfl
end
def Ë{e}(q:1<=e/\e<=9) h l r d f u v c:Fh [U h,U e,LP l r d f u v] c=J Ϝ c:=by
 have g:∀ (l r u v w:Int) (L x:Option D),50<=w->UN [BD$ U h,BD$ U e,L,BD$ Cd l r u v w] c=J (Ϙ [BD$ U h,BD$ U e,L,BD$ Cd l r u v w]) c:=λl r u v w L t s=>by
  have s1:Ey (Cd l r u v w) A5 (BD 2) c=J (ϑ [U l,U r]) c:=by unfold Cd;rw[hG];rfl
  have j:Uy J8 _ (ϑ [U l,U r]) c=J (ϒ ([l,r].any (·== h))) c:=fV (neg:=J8) (ws:=[l,r]) rfl;have k:=wQ l r u v w c;have lt:decide (w<e+1)=J8:=ub ⋯;generalize [l,r].any (·== h)=B,ϑ [U l,U r]=o,Cd l r u v w=p at *;cases B<;>simp[s1,j,k,lt]
 have n:∀ c,Wv (LP l r d f u v) c=J _ c:=λc=>cM _;have m:vm (pd 3) UN [Cd l r u v 50,Cd d f u v 50] [BD$ U h,BD$ U e,BD$ LP l r d f u v,A5] c=J (Ϙ [BD$ U h,BD$ U e,BD$ LP l r d f u v,BD$ Cd d f u v 50]) c:=by
  rw[Qo];simp only[Za,jb];rw[g _ _ _ _ _ _ A5 ⋯,Ad,Yh,Qo];simp only[Za,jb];rw[g _ _ _ _ _ _ A5 ⋯,Ad,Yh,nz]
 unfold Fh tW Tc;dsimp only;generalize [Cd l r u v 50,Cd d f u v 50]=TT,LP l r d f u v=L at *;simp[(λc=>bt (i:=e) (a:=1) (b:=50) ⋯ c),n,m]
noncomputable def CV(a:List Ka):Kv:=MV (λb=>Up) a
noncomputable def SV(a:List Ka):Kv:=MV Ka.v a
noncomputable def na(n:Nat)(a:Ac):Ka:=⟨n,a,A5,Ϭ [] []⟩
noncomputable def KB(b:Nat)(e:Int)(K:gV)(as:List Ka)(A:Ea):Ea:=ϔ 15 (ji b$ k0 e)::ώ (jl K)::ώ (AV as)::ώ (CV as)::ώ (SV as)::ώ []::ώ []::A
def G2{as}{n}{a}(h:as=[]\/∃ x,as=[x]/\x.a.p≠a.p):Zi (AV as) (.inl a.p) (O n)=AV (as++[na n a])/\Zi (CV as) (.inl a.p) (Up)=CV (as++[na n a])/\Zi (SV as) (.inl a.p) (Ϭ [] [])=SV (as++[na n a])/\(AV as).length<1000/\(CV as).length<1000/\(SV as).length<1000:=by
 rcases h with rfl|⟨x,rfl,b⟩
 ·exact⟨rfl,rfl,rfl,by decide,by decide,by decide⟩
 ·have e:¬ (Sum.inl x.a.p:wc)=Sum.inl a.p:=λz=>b$ Gz z;simp[AV,CV,SV,MV,na,Zi,e]
section
variable(σ0:Ea)(e:Int)
def ü{K}{a}{A}{b}{f}{d}(c:b.contains 15=E8)(g:(ji σ0.length$ k0 e).lookup f=BD d):bc b f (O σ0.length) (σ0++KB σ0.length e K a A)=J d (σ0++KB σ0.length e K a A):=xD (Gy) c g
def QS{K}{as}{A}{x} n a b(c:(ji σ0.length$ k0 e).lookup x=A5):Kj [(15,a)] n x b (O σ0.length) (σ0++KB σ0.length e K as A)=(b$ σ0++KB σ0.length e K as A).bind (Fi n a$ O σ0.length):=Lp (Lj Gy) rfl c
def K2{K}{as}{A}{i}{a}(r:A[i]?=BD (ϔ a.c a.fs))(ok:a.Ok)(j:as=[]\/∃ x,as=[x]/\x.a.p≠a.p):AD [O σ0.length,O$ σ0.length+(7+i),Up,Ϭ [] []] (σ0++KB σ0.length e K as A)=J Ϝ (σ0++KB σ0.length e K (as++[na (σ0.length+(7+i)) a]) A):=by
 obtain⟨k,l,m,l1,l2,t⟩:=G2 (n:=σ0.length+(7+i)) j;have u:∀ (X Y Z:Ob),bc [10,11,12,13] "pot" (O$ σ0.length+(7+i)) _=J _ (σ0++ϔ 15 (ji σ0.length$ k0 e)::ώ (jl K)::X::Y::Z::ώ []::ώ []::A):=λX Y Z=>Es (by
  unfold Qi;rw[yw,Nat.add_comm 7 i];exact r) ok
 have g:∀ (X Y Z:Ob) (f:Str) (h:h8) (d:D),h.contains 15=E8->(ji σ0.length _).lookup f=BD d->bc h f _ _=J d (σ0++ϔ 15 _::ώ (jl K)::X::Y::Z::ώ []::ώ []::A):=λX Y Z f h d s j=>xD (Gy (L:=ϔ 15 (ji σ0.length$ k0 e)::ώ _::X::Y::Z::ώ []::ώ []::A)) s j;have s2:∀ (b:Ev) (Y Z:Ob),An b _ _ _ (σ0++ϔ 15 _::ώ (jl K)::ώ (AV as)::Y::Z::ώ []::ώ []::A)=J (Ϙ b) (σ0++ϔ 15 (ji σ0.length$ k0 e)::ώ (jl K)::ώ (AV$ as++[na (σ0.length+(7+i)) a])::Y::Z::ώ []::ώ []::A):=λb Y Z=>by
  rw[jq (kvs:=AV as) (yw 2) l1,SC 2,k];rfl
 have v:∀ (b:Ev) (X Z:Ob),An b (Up) (O$ σ0.length+3) (U a.p) (σ0++ϔ 15 (ji σ0.length$ k0 e)::ώ (jl K)::X::ώ (CV as)::Z::ώ []::ώ []::A)=J (Ϙ b) (σ0++ϔ 15 (ji σ0.length$ k0 e)::ώ (jl K)::X::ώ (CV$ as++[na (σ0.length+(7+i)) a])::Z::ώ []::ώ []::A):=λb X Z=>by
  rw[jq (kvs:=CV as) (yw 3) l2,SC 3,l];rfl
 have w:∀ (b:Ev) (X Y:Ob),An b (Ϭ [] []) (O$ σ0.length+4) (U a.p) (σ0++ϔ 15 (ji σ0.length$ k0 e)::ώ (jl K)::X::Y::ώ (SV as)::ώ []::ώ []::A)=J (Ϙ b) (σ0++ϔ 15 (ji σ0.length$ k0 e)::ώ (jl K)::X::Y::ώ (SV$ as++[na (σ0.length+(7+i)) a])::ώ []::ώ []::A):=λb X Y=>by
  rw[jq (kvs:=SV as) (yw 4) t,SC 4,m];rfl
 have o:=λX Y Z=>g X Y Z "accounts" [15] _ rfl rfl;have q:=λX Y Z=>g X Y Z "claims" [9,15] _ rfl rfl;have gs:=λX Y Z=>g X Y Z "seen" [15] _ rfl rfl;unfold AD KB Hf;dsimp only;generalize ji σ0.length (k0 e)=FS,AV (as++[na (σ0.length+(7+i)) a])=z,CV (as++[na (σ0.length+(7+i)) a])=C,SV (as++[na (σ0.length+(7+i)) a])=F,AV as=y,CV as=B,SV as=E,jl K=KD,σ0.length+(7+i)=N at *;simp[u,o,q,gs,s2,v,w]
def w6{a}(h:a=[]\/a=[7]):Cu [O σ0.length,ύ$ a.map U] (σ0++KB σ0.length e [] [] [])=J Ϝ (σ0++KB σ0.length e a [] []):=by
 have g:bc [14,15] "known" (O σ0.length) _=J _ (σ0++KB σ0.length e [] [] []):=ü σ0 e rfl rfl;have s1:∀ b,An b _ _ _ (σ0++KB σ0.length e [] [] [])=J _ (σ0++KB σ0.length e [7] [] []):=λb=>by
  rw[jq (yw 1) ⋯,SC 1];rfl
 unfold Cu bH Hf;dsimp only;rcases h with rfl|rfl;all_goals simp_all
end
@[simp] theorem zvp{e} d x a b c:Fi 4 d x [a,b,c] e=d [x,a,b,c] e:=EG rfl
section
variable(σ0:Ea)(e:Int)(h:Int)
def RW{K}{d f}{A j}{p l r u v w s}(m:0<=p/\p<=2)(k:s=0\/s=1)(z:Cn u)(B:Cn v) X Y Z
  (c:((if s=0 then l else r)≠h/\f=d/\j=A)\/((if s=0 then l else r)=h/\f=d++[na (σ0.length+(7+A.length))$ fA p s u v]/\j=A++[ϔ 11 (fA p s u v).fs]/\(d=[]\/∃ x,d=[x]/\x.a.p≠p))) :
  nV [BD$ O σ0.length,BD$ U h,X,Y,Z,BD$ U p,BD$ Cd l r u v w,BD$ U s] (σ0++KB σ0.length e K d A)=J (Ϙ [BD$ O σ0.length,BD$ U h,X,Y,Z,BD$ U p,BD$ Cd l r u v w,BD$ U s]) (σ0++KB σ0.length e K f j):=by
 have n:∀ g,Kb (Cd l r u v w) (U s) g=J (U$ if s=0 then l else r) g:=λg=>by
  rcases k with rfl|rfl
  ·exact ε ..
  ·exact ő ..
 generalize (if s=0 then l else r)=H at *;rcases c with⟨I,rfl,rfl⟩|⟨o,rfl,rfl,t⟩
 ·have b:(H == h)=J8:=by simp[I]
  generalize Cd l r u v w=Q,σ0++KB σ0.length e K f j=Z at *;simp[n,b]
 ·have b:(H == h)=E8:=by simp[o]
  have C:=λg=>jV l r u v w g;have F:=λg=>DR l r u v w g;have fa:=i8 m k z B$ σ0++KB σ0.length e K d A;have L:(σ0++KB σ0.length e K d A).length=σ0.length+(7+A.length):=by simp[KB];lia
  have E:(σ0++KB σ0.length e K d A)++[ϔ 11 (fA p s u v).fs]=σ0++KB σ0.length e K d (A++[ϔ 11 (fA p s u v).fs]):=by simp[KB]
  rw[L,E]at fa;have y:=K2 σ0 e (K:=K) (as:=d) (A:=A++[ϔ 11 (fA p s u v).fs]) (i:=A.length) (a:=fA p s u v) (by simp;rfl) (Fx m k rfl rfl) t;have G:=λq=>QS σ0 e (K:=K) (as:=d) (A:=A) (x:="hold") 4 AD q rfl;generalize σ0++KB σ0.length e K (d++[na (σ0.length+(7+A.length))$ fA p s u v]) (A++[ϔ 11 (fA p s u v).fs])=W,σ0++KB σ0.length e K d (A++[ϔ 11 (fA p s u v).fs])=V,σ0++KB σ0.length e K d A=Z,Cd l r u v w=Q at *;simp[n,b,C,F,fa,G,y]
def Hw{K}{b bs cs}{A B C}{p l r u v w}(d:0<=p/\p<=2)(f:Cn u)(g:Cn v) X Y Z x
  (c:(l≠h/\bs=b/\B=A)\/(l=h/\bs=b++[na (σ0.length+(7+A.length))$ fA p 0 u v]/\B=A++[ϔ 11 (fA p 0 u v).fs]/\(b=[]\/∃ x,b=[x]/\x.a.p≠p)))
  (i:(r≠h/\cs=bs/\C=B)\/(r=h/\cs=bs++[na (σ0.length+(7+B.length))$ fA p 1 u v]/\C=B++[ϔ 11 (fA p 1 u v).fs]/\(bs=[]\/∃ x,bs=[x]/\x.a.p≠p))) :
  KF [BD$ O σ0.length,BD$ U h,X,Y,Z,BD$ U p,BD$ Cd l r u v w,x] (σ0++KB σ0.length e K b A)=J (Ϙ [BD$ O σ0.length,BD$ U h,X,Y,Z,BD$ U p,BD$ Cd l r u v w,BD$ U 1]) (σ0++KB σ0.length e K cs C):=by
 show Qk _ _ _ _ _=_;rw[nB];simp only[bG,J5,LA,Cy,Ad,Xz,Ww,zB,Ŕ,Ó,dm,kD];rw[Qo];simp only[Za,jb];rw[(RW σ0 e h (K:=K) (l:=l) (r:=r) (w:=w) d (ϐ rfl) f g X Y Z c),Ad,Yh,Qo];simp only[Za,jb];rw[(RW σ0 e h (K:=K) (l:=l) (r:=r) (w:=w) d (ϓ rfl) f g X Y Z i),Ad,Yh,nz]
noncomputable def kj(q a u v:Int)(b:Nat)(h:Int):List Ka:=if h=0 then [na (b+7)$ fA 0 (1 - q) u v]else if h=1 then [na (b+7)$ fA 0 q u v,na (b+8)$ fA 1 (1 - a) u v]else [na (b+7)$ fA 1 a u v]
def Nn(q a u v h:Int):Ea:=if h=0 then [ϔ 11 (fA 0 (1 - q) u v).fs]else if h=1 then [ϔ 11 (fA 0 q u v).fs,ϔ 11 (fA 1 (1 - a) u v).fs]else [ϔ 11 (fA 1 a u v).fs]
def zic{e}(P:1<=e/\e<=9){q g l r a b u v}(B:q=0/\l=1/\r=0\/q=1/\l=0/\r=1)(o:g=0/\a=2/\b=1\/g=1/\a=1/\b=2)(Q:h=0\/h=1\/h=2)(ϋ:HD σ0.length=h)(j:Cn u)(m:Cn v){c}(R:c=[]\/c=[7]):Bl 15 5 Pp [U h,U e,LP l r a b u v,ύ$ c.map U] σ0=J (O σ0.length) (σ0++KB σ0.length e c (kj q g u v σ0.length h) (Nn q g u v h)):=by
 have V:=Ë P h l r a b u v$ σ0++[ϔ 15 []];have S:=w6 σ0 e R;have ϊ:=λό=>QS σ0 e (K:=[]) (as:=[]) (A:=[]) (x:="learn") 2 Cu ό rfl;have s:∀ f,jf f (LP l r a b u v)=BD [Cd l r u v 50,Cd a b u v 50]:=λf=>rfl;have H:∀ f,wB (LP l r a b u v) f=J (Hu$ LP l r a b u v) f:=λf=>VY$ s f;have t:∃ y w,∀ X Y Z x,KF [BD$ O σ0.length,BD$ U h,X,Y,Z,BD$ U (0:Nat),BD$ Cd l r u v 50,x] (σ0++KB σ0.length e c [] [])=J (Ϙ [BD$ O σ0.length,BD$ U h,X,Y,Z,BD$ U (0:Nat),BD$ Cd l r u v 50,BD$ U 1]) (σ0++KB σ0.length e c y w)/\KF [BD$ O σ0.length,BD$ U h,X,Y,Z,BD$ U (1:Nat),BD$ Cd a b u v 50,x] (σ0++KB σ0.length e c y w)=J (Ϙ [BD$ O σ0.length,BD$ U h,X,Y,Z,BD$ U (1:Nat),BD$ Cd a b u v 50,BD$ U 1]) (σ0++KB σ0.length e c (kj q g u v σ0.length h) (Nn q g u v h)):=by
  rcases Q with rfl|rfl|rfl
  ·refine⟨kj q g u v σ0.length 0,Nn q g u v 0,λX Y Z x=>⟨?_,?_⟩⟩
   ·rcases B with⟨rfl,rfl,rfl⟩|⟨rfl,rfl,rfl⟩
    ·exact Hw σ0 e 0 (p:=0) ⋯ j m X Y Z x (ϐ ⟨by omega,rfl,rfl⟩)$ ϓ ⟨rfl,rfl,rfl,ϐ rfl⟩
    ·exact Hw σ0 e 0 (p:=0) ⋯ j m X Y Z x (ϓ ⟨rfl,rfl,rfl,ϐ rfl⟩)$ ϐ ⟨by omega,rfl,rfl⟩
   ·exact Hw σ0 e 0 (p:=1) ⋯ j m X Y Z x (ϐ ⟨by omega,rfl,rfl⟩)$ ϐ ⟨by omega,rfl,rfl⟩
  ·refine⟨[na (σ0.length+7)$ fA 0 q u v],[ϔ 11 (fA 0 q u v).fs],λX Y Z x=>⟨?_,?_⟩⟩
   ·rcases B with⟨rfl,rfl,rfl⟩|⟨rfl,rfl,rfl⟩
    ·exact Hw σ0 e 1 (p:=0) ⋯ j m X Y Z x (ϓ ⟨rfl,rfl,rfl,ϐ rfl⟩)$ ϐ ⟨by omega,rfl,rfl⟩
    ·exact Hw σ0 e 1 (p:=0) ⋯ j m X Y Z x (ϐ ⟨by omega,rfl,rfl⟩)$ ϓ ⟨rfl,rfl,rfl,ϐ rfl⟩
   ·rcases o with⟨rfl,rfl,rfl⟩|⟨rfl,rfl,rfl⟩
    ·exact Hw σ0 e 1 (p:=1) ⋯ j m X Y Z x (ϐ ⟨by omega,rfl,rfl⟩)$ ϓ ⟨rfl,rfl,rfl,ϓ ⟨_,rfl,by simp[na,fA,de]⟩⟩
    ·exact Hw σ0 e 1 (p:=1) ⋯ j m X Y Z x (ϓ ⟨rfl,rfl,rfl,ϓ ⟨_,rfl,by simp[na,fA,de]⟩⟩)$ ϐ ⟨by omega,rfl,rfl⟩
  ·refine⟨[],[],λX Y Z x=>⟨?_,?_⟩⟩
   ·exact Hw σ0 e 2 (p:=0) ⋯ j m X Y Z x (ϐ ⟨by omega,rfl,rfl⟩)$ ϐ ⟨by omega,rfl,rfl⟩
   ·rcases o with⟨rfl,rfl,rfl⟩|⟨rfl,rfl,rfl⟩
    ·exact Hw σ0 e 2 (p:=1) ⋯ j m X Y Z x (ϓ ⟨rfl,rfl,rfl,ϐ rfl⟩)$ ϐ ⟨by omega,rfl,rfl⟩
    ·exact Hw σ0 e 2 (p:=1) ⋯ j m X Y Z x (ϐ ⟨by omega,rfl,rfl⟩)$ ϓ ⟨rfl,rfl,rfl,ϐ rfl⟩
 obtain⟨y,w,t⟩:=t;have T:mo (Hu$ LP l r a b u v) (Il 2$ Qg (pd 5)$ Qg (pd 6) Vl) KF 1001 0 [BD$ O σ0.length,BD$ U h,BD$ U e,BD$ LP l r a b u v,BD$ ύ$ c.map U,A5,A5,A5] (σ0++KB σ0.length e c [] [])=J (Ϙ [BD$ O σ0.length,BD$ U h,BD$ U e,BD$ LP l r a b u v,BD$ ύ$ c.map U,BD$ U (1:Nat),BD$ Cd a b u v 50,BD$ U 1]) (σ0++KB σ0.length e c (kj q g u v σ0.length h) (Nn q g u v h)):=by
  rw[Gs (k:=1000) (bI (s _) (i:=0) rfl) (ρ1:=[BD$ O σ0.length,BD$ U h,BD$ U e,BD$ LP l r a b u v,BD$ ύ$ c.map U,BD$ U (0:Nat),BD$ Cd l r u v 50,A5]) rfl,(t _ _ _ _).1,Ad,Yh,Gs (k:=999) (bI (s _) (i:=1) rfl) (ρ1:=[BD$ O σ0.length,BD$ U h,BD$ U e,BD$ LP l r a b u v,BD$ ύ$ c.map U,BD$ U (1:Nat),BD$ Cd a b u v 50,BD$ U 1]) rfl,(t _ _ _ _).2,Ad,Yh];exact OA (k:=998)$ eZ$ s _
 have z0:∀ f,Br (ύ$ c.map U) Ϝ f=J (ϒ J8) f:=λf=>nr rfl;have I:∀ (C:D->Ev->Option Ev) (body:Ev->M Fl) (E:Ev) (nx:NX),JH C body E nx=mo nx C body 1001 0 E:=λ_ _ _ _=>rfl;generalize σ0++KB σ0.length e c (kj q g u v σ0.length h) (Nn q g u v h)=W,σ0++KB σ0.length e c [] []=Z at *;have z:Pp [O σ0.length,U h,U e,LP l r a b u v,ύ$ c.map U] (σ0++[ϔ 15 []])=J Ϝ W:=by
  unfold Pp FR
  (try dsimp only);rw[Ur,fC]
  show oo (lc _ _ [BD$ O σ0.length,BD$ U h,BD$ U e,BD$ LP l r a b u v,BD$ ύ$ c.map U,A5,A5,A5]$ σ0++[ϔ 15 []])=_;generalize LP l r a b u v=L,ύ (c.map U)=n at *;rw[Pi];simp -implicitDefEqProofs only[rT,bP,LA,RA,Uu,Ad,Xz,Ww,zB,U3,V,dm,qV,cj];rw[Pi,Oy (d:=U h) rfl rfl ⋯,Ad,cj];rw[Pi,Oy (d:=U e) rfl rfl ⋯,Ad,cj];rw[Pi,Oy (d:=U 0) rfl rfl ⋯,Ad,cj];rw[Pi,Oy (d:=U 0) rfl rfl ⋯,Ad,cj];rw[Pi,XA (k:=1) rfl rfl rfl,Ad,cj];rw[Pi,XA (k:=2) rfl rfl rfl,Ad,cj];rw[Pi,XA (k:=3) rfl rfl rfl,Ad,cj];rw[Pi,XA (k:=4) rfl rfl rfl,Ad,cj];rw[Pi,XA (k:=5) rfl rfl rfl,Ad,cj];rw[Pi,XA (k:=6) rfl rfl rfl,Ad,cj];have F:∀ G:Ev->M Fl,oo (G [BD$ O σ0.length,BD$ U h,BD$ U e,BD L,BD n,A5,A5,A5]$ σ0++KB σ0.length e [] [] [])=J Ϝ W->oo (G [BD$ O σ0.length,BD$ U h,BD$ U e,BD L,BD n,A5,A5,A5]$ σ0++ϔ 15 [("hand",U h),("every",U e),("last_look",U 0),("gave",U 0),("known",O (σ0.length+1)),("accounts",O (σ0.length+2)),("claims",O (σ0.length+3)),("seen",O (σ0.length+4)),("asked",O (σ0.length+5)),("finishing",O (σ0.length+6))]::[ώ [],ώ [],ώ [],ώ [],ώ [],ώ []])=J Ϝ W:=λG N=>by
   rw[<-N];unfold KB ji;rw[ϋ];rfl
  refine F _ ?_;generalize σ0++KB σ0.length e [] [] []=Y at *;rw[Pi];have z1:iw (eT$ Fb Br (ya 4)$ eC Ϝ) (Oi zb) (ya 4) [BD$ O σ0.length,BD$ U h,BD$ U e,BD L,BD n,A5,A5,A5] Y=J n Y:=by
   have i:∀ f,Br n Ϝ f=J (ϒ J8) f:=z0;simp[i]
  simp -implicitDefEqProofs only[rT,iZ,Uu,Ad,ϊ,LA,z1,Xz,Ww,zB,ω,S,dm,qV,cj];rw[Tt];simp -implicitDefEqProofs only[O6,RA,Uu,Ad,H,dm,I];rw[T,RN]
 rw[YK,z,aD]
end
def cY{i}(h:0<=i/\i<=3) a:Bn [U i] a=J (ϒ E8) a:=by
 unfold Bn Tc;simp[(λa=>bt h a)]
def HS{l r u v w}(c:0<=l/\l<=3)(e:0<=r/\r<=3)(d:l≠r)(f:Cn u)(g:Cn v)(h:1<=w/\w<=100) a:Wg [Cd l r u v w] a=J (ϒ E8) a:=by
 have b:=λa=>wQ l r u v w a;have i:(l == r)=J8:=by simp[d]
 unfold Wg Tc;unfold Cd at b ⊢;simp -implicitDefEqProofs[(λa=>cY c a),(λa=>cY e a),(λa=>bt f a),(λa=>bt g a),(λa=>bt h a),b,i]
def TQ l r a b u v:cl (LP l r a b u v)=E8:=by unfold LP Cd;simp
section
variable{l r l' r' u v:Int}(h0:l=1/\r=0\/l=0/\r=1)(h1:l'=2/\r'=1\/l'=1/\r'=2)(hu:Cn u)(hv:Cn v)
include h0 h1 hu hv
theorem Ζ{a}{n}(c:a[n]?=BD (Ϗ [Cd l r u v 50,Cd l' r' u v 50])):gi [O n] a=J (LP l r l' r' u v) a:=by
 have b:jf a (O n)=BD [Cd l r u v 50,Cd l' r' u v 50]:=by unfold jf We;simp[c]
 have m0:=λa=>HS (l:=l) (r:=r) (w:=50) ⋯ ⋯ ⋯ hu hv ⋯ a;have m1:=λa=>HS (l:=l') (r:=r') (w:=50) ⋯ ⋯ ⋯ hu hv ⋯ a;have s0:uJ [BD$ O n,BD$ U (0:Nat),BD$ Cd l r u v 50] a=J (Ϙ [BD$ O n,BD$ U (0:Nat),BD$ Cd l r u v 50]) a:=by
  generalize Cd l r u v 50=P at *;simp[m0]
 have s1:uJ [BD$ O n,BD$ U (1:Nat),BD$ Cd l' r' u v 50] a=J (Ϙ [BD$ O n,BD$ U (1:Nat),BD$ Cd l' r' u v 50]) a:=by
  generalize Cd l' r' u v 50=P at *;simp[m1]
 have m:mo (Hu$ O n) (Il 2$ Qg (pd 1)$ Qg (pd 2) Vl) uJ 1001 0 [BD$ O n,A5,A5] a=J (Ϙ [BD$ O n,BD$ U (1:Nat),BD$ Cd l' r' u v 50]) a:=by
  rw[Gs (k:=1000) (bI b (i:=0) rfl) (ρ1:=[BD$ O n,BD$ U (0:Nat),BD$ Cd l r u v 50])$ nr rfl,s0,Ad,Yh,Gs (k:=999) (bI b (i:=1) rfl) (ρ1:=[BD$ O n,BD$ U (1:Nat),BD$ Cd l' r' u v 50])$ nr rfl,s1,Ad,Yh];exact OA (k:=998)$ eZ b
 have f:wB (O n) a=J (Hu$ O n) a:=VY b;have g:∀ (d:D->Ev->Option Ev) (body:Ev->M Fl) (e:Ev) (nx:NX),JH d body e nx=mo nx d body 1001 0 e:=λo o o o=>rfl;have h:Yf a (yq [O n] a)=J (LP l r l' r' u v) a:=oK (CH c) (by unfold Cd;simp);have j:=TQ l r l' r' u v;unfold gi gX Tc;dsimp only;generalize LP l r l' r' u v=L at *;simp[f,g,m,h,j,-È]
end
def U6 l r u v w c:Dh [Cd l r u v w] c=J (U$ u+v) c:=by
 have a:=jV l r u v w c;have b:=DR l r u v w c;unfold Dh Tc;dsimp only
 simp_all
noncomputable def HL(w:Int):D:=Ϸ 6 ["whole"] [U w]
def VZ w a:dB [O a.length,w] (a++[ϔ 6 []])=J Ϝ (a++[ϔ 6 [("whole",w)]]):=by
 unfold dB Hf;have:=HG (ρ:=[BD$ O a.length,BD w]) (σ:=a) (cs:=[5,6,7,8]) (f:="whole") (d:=w) (c:=6) (fs:=[]) rfl ⋯;simp[this,Tj]
theorem x9 w a:Yf a (Bl 6 2 dB [U w] a)=J (HL w) a:=by
 rw[lP,VZ,aD,KU ⋯];rfl
def RG{a}{n k i}{j}{rest}{c f g}{o}{d y}(m:a[i]?=BD d)(h:j (BD d::A5::rest) c=J y f)(l:Xj (O n) [y] f=J Ϝ g) :
  Ci (Gj.seq a).nx n (pd 0) zl j (k+1) i (o::A5::rest) c=Ci (Gj.seq a).nx n (pd 0) zl j k (i+1) (BD d::A5::rest) g:=by
 rw[Ci];have e:(Gj.seq a).nx i c=BD (BD d):=by show BD a[i]?=_;rw[m]
 have t:pd 0 d (o::A5::rest)=BD (BD d::A5::rest):=rfl;have b:zl (BD d::A5::rest) c=J E8 c:=rfl;simp only[e,t];rw[Yl,JD b,Ad,ja rfl,Yl,JD h,Ad,Yl,l,Ad]
def yes{a}{n k i}{c}{ρ}{b}(d:a[i]?=A5):Ci (Gj.seq a).nx n (pd 0) zl c (k+1) i ρ b=J () b:=by
 rw[Ci];have e:(Gj.seq a).nx i b=BD A5:=by show BD a[i]?=_;rw[d]
 simp[e]
def JU{b}{s}{ix}{fi}{fe}{c}{a d}(e:b c a=J s a)(f:Ci s.nx a.length (pd 0) fi fe 1001 0 (A5::A5::(ix.map λi=>(c[i]?).getD A5)) (a++[Ϗ []])=J () d):Uk (io b) ix (pd 0) fi fe c a=J (O a.length) d:=by
 show Kc (Kc _ kM) _ a=_;rw[Yl,Yl,e,Ad];show Kc (Ci s.nx a.length _ fi fe 1001 0$ A5::A5::(ix.map λi=>(c[i]?).getD A5)) _ _=_
 simp_all
theorem rZ{a r}{xs}{d}(h:xs.length<1000):Xj (O a.length) [d] (a++Ϗ xs::r)=J Ϝ (a++Ϗ (xs++[d])::r):=by
 have e:We (a++Ϗ xs::r) a.length=BD xs:=by unfold We;rw[Gy];rfl
 unfold Xj;simp only[e];rw[ja (show xs.length<Og from h),qX];rfl
def DY{a r}{x}{b}{n}(c:a.length+1+r.length=n):cq b (a++x::r)=J (O n) (a++x::(r++[ώ []])):=by
 rw[GR,show (a++x::r).length=n by simp;lia];simp
noncomputable def l9(n:Nat)(P:D):List$ Str × D:=[("pots",P),("day",U 0),("claims",O (n+1)),("shown",O (n+2))]
noncomputable def BB(n:Nat)(P:D)(u v:Int):Ea:=[ϔ 9$ l9 n P,Ϗ [HL$ u+v,HL$ u+v],Ϗ [O$ n+3,O$ n+4],ώ [],ώ []]
def Y9{l r b c u v}(p:l=1/\r=0\/l=0/\r=1)(i:b=2/\c=1\/b=1/\c=2)(t:Cn u)(x:Cn v){a}{n}(s:a[n]?=BD (Ϗ [Cd l r u v 50,Cd b c u v 50])):Bl 9 2 bz [O n] a=J (O a.length) (a++BB a.length (LP l r b c u v) u v):=by
 have h:∀ (l r u v w:Int) (a:Ea),Di (lq 6 2 dB$ Qa (Gf 1 Dh []$ Qa (ya 0) zb) zb) [BD$ Cd l r u v w,A5] a=J (HL _) a:=λl r u v w a=>by
  have i:=x9 (u+v) a;have y:=λa=>U6 l r u v w a;generalize HL _=ϋ,Cd l r u v w=P at *;simp[y,i,-lP]
 have z:∀ a,Wv (LP l r b c u v) a=J _ a:=λa=>cM _;have o:∀ (e:List _) (j:Ea),e.lookup ("pots" : Str)=BD (LP l r b c u v)->Gi (Vd (bc [9,14,16] "pots")$ ya 0) [BD$ O a.length,BD$ O n] (a++ϔ 9 e::j)=J (.seq [Cd l r u v 50,Cd b c u v 50]) (a++ϔ 9 e::j):=λe j q=>by
  have g:bc [9,14,16] "pots" (O a.length) (a++ϔ 9 e::j)=J (LP l r b c u v) (a++ϔ 9 e::j):=xD (Gy (L:=ϔ 9 e::j)) rfl q;generalize LP l r b c u v=L,[Cd l r u v 50,Cd b c u v 50]=TT at *;simp[g,z]
 have f:=JU (ix:=[]) (fi:=zl) (fe:=Di$ lq 6 2 dB$ Qa (Gf 1 Dh []$ Qa (ya 0) zb) zb) (o [("pots",LP l r b c u v),("day",U 0)] [] rfl)$ (RG (k:=1000) (d:=Cd l r u v 50) rfl (h ..)$ yF$ by simp).trans$ (RG (k:=999) (d:=Cd b c u v 50) rfl (h ..)$ yF$ by simp).trans$ yes (k:=998) rfl;have lj:=JU (ix:=[]) (fi:=zl) (fe:=cq) (o [("pots",LP l r b c u v),("day",U 0),("claims",O (a.length+1))] [Ϗ [HL$ u+v,HL$ u+v]] rfl)$ (RG (k:=1000) (d:=Cd l r u v 50) rfl (DY (n:=a.length+3)$ by simp)$ rZ$ by simp).trans$ (RG (k:=999) (d:=Cd b c u v 50) rfl (DY (n:=a.length+4)$ by simp)$ rZ$ by simp).trans$ yes (k:=998) rfl;simp only[Eg,Ow,Hk,Nb,gb,Dd]at f lj;rw[lP];have m:bz [O a.length,O n] (a++[ϔ 9 []])=J Ϝ (a++BB a.length (LP l r b c u v) u v):=by
  unfold bz Hf
  (try dsimp only);rw[Ur,fC]
  show oo (lc _ _ [BD$ O a.length,BD$ O n]$ a++[ϔ 9 []])=_;rw[Pi,Oy (d:=LP l r b c u v) rfl rfl (by simp only[bP,LA,RA,Uu,Ad,Xz,Ww,zB,ě,(Ζ p i t x$ Cg (j:=[ϔ 9 []]) s)]),Ad,cj];rw[Pi,Oy (d:=U 0) rfl rfl (by simp only[Cy]),Ad,cj];show oo (lc _ _ [BD$ O a.length,BD$ O n]$ a++ϔ 9 [("pots",LP l r b c u v),("day",U 0)]::[])=_;rw[Pi,EC (d:=O$ a.length+1) (ds':=[Ϗ [HL$ u+v,HL$ u+v]]) rfl rfl f,Ad,cj];show oo (Jl _ _ _ _ [BD$ O a.length,BD$ O n]$ a++ϔ 9 [("pots",LP l r b c u v),("day",U 0),("claims",O (a.length+1))]::[Ϗ [HL$ u+v,HL$ u+v]])=_;rw[EC (d:=O$ a.length+2) (ds':=[Ϗ [HL$ u+v,HL$ u+v],Ϗ [O$ a.length+3,O$ a.length+4],ώ [],ώ []]) rfl rfl lj,RN];rfl
 show uz a.length (bz [O a.length,O n]$ a++[ϔ 9 []])=_;rw[m,aD]
noncomputable def W7:D:=Ϭ [.inl 7] [U 2]
def Ĝ h a:dj [U h,W7] a=J (ύ$ ([7].filter λf=>(2:Int) == h).map U) a:=by
 have l:Di (Uk (Wu$ ya 1) [0] (Il 2$ Qg (pd 0)$ Qg (pd 1) Vl) (eT$ Fb wl (ya 1)$ ya 2)$ ya 0) [BD$ U h,BD W7] a=J (ύ$ ([7].filter λf=>(2:Int) == h).map U) a:=by
  rw[Ip];show Yf a (Kc _ _ a)=_;rw[Yl,UK (A:=[(.inl 7,U 2)]) rfl,Ad];show Yf a (Kc (Ci _ a.length _ _ _ 1001 0 [A5,A5,BD _]) _ _)=_;rw[Yl,yK (xs:=[7]) (λf=>True) (λw=>ϑ [U w,U 2]) _ _ (λf=>(2 == h)) (λw=>U w) (λi j c=>by
   obtain rfl|rfl:i=0\/i=1:=by simp at c;lia
   all_goals rfl) (λx o e f=>⟨rfl,trivial⟩) (λx d j=>⟨by simp,λf=>by simp⟩) ⋯ 1001 0 A5 A5 [] trivial ⋯ ⋯ ⋯,Ad]
  exact Fz$ mF _
 have b:cl (ύ$ ([7].filter λf=>(2:Int) == h).map U)=E8:=mF _;unfold dj Tc;dsimp only;simp[l,b,-Ip]
noncomputable def pk(i:Int):gV:=if i=0 then [0,1,2]else if i=1 then [2,1,0]else if i=2 then [1,0,2]else if i=3 then [2,0,1]else if i=4 then [1,2,0]else [0,2,1]
def TU i:pk i=[0,1,2]\/pk i=[2,1,0]\/pk i=[1,0,2]\/pk i=[2,0,1]\/pk i=[1,2,0]\/pk i=[0,2,1]:=by
 unfold pk
 repeat' split
 all_goals simp
def Ż i a:Yf a (pC (ύ$ (pk i).map U) a)=J (ύ [U 0,U 1,U 2]) a:=by
 have e:pC (ύ$ (pk i).map U) a=J (O a.length) (a++[Ϗ [U 0,U 1,U 2]]):=by
  have s:Op (Km$ pk i)=[0,1,2]:=WE ((bv _).trans$ by rcases TU i with e|e|e|e|e|e<;>rw[e]<;>decide) (LI _) ⋯;unfold pC;rw[show jf a _=BD _ from rfl];simp;rw[ja (by rcases TU i with e|e|e|e|e|e<;>rw[e]<;>decide),s];rfl
 rw[e];exact Fz ⋯
theorem uQ a b c d:Uz a b c d=(b c d).bind (vH a):=nr rfl
theorem jS a b c:vH a b c=J (b++a) c:=nr rfl
noncomputable def aF(b:Nat)(e:Int)(P:D):List$ Str × D:=[("public",O (b+1)),("pots",P),("every",U e),("keepers",O (b+6)),("under_way",O (b+7)),("things",O (b+8))]
noncomputable def SH(b:Nat)(e:Int)(P:D)(u v:Int)(r:Ea):Ea:=ϔ 16 (aF b e P)::(BB (b+1) P u v++r)
def Ù a b e P u v r:(a++SH b e P u v r).length=a.length+6+r.length:=by simp[SH,BB];omega
section
variable{σ0:Ea}{e l r l' r' u v:Int}
def BL{j}{a}{f}{d}(b:a.contains 16=E8)(c:(aF σ0.length e$ LP l r l' r' u v).lookup f=BD d):bc a f (O σ0.length) (σ0++SH σ0.length e (LP l r l' r' u v) u v j)=J d (σ0++SH σ0.length e (LP l r l' r' u v) u v j):=xD (Gy) b c
def ye1{h}{j}:Yt [O$ σ0.length+1] (σ0++ϔ 16 h::(BB (σ0.length+1) (LP l r l' r' u v) u v++j))=J (LP l r l' r' u v) (σ0++ϔ 16 h::(BB (σ0.length+1) (LP l r l' r' u v) u v++j)):=by
 have g:bc [9,14,16] "pots" (O _) _=J _ (σ0++ϔ 16 h::(BB (σ0.length+1) (LP l r l' r' u v) u v++j)):=xD (yw 1) rfl rfl;have b:∀ a,Yf a (yq [LP l r l' r' u v] a)=J (LP l r l' r' u v) a:=λa=>QC (by unfold Cd;simp) a;have c:=TQ l r l' r' u v;unfold Yt eg;dsimp only
 simp_all
end
section
variable{σ0:Ea}{e q q' l r l' r' u v:Int}(he:1<=e/\e<=9)(hq:q=0/\l=1/\r=0\/q=1/\l=0/\r=1)(hq':q'=0/\l'=2/\r'=1\/q'=1/\l'=1/\r'=2)(hu:Cn u)(hv:Cn v){n:Nat}
include he hq hq' hu hv
theorem kN{w}(h:w=0\/w=1\/w=2){ks a}{T}{j}{N}(C:σ0.length+9+j.length=N)(o:HD N=w)(p:Zi ks (.inl w) (O N)=a)(d:ks.length<1000){vs}(b:([7].filter λD=>(2:Int) == w)=vs) L k m:sW [BD$ O σ0.length,BD$ O n,L,BD$ U e,BD$ W7,BD$ W7,BD$ U w,k,m] (σ0++SH σ0.length e (LP l r l' r' u v) u v (ώ ks::Ϗ []::.ue T::j))=J (Ϙ [BD$ O σ0.length,BD$ O n,L,BD$ U e,BD$ W7,BD$ W7,BD$ U w,k,m]) (σ0++SH σ0.length e (LP l r l' r' u v) u v (ώ a::Ϗ []::.ue T::(j++KB N e vs (kj q q' u v N w) (Nn q q' u v w)))):=by
 have g:(σ0++SH σ0.length e (LP l r l' r' u v) u v (ώ ks::Ϗ []::.ue T::j)).length=N:=by rw[Ù];simp;lia
 have t:vs=[]\/vs=[7]:=by rw[<-b];rcases h with rfl|rfl|rfl<;>simp
 have mk:=zic _ w he hq hq' h (by rw[g];exact o) hu hv t;rw[g]at mk;have mk:Bl 15 5 Pp [U w,U e,LP l r l' r' u v,ύ$ vs.map U] (σ0++SH σ0.length e (LP l r l' r' u v) u v (ώ ks::Ϗ []::.ue T::j))=J (O N) (σ0++SH σ0.length e (LP l r l' r' u v) u v (ώ ks::Ϗ []::.ue T::(j++KB N e vs (kj q q' u v N w) (Nn q q' u v w)))):=by rw[mk];simp[SH]
 have i:=Ĝ w$ σ0++SH σ0.length e (LP l r l' r' u v) u v (ώ ks::Ϗ []::.ue T::j);rw[b]at i;have pl:bc [9,14,16] "pots" (O σ0.length) _=J _ (σ0++SH σ0.length e (LP l r l' r' u v) u v (ώ ks::Ϗ []::.ue T::j)):=BL rfl rfl;have c:∀ j,bc [16] "keepers" (O σ0.length) _=J (O$ σ0.length+6) (σ0++SH σ0.length e (LP l r l' r' u v) u v j):=λj=>BL rfl rfl;have s:=c$ ώ ks::Ϗ []::.ue T::(j++KB N e vs (kj q q' u v N w) (Nn q q' u v w));have st:∀ f,An f (O N) (O$ σ0.length+6) (U w) (σ0++SH σ0.length e (LP l r l' r' u v) u v (ώ ks::Ϗ []::.ue T::(j++KB N e vs (kj q q' u v N w) (Nn q q' u v w))))=J (Ϙ f) (σ0++SH σ0.length e (LP l r l' r' u v) u v (ώ a::Ϗ []::.ue T::(j++KB N e vs (kj q q' u v N w) (Nn q q' u v w)))):=λf=>by
  rw[jq (kvs:=ks) (yw 6) d,p,SC 6];rfl
 clear c;generalize σ0++SH σ0.length e (LP l r l' r' u v) u v (ώ a::Ϗ []::.ue T::(j++KB N e vs (kj q q' u v N w) (Nn q q' u v w)))=B,σ0++SH σ0.length e (LP l r l' r' u v) u v (ώ ks::Ϗ []::.ue T::(j++KB N e vs (kj q q' u v N w) (Nn q q' u v w)))=A,σ0++SH σ0.length e (LP l r l' r' u v) u v (ώ ks::Ϗ []::.ue T::j)=Y at *;generalize LP l r l' r' u v=x,ύ (vs.map U)=z,W7=y at *;simp only[Y4,iX,uQ,LA,RA,Uu,Ad,Xz,uO,pl,bP,Ww,zB,X3,i,jS,ee,mk,dm,ų,s,zpd,st]
omit he hq hq' hu hv in
theorem v6{w}{a}{T}{j}(k:(Cj a$ .inl 2).isSome=E8) b c d f g h:pV [BD$ O σ0.length,b,c,d,f,g,h,BD$ U w,BD$ U 2] (σ0++SH σ0.length e (LP l r l' r' u v) u v (ώ a::Ϗ []::.ue T::j))=J (Ϙ [BD$ O σ0.length,b,c,d,f,g,h,BD$ U w,BD$ U 2]) (σ0++SH σ0.length e (LP l r l' r' u v) u v (ώ a::Ϗ []::.ue T::j)):=by
 have m:bc [16] "keepers" (O σ0.length) _=J _ (σ0++SH σ0.length e (LP l r l' r' u v) u v (ώ a::Ϗ []::.ue T::j)):=BL rfl rfl;have i:ig (σ0++SH σ0.length e (LP l r l' r' u v) u v (ώ a::Ϗ []::.ue T::j)) (O$ σ0.length+6)=BD a:=by unfold ig;dsimp only;rw[yw 6];rfl
 generalize σ0++SH σ0.length e _ u v _=Y at *;have n:ot (U 2) (O$ σ0.length+6) Y=J (ϒ J8) Y:=by
  unfold ot;simp only[tj,i,k];rfl
 simp_all
end
def KK(e q a u v:Int)(b:Nat):Ea:=KB (b+9) e [] (kj q a u v (b+9) 0) (Nn q a u v 0)++KB (b+17) e [] (kj q a u v (b+17) 1) (Nn q a u v 1)++KB (b+26) e [7] (kj q a u v (b+26) 2) (Nn q a u v 2)
noncomputable def kv3(b:Nat):Kv:=[(.inl 0,O (b+9)),(.inl 1,O (b+17)),(.inl 2,O (b+26))]
def Hs(e q a u v:Int)(P:D)(b:Nat):Ea:=SH b e P u v$ ώ (kv3 b)::Ϗ []::.ue []::KK e q a u v b
def zvf{σ0}{e q c l r a b u v}(z:1<=e/\e<=9)(A:q=0/\l=1/\r=0\/q=1/\l=0/\r=1)(f:c=0/\a=2/\b=1\/c=1/\a=1/\b=2)(t:Cn u)(y:Cn v){n}{i}(K:σ0[n]?=BD (Ϗ [Cd l r u v 50,Cd a b u v 50]))(G:HD (σ0.length+9)=0)(H:HD (σ0.length+17)=1)(I:HD (σ0.length+26)=2):Bl 16 5 wo [O n,ύ$ (pk i).map U,U e,W7] σ0=J (O σ0.length) (σ0++Hs e q c u v (LP l r a b u v) σ0.length):=by
 have bk:=Y9 ⋯ ⋯ t y$ Cg (j:=[ϔ 16 []]) K;have M:=λL m o=>kN z A f t y (σ0:=σ0) (n:=n) (w:=0) (ϐ rfl) (ks:=[]) (T:=[]) (j:=[]) (N:=σ0.length+9) ⋯ G rfl ⋯ (vs:=[]) ⋯ L m o;have ϋ:=λL m o=>kN z A f t y (σ0:=σ0) (n:=n) (w:=1) (ϓ$ ϐ rfl) (ks:=Zi [] (.inl 0)$ O$ σ0.length+9) (T:=[]) (j:=[]++KB (σ0.length+9) e [] (kj q c u v (σ0.length+9) 0) (Nn q c u v 0)) (N:=σ0.length+17) (by simp[KB,Nn]) H rfl (show (1:Nat)<1000 by decide) (vs:=[]) ⋯ L m o;have k3:=λL m o=>kN z A f t y (σ0:=σ0) (n:=n) (w:=2) (ϓ$ ϓ rfl) (ks:=Zi (Zi [] (.inl 0)$ O$ σ0.length+9) (.inl 1)$ O$ σ0.length+17) (T:=[]) (j:=[]++KB (σ0.length+9) e [] (kj q c u v (σ0.length+9) 0) (Nn q c u v 0)++KB (σ0.length+17) e [] (kj q c u v (σ0.length+17) 1) (Nn q c u v 1)) (N:=σ0.length+26) (by simp[KB,Nn]) I rfl (show (2:Nat)<1000 by decide) (vs:=[7]) ⋯ L m o;have S:=λs=>Ż i s;rw[YK];have C:wo [O σ0.length,O n,ύ$ (pk i).map U,U e,W7] (σ0++[ϔ 16 []])=J Ϝ (σ0++Hs e q c u v (LP l r a b u v) σ0.length):=by
  unfold wo YV
  (try dsimp only);rw[Ur,fC]
  generalize ό:ύ ((pk i).map U)=KL at *;show oo (lc _ _ [BD$ O σ0.length,BD$ O n,BD KL,BD$ U e,BD$ W7,A5,A5,A5,A5]$ σ0++ϔ 16 []::[])=_;have E:∀ e,lq 9 2 bz (Qa (ya 1) zb) (BD (O σ0.length)::BD (O n)::e) (σ0++ϔ 16 []::[])=J (O$ σ0.length+1) (σ0++ϔ 16 []::BB (σ0.length+1) (LP l r a b u v) u v):=λe=>by
   simp only[Nb,gb,Dd,Hk,Ow,Eg]at bk;generalize LP l r a b u v=L at *;simp only[iX,LA,RA,Uu,Ad,Xz,Ww,zB];exact bk
  rw[Pi,EC (d:=O$ σ0.length+1) (ds':=BB (σ0.length+1) (LP l r a b u v) u v) rfl rfl$ E _,Ad,cj];show oo (lc _ _ [BD$ O σ0.length,BD$ O n,BD KL,BD$ U e,BD$ W7,A5,A5,A5,A5]$ σ0++ϔ 16 [("public",O (σ0.length+1))]::(BB (σ0.length+1) (LP l r a b u v) u v++[]))=_;rw[Pi,Oy (d:=LP l r a b u v) rfl rfl (by
   have F:bc [16] "public" (O σ0.length) (σ0++ϔ 16 [("public",O (σ0.length+1))]::(BB (σ0.length+1) (LP l r a b u v) u v++[]))=J (O$ σ0.length+1) (σ0++ϔ 16 [("public",O (σ0.length+1))]::(BB (σ0.length+1) (LP l r a b u v) u v++[])):=xD (Gy (L:=ϔ 16 [("public",O (σ0.length+1))]::(BB (σ0.length+1) (LP l r a b u v) u v++[]))) rfl rfl;have Q:=ye1 (σ0:=σ0) (l:=l) (r:=r) (l':=a) (r':=b) (u:=u) (v:=v) (h:=[("public",O (σ0.length+1))]) (j:=[]);have R:∀ g,Kj [(9,Yt)] 1 "made_of" g (O$ σ0.length+1) (σ0++ϔ 16 [("public",O (σ0.length+1))]::(BB (σ0.length+1) (LP l r a b u v) u v++[]))=(g$ σ0++ϔ 16 [("public",O (σ0.length+1))]::(BB (σ0.length+1) (LP l r a b u v) u v++[])).bind (Fi 1 Yt$ O$ σ0.length+1):=λg=>Lp (Lj$ yw 1) rfl rfl;simp only[iZ,uO,Uu,Ad,F,R,Ww,zvm,Q]),Ad,cj]
  rw[Pi,Oy (d:=U e) rfl rfl (by simp only[RA,Uu]),Ad,cj];rw[Pi,XA (k:=6) rfl rfl rfl,Ad,cj];have P:∀ (x:Ob) (r:Ea) (p:Ev),r.length=6->dt zb p (σ0++x::r)=J (O$ σ0.length+7) (σ0++x::(r++[Ϗ []])):=λx r p B=>by
   simp only[ã,Ww,Ad];show (J (O (σ0++x::r).length) ((σ0++x::r)++[Ϗ []]):ii D)=_;rw[show (σ0++x::r).length=σ0.length+7 by simp[B]];simp
  have lt:∀ (x:Ob) (r:Ea) (p:Ev),r.length=7->JN p (σ0++x::r)=J (O$ σ0.length+8) (σ0++x::(r++[.ue []])):=λx r p B=>by
   show (J (O (σ0++x::r).length) ((σ0++x::r)++[.ue []]):ii D)=_;rw[show (σ0++x::r).length=σ0.length+8 by simp[B]];simp
  rw[Pi,EC (d:=O$ σ0.length+7) rfl rfl$ P _ _ _ rfl,Ad,cj];rw[Pi,EC (d:=O$ σ0.length+8) rfl rfl$ lt _ _ _ rfl,Ad,cj];show oo (lc _ _ [BD$ O σ0.length,BD$ O n,BD KL,BD$ U e,BD$ W7,A5,A5,A5,A5]$ σ0++SH σ0.length e (LP l r a b u v) u v [ώ [],Ϗ [],.ue []])=_;have ow:∀ Y,iw (eT$ Fb Br (ya 4)$ eC Ϝ) (eC$ Ϭ [] []) (ya 4) [BD$ O σ0.length,BD$ O n,BD KL,BD$ U e,BD$ W7,A5,A5,A5,A5] Y=J (W7) Y:=λY=>by
   have i:∀ s,Br (W7) Ϝ s=J (ϒ J8) s:=λs=>nr rfl;generalize W7=L at *;simp[i]
  rw[Pi,G4,ow,dm,zyk,Ad,cj];show oo (lc _ _ [BD$ O σ0.length,BD$ O n,BD KL,BD$ U e,BD$ W7,BD$ W7,A5,A5,A5]$ σ0++SH σ0.length e (LP l r a b u v) u v [ώ [],Ϗ [],.ue []])=_;rw[Pi,nB,bG,Ip,uO];simp only[RA,Uu,Ad,S,cM,dm,kD];rw[Qo];simp only[Za,jb];rw[M,Ad,Yh,Qo];simp only[Za,jb];rw[ϋ,Ad,Yh,Qo];simp only[Za,jb];rw[k3,Ad,Yh,nz,Ad,cj];rw[pH (k:=.inl 7) (v:=U 2) rfl rfl$ v6 (w:=7) rfl ..,RN];rfl
 show uz σ0.length (wo [O σ0.length,O n,ύ$ (pk i).map U,U e,W7]$ σ0++[ϔ 16 []])=_;rw[C,aD]
theorem OG{x}{p}(a:x.p=p) q:ac x q 0=fA p q x.u x.v:=by subst a;rfl
def S0(a:Pa):Ea:=[Ϗ [pD a.x 0,pD a.y 1]]++Hs a.e a.x.q a.y.q a.x.u a.x.v (PL a) 1
def Z0(a:Pa):Nat->Ks
 |0=>Gu a 0 0 []
 |1=>ko a 0 0 0 []
 |_=>Kx a 0
def BO{d}{b}{e}{K}{as}(v:Vs b ⟨e,0,0,K,as,[],Up⟩ d)(m:d[b+2]?=BD (ώ$ AV as))(n:d[b+5]?=BD (ώ []))(o:d[b+6]?=BD (ώ []))(A:b+6<HB)(k:as.length<=3)(z:K.length<=60)(j:∀ x∈as,Qi d x.r x.a/\∃ p q u w,(0<=p/\p<=2)/\(q=0\/q=1)/\x=na x.r (fA p q u w)):Jq b ⟨e,0,0,K,as,[],Up⟩ d:=by
 have c:∀ y∈as.map pv,(y.q=0\/y.q=1)/\∃ u w,y.y=[cS u w]:=λy c=>by
  obtain⟨x,i,rfl⟩:=Ja.mp c;obtain⟨_,p,q,u,w,_,g,e⟩:=j x i;rw[e];exact⟨g,u,w,rfl⟩
 refine⟨v,m,n,o,λx i=>?_,A,k,z,⟨by simpa using k,λy h=>(c y h).1,λy h=>?_,λy h s f=>?_,λy h s f t C=>?_⟩,by simp⟩
 ·obtain⟨l,p,q,u,w,B,g,e⟩:=j x i;refine⟨l,?_,ϐ ?_⟩
  ·rw[e];exact Fx B g rfl rfl
  ·rw[e];exact⟨rfl,rfl⟩
 ·obtain⟨_,u,w,e⟩:=c y h
  simp_all
 ·obtain⟨_,u,w,e⟩:=c y h;rw[e]at f;obtain rfl:=Wa.mp f;simp[cS]
 ·obtain⟨_,u,w,e⟩:=c y h;rw[e]at f;obtain rfl:=Wa.mp f;cases C
theorem lK a:Kb Up (U 0) a=J (ϙ "held") a:=nr rfl
section
variable{a:Pa}(h:a.Ok)(hu:a.y.u=a.x.u)(hv:a.y.v=a.x.v)
include h hu hv
theorem start:Ha a 0 A5 A5 J8 [] (Z0 a)$ S0 a:=by
 have k:=h.x.q;have l:=h.y.q;have f:=OG h.px$ 1 - a.x.q;have g:=OG h.px a.x.q;have c:=OG h.py$ 1 - a.y.q;have d:=OG h.py a.y.q;rw[hu,hv]at c d;refine⟨⟨rfl,rfl,rfl⟩,⟨rfl,?_,rfl,rfl,rfl⟩,λi j=>?_⟩
 ·unfold jI;rw[hu,hv];rfl
 match i,j with
 |0,_=>
  refine⟨⟨a.e,0,0,[],kj a.x.q a.y.q a.x.u a.x.v 10 0,[],Up⟩,BO ⟨rfl,rfl,rfl,rfl,by simp[kj],lK⟩ rfl rfl rfl ⋯ (by simp[kj]) ⋯ λx b=>?_,?_⟩
  ·obtain rfl:x=na 17 _:=by simpa [kj]using b
   exact⟨rfl,_,_,_,_,by lia,by lia,rfl⟩
  ·unfold Z0 Gu;rw[f];rfl
 |1,_=>
  refine⟨⟨a.e,0,0,[],kj a.x.q a.y.q a.x.u a.x.v 18 1,[],Up⟩,BO ⟨rfl,rfl,rfl,rfl,by simp[kj,na,fA,de],lK⟩ rfl rfl rfl ⋯ (by simp[kj]) ⋯ λx b=>?_,?_⟩
  ·have b:x=na 25 (fA 0 a.x.q a.x.u a.x.v)\/x=na 26 (fA 1 (1 - a.y.q) a.x.u a.x.v):=by simpa [kj]using b
   rcases b with rfl|rfl
   ·exact⟨rfl,_,_,_,_,by omega,by omega,rfl⟩
   ·exact⟨rfl,_,_,_,_,by omega,by lia,rfl⟩
  ·unfold Z0 ko;rw[g,c];rfl
 |2,_=>
  refine⟨⟨a.e,0,0,[7],kj a.x.q a.y.q a.x.u a.x.v 27 2,[],Up⟩,BO ⟨rfl,rfl,rfl,rfl,by simp[kj],lK⟩ rfl rfl rfl ⋯ (by simp[kj]) ⋯ λx b=>?_,?_⟩
  ·obtain rfl:x=na 34 (fA 1 a.y.q a.x.u a.x.v):=by simpa [kj]using b
   exact⟨rfl,_,_,_,_,by lia,by omega,rfl⟩
  ·unfold Z0 Kx;rw[d];rfl
theorem l4 i:Bl 16 5 wo [O 0,ύ$ (pk i).map U,U a.e,W7] [Ϗ [pD a.x 0,pD a.y 1]]=J (O 1) (S0 a):=by
 have b:Cn a.x.u:=by have:=h.x.u;exact⟨by lia,by lia⟩
 have c:Cn a.x.v:=by have:=h.x.v;exact⟨by lia,by lia⟩
 obtain⟨l,r,d,g⟩:∃ l r:Int,pD a.x 0=Cd l r a.x.u a.x.v 50/\(a.x.q=0/\l=1/\r=0\/a.x.q=1/\l=0/\r=1):=by
  unfold pD;rcases h.x.q with e|e<;>rw[e];all_goals simp_all
 obtain⟨k,m,f,j⟩:∃ l r:Int,pD a.y 1=Cd l r a.x.u a.x.v 50/\(a.y.q=0/\l=2/\r=1\/a.y.q=1/\l=1/\r=2):=by
  unfold pD;rcases h.y.q with e|e<;>rw[e];all_goals grind
 have mk:=zvf (σ0:=[Ϗ [Cd l r a.x.u a.x.v 50,Cd k m a.x.u a.x.v 50]]) h.e g j b c (n:=0) (i:=i) rfl rfl rfl rfl;unfold S0 PL;rw[d,f];exact mk
theorem E4:∃ c b d e,nt [O 1,U 0,Mj a.x E8] (S0 a)=J (ϒ E8) c/\jc [O 1] c=J (ϒ E8) b/\nt [O 1,U 1,Mj a.y J8] b=J (ϒ E8) d/\jc [O 1] d=J (ϒ E8) e/\Ha a 0 A5 A5 J8 [] (Z0 a) (S0 a)/\(∃ Z,Ha a 0 A5 A5 J8 [] Z b)/\St a 0 0 e:=by
 have j:=start h hu hv;have H:Ha a 0 A5 A5 J8 [] (Z2 _ 0 _ _) _:=(SQ (Z:=Z0 a) (p:=0) rfl rfl).symm ▸ j;obtain⟨c,b,o,q,f⟩:=TR h (p:=0) ⋯ (py:=E8) (Q6 h) H;generalize g:Z2 _ 0 (Gu a 2 _ []) _=Z at *;have f:Ha a 0 A5 A5 J8 [] Z b:=g ▸ f;have w:Z 0=Gu a 2 (al a.x E8) []:=by rw[<-g];exact Fw.1
 have z:Z 1=ko a 2 0 0 []:=by rw[<-g];exact Fw.2
 have A:Z 2=Kx a 0:=by rw[<-g];rfl
 have m:Ha a 0 A5 A5 J8 [] (Z2 Z 1 _ _) b:=(SQ (Z:=Z) (p:=1) z A).symm ▸ f;obtain⟨d,e,r,s,n⟩:=TR h (p:=1) ⋯ (py:=J8) (y9 h) m;refine⟨c,b,d,e,o,q,r,s,j,⟨Z,f⟩,?_⟩;obtain⟨B,C⟩:=aI h;have k:gm a (m0 a) 0=A5:=(Xw h).mpr ⋯;have l:gm a (m1 a) 0=A5:=(Xw h).mpr ⋯;have t:gm a (m0 a) (0 - 1)=A5:=(Xw h).mpr ⋯;have u:gm a (m1 a) (0 - 1)=A5:=(Xw h).mpr ⋯;have k0:kx a 0=[]:=pa ⋯;unfold St;rw[k,l];refine n.congr λi v=>?_
 match i,v with
 |0,_=>show Z 0=zk a 0 0;rw[w];unfold zk Gu al Wz;rw[k0,t,mr];rfl
 |1,_=>show ko a 2 2 _ []=zk a 0 1;unfold zk ko al Wz;rw[k0,k,u,mr];rfl
 |2,_=>show Kx a 2=zk a 0 2;unfold zk Kx Wz;rw[l,mr];rfl
end
def Ws(a:Pa)(m:Int)(i:Nat):Int:=Wk (zk a m i)+(zk a m i).g
section
variable{a:Pa}(h:a.Ok)
include h
theorem HR m:Ws a m 0=pc a.x:=by
 unfold Ws;rw[xF h.x rfl$ rfl];show pc a.x - a.x.t.a+a.x.t.a=_
 lia
theorem JR m:Ws a m 2=rc a.y+a.y.t.a:=by
 unfold Ws;obtain⟨b,d⟩:=uA h a.y.t;have f:=h.e;rw[yX h.y (show (zk a m 2).A=[(ac a.y a.y.q 2,_)]from rfl) ?_]
 ·show rc a.y+a.y.t.a+0=_
  lia
 ·unfold gm;by_cases c:m1 a<=m
  ·rw[ja c];left;unfold lj;simp[h.y.w];exact b
  ·right;have:=dc (show m+1<=m1 a by lia) (show 0<=a.e by omega);refine⟨by rw[h.y.w];exact Wa.mpr rfl,?_⟩;show m * a.e+a.e<a.y.t.y;have:m1 a * a.e<a.y.t.y:=b
   lia
theorem pU m:Ws a m 1=if m<=m1 a then rc a.x+pc a.y else rc a.x+a.x.t.a+(pc a.y - a.y.t.a):=by
 unfold Ws;obtain⟨l,o⟩:=uA h a.y.t;obtain⟨i,p⟩:=uA h a.x.t;obtain⟨s,u⟩:=aI h;have r:=h.e;have n:(zk a m 1).g=0:=rfl;rw[n,lr];by_cases c:m<=m1 a
 ·rw[ja c];have k:gm a (m0 a) m=A5:=(Xw h).mpr ⋯;have b:gm a (m1 a) (m - 1)=A5:=(Xw h).mpr ⋯;have f:(zk a m 1).K=[]:=pa ⋯;exact UB h rfl rfl (by rw[f];simp) (ϓ$ va 2) (j:=2) (by show [(ac a.x a.x.q 2,gm a _ m),_]=_;rw[k,b])
 ·rw[pa c];have b:gm a _ (m - 1)=BD (m1 a * a.e):=ja ⋯;have f:(zk a m 1).K=[7]:=ja ⋯;refine yyj h rfl (show (zk a m 1).A=[(_,gm a (m0 a) m),(_,gm a (m1 a) (m - 1))]from rfl) ?_ ?_
  ·rw[b];unfold lj;simp[h.y.w];exact l
  ·by_cases d:m0 a<=m
   ·left;have:gm a (m0 a) m=BD (m0 a * a.e):=ja d;rw[this];unfold lj;simp[h.x.w];exact i
   ·right;have:=dc (show m+1<=m0 a by lia) (show 0<=a.e by omega);rw[Ag]at this;refine⟨by rw[f];exact Wa.mpr rfl,?_⟩;show m * a.e+a.e<a.x.t.y;have:m0 a * a.e<a.x.t.y:=i;omega
theorem Q1{m b}(e:m<=b){i}(c:i<3):0<=Ws a b i - Ws a m i:=by
 have d:=h.am
 match i,c with
 |0,_=>rw[HR h,HR h];lia
 |1,_=>rw[pU h,pU h];split<;>split<;>lia
 |2,_=>rw[JR h,JR h];lia
end
def mn3(f:Nat->Int)(h:∀ i,i<3->0<=f i):∃ k:Int,0<=k/\∀ a,Jy Dx [ύ ([0,1,2].map λi=>U$ f i)] a=J (U k) a:=by
 have b:=h 0 ⋯;have c:=h 1 ⋯;have d:=h 2 ⋯;refine⟨min (min (f 0)$ f 1)$ f 2,by lia,λa=>?_⟩;have:min _ _=f 0:=Int.min_self _;simp[Jy,Jp,Dx,this]
def SL(a:Pa)(m:Int):D:=ύ ([0,1,2].map λi:Nat=>U$ Ws a m i)
def dE(a:Pa)(S f g j h d i k:Option D)(y:Int)(l b c:Option D):Ev:=[S,f,BD$ U a.e,g,j,l,h,BD$ O 1,d,i,k,BD$ U y,BD$ Xf a,b,c]
section
variable{a:Pa}(h:a.Ok){c0:Int}(S cu pt kp am ls un:Option D){y:Int}{x13 x14:Option D}
include h
theorem Ń{t m}{f}(H:St a t m f)(L:Pr a t m)(M:0<=t) d x14:∃ n g,yL (dE a S (BD$ U c0) cu pt kp am ls un y d (BD$ SL a m) x14) f=J (Ϙ$ dE a S (BD$ U c0) cu pt kp am ls un y d (BD$ SL a n)$ BD$ SL a n) g/\St a (t+1) n g/\Pr a (t+1) n:=by
 obtain⟨N,l,I,q,P,l1⟩:=Ï h H L M (c0 / 216);obtain⟨c,b,ό,o,u,l2⟩:=zvz h q P;refine⟨c,b,?_,o,u⟩;have ϋ:=λK=>Gn q (x:="next_day") 1 mB K rfl;have T:qf [O 1] b=J (SL a c) b:=yQ o;have Q:=n5 h o u ⋯;obtain⟨k,ϊ,mk⟩:=mn3 (λi=>Ws a c i - Ws a m i) λi e=>Q1 h ⋯ e;have R:∀ p,zt (U 3) p=J (.seq$ [0,1,2].map λi:Nat=>U i) p:=λp=>by rw[Qy ⋯ ⋯];rfl
 have v:∀ (m:Int) {i:Nat} (e:i<3) f,Kb (SL a m) (U i) f=J (U$ Ws a m i) f:=λm i e f=>by
  match i,e with
  |0,_=>exact nr rfl
  |1,_=>exact nr rfl
  |2,_=>exact nr rfl
 have r:Di (Uk (io$ Jo$ eC$ U 3) [14,13] (pd 0) zl$ Fb bx (Fb Kb (ya 2)$ ya 0)$ Fb Kb (ya 3)$ ya 0) (dE a S (BD$ U c0) cu pt kp am ls un y d (BD$ SL a m)$ BD$ SL a c) b=J (ύ$ [0,1,2].map λi:Nat=>U$ Ws a c i - Ws a m i) b:=by
  refine Nu (s:=.seq$ [0,1,2].map λi:Nat=>U i) (λi:Nat=>U i) _ (by simp[R]) (λi D=>Eb BD$ Rr [0,1,2] _ i) ⋯ (λi e j=>?_) (λD D=>rfl);have e:i<3:=by simp at e;omega
  have s1:=v m e;have s2:=v c e;unfold dE;generalize SL a m=A,SL a c=B at *;simp[s1,s2]
 have lt:decide (k<0)=J8:=ub ⋯;have F:RU (dE a S (BD$ U c0) cu pt kp am ls un y d (BD$ SL a m)$ BD$ SL a c) b=J (Ϙ$ dE a S (BD$ U c0) cu pt kp am ls un y d (BD$ SL a m)$ BD$ SL a c) b:=by
  unfold dE at r ⊢;generalize SL a m=A,SL a c=B,([0,1,2].map λi:Nat=>U$ Ws a c i - Ws a m i)=C,Xf a=SH at *;simp[Q,r,mk,lt,-Ip]
 have w:BX (dE a S (BD$ U c0) cu pt kp am ls un y d (BD$ SL a m) x14) f=J (Ϙ$ dE a S (BD$ U c0) cu pt kp am ls un y d (BD$ SL a m) x14) l:=by
  unfold dE;generalize SL a m=A,Xf a=SH at *;simp[I]
 have z:XQ (dE a S (BD$ U c0) cu pt kp am ls un y d (BD$ SL a m) x14) l=J (Ϙ$ dE a S (BD$ U c0) cu pt kp am ls un y d (BD$ SL a m) x14) b:=by
  unfold dE;generalize SL a m=A,Xf a=SH at *;simp[ϋ,ό]
 have E:uY (dE a S (BD$ U c0) cu pt kp am ls un y d (BD$ SL a m) x14) b=J (Ϙ$ dE a S (BD$ U c0) cu pt kp am ls un y d (BD$ SL a m)$ BD$ SL a c) b:=by
  unfold dE;generalize SL a m=A,SL a c=B,Xf a=SH at *;simp[T]
 have G:nT (dE a S (BD$ U c0) cu pt kp am ls un y d (BD$ SL a m)$ BD$ SL a c) b=J (Ϙ$ dE a S (BD$ U c0) cu pt kp am ls un y d (BD$ SL a c)$ BD$ SL a c) b:=by
  unfold dE;generalize SL a m=A,SL a c=B,Xf a=SH at *;simp
 show lc _ _ _ _=_;rw[Pi,w,Ad,cj,Pi,z,Ad,cj,Pi,E,Ad,cj,Pi,F,Ad,cj,G]
theorem E3(x:0<=y/\y<=60) k{j}(H:St a 0 0 j):∃ c x14 m b,YJ (dE a S (BD$ U c0) cu pt kp am ls un y k (BD$ SL a 0) A5) j=J (Ϙ$ dE a S (BD$ U c0) cu pt kp am ls un y c (BD$ SL a m) x14) b/\St a (y+2) m b:=by
 have t:∀ f,zt (U$ y+2) f=J _ f:=λf=>Qy ⋯ ⋯;have u:Jo (Fb jh (ya 11)$ eC$ U 2) (dE a S (BD$ U c0) cu pt kp am ls un y k (BD$ SL a 0) A5) j=J (.seq$ mv (y+2).toNat) j:=by
  unfold dE;generalize SL a 0=A,Xf a=SH at *;simp[t]
 have l:(mv (y+2).toNat).length=(y+2).toNat:=by unfold mv;simp
 obtain⟨v,b,e,c,x14,m,rfl,g,_⟩:=vF (S:=.seq _) (xs:=mv (y+2).toNat) (tg:=pd 5) (body:=yL) (λi n f=>∃ c x14 m,n=dE a S (BD$ U c0) cu pt kp am ls un y c (BD$ SL a m) x14/\St a i m f/\Pr a i m) (by rw[l];lia) (ϐ rfl) (λi d n f w p=>by
  obtain⟨c,x14,m,rfl,o,r⟩:=p;obtain⟨q,b,e,g,s⟩:=Ń h (c0:=c0) S cu pt kp am ls un (y:=y) o r ⋯ (BD d) x14;exact⟨_,_,_,rfl,e,_,_,q,rfl,g,s⟩) ⟨k,A5,0,rfl,H,ϐ ⟨rfl,rfl⟩⟩
 refine⟨c,x14,m,b,?_,?_⟩
 ·unfold YJ;rw[nB,u,dm];exact e
 ·rw[l]at g
  rwa [show ((y+2).toNat:Int)=y+2 by lia]at g
theorem T7{t m}{b}(H:St a t m b) h x13 x14:iV (dE a S (BD$ U c0) cu pt kp am ls un y h x13 x14) b=J (.rt$ ϒ E8) b:=by
 have e:Vr [O 1,U 2] b=J (O 27) b:=gF H ⋯;have g:Cr [O 27] b=J (ύ [U 7]) b:=by
  have:=(H.k 2$ by lia).words
  rwa [show ks (zk a m 2).K=[7]from Kt.mp (bv [7])]at this
 have f:∀ c,Kj [(15,Cr)] 1 "words" c (O 27) b=(c b).bind (Fi 1 Cr$ O 27):=λc=>(H.k 2$ by lia).Vi 1 Cr c rfl;have d:wl _ (ύ [U 7]) b=J _ b:=mL rfl;unfold dE;simp[(λc=>Gn H (x:="keeper") 2 Vr c rfl),e,g,f,d]
end
noncomputable def xk(a:gV)(k:Nat):Int:=a.getD k 0
def Ñ a k(c:0<=k) b:Mc [ϫ a,U k] b=J (U$ xk a k.toNat) b:=by
 unfold Mc xk Tc;by_cases h:k<a.length
 ·simp[h,zwg c h]
 ·have e:a.length<=k.toNat:=by lia
  simp[h,yi e]
noncomputable def cA(b:gV):Pa:=
 let n:=xk b;let e:=1+n 0 % 9;let u:=2+n 1 % 999999999999;let v:=2+n 2 % 999999999999;let q:=1 - n 0 / 9 % 2;let a:=1 - n 0 / 18 % 2;let m:=1+n 3 % min u v;let y:=e+1+n 5 % 20
 ⟨e,⟨0,q,u,v,⟨1 - q,m,7,y+e+n 6 % 15⟩⟩,⟨1,a,u,v,⟨1 - a,1+n 4 % m,7,y⟩⟩⟩
def AW{p q u v m y}(c:p=0\/p=1)(b:q=0\/q=1)(d:1<=u/\u<=1000000000000)(e:1<=v/\v<=1000000000000)(a:1<=m/\m<=u/\m<=v)(f:0<=y/\y<=60):(⟨p,q,u,v,⟨1 - q,m,7,y⟩⟩:Pt).Ok:=by
 refine⟨c,b,rfl,⟨by show 1 - q=0\/1 - q=1;lia,by show _/\_;dsimp only;lia,by show 0<=7/\7<=59;lia,by show _/\_;dsimp only;lia⟩,rfl,d,e,?_⟩;show m<=ow _ _;rcases b with rfl|rfl
 ·show m<=v;exact a.2.2
 ·show m<=u;exact a.2.1
def Q4 a:(cA a).Ok/\(cA a).y.u=(cA a).x.u/\(cA a).y.v=(cA a).x.v:=by
 unfold cA;dsimp only;generalize xk a=n;generalize g:2+n 1 % 999999999999=u;generalize h:2+n 2 % 999999999999=v;have u1:2<=u/\u<=1000000000000:=by lia
 have i:2<=v/\v<=1000000000000:=by lia
 have b:=bn (n 3) (show min u v≠0 by lia);have c:=ik (n 3) (show 0<min u v by lia);generalize f:1+n 3 % min u v=m at *;have m1:1<=m/\m<=u/\m<=v:=by lia
 have d:=bn (n 4) (show m≠0 by lia);have e:=ik (n 4) (show 0<m by lia);refine⟨⟨by dsimp only;lia,AW (ϐ rfl) ⋯ ⋯ ⋯ m1 ⋯,AW (ϓ rfl) ⋯ ⋯ ⋯ ⋯ ⋯,rfl,rfl,by dsimp only;lia,by dsimp only;lia,by dsimp only;lia,by dsimp only;lia⟩,rfl,rfl⟩
theorem ML l r u v a:jh (ϑ [U l,U r]) (ϑ [U u,U v]) a=J (ϑ [U l,U r,U u,U v]) a:=rK$ Oe rfl
theorem wO l r u v a:jh (ϑ [U l,U r,U u,U v]) (ϑ [U 50]) a=J (ϑ [U l,U r,U u,U v,U 50]) a:=rK$ Oe rfl
def mn2 a b c:Jy Dx [ϑ [U a,U b]] c=J (U$ min a b) c:=by
 simp[Jy,Jp,Dx]
section
variable(S E:Option D)
def yrb x u v:u4 [S,x,E,BD$ ϑ [U u,U v],A5,A5,A5,A5,A5,A5,A5,A5,A5,A5,A5] []=J (Ϙ [S,x,E,BD$ ϑ [U u,U v],BD$ O 0,A5,A5,A5,A5,A5,A5,A5,A5,A5,A5]) [Ϗ [Cd 0 1 u v 50,Cd 1 2 u v 50]]:=by
 unfold u4 Cd;simp[ML,wO]
def C7{c u v q j}(o:q=0\/q=1)(k:j=0\/j=1)(m:c / 9 % 2=1 - q)(n:c / 18 % 2=1 - j):u5 [S,BD$ U c,E,BD$ ϑ [U u,U v],BD$ O 0,A5,A5,A5,A5,A5,A5,A5,A5,A5,A5] [Ϗ [Cd 0 1 u v 50,Cd 1 2 u v 50]]=J (Ϙ [S,BD$ U c,E,BD$ ϑ [U u,U v],BD$ O 0,BD$ U 1,A5,A5,A5,A5,A5,A5,A5,A5,A5]) [Ϗ [if q=0 then Cd 1 0 u v 50 else Cd 0 1 u v 50,if j=0 then Cd 2 1 u v 50 else Cd 1 2 u v 50]]:=by
 have p:∀ l,zt (U 2) l=J (.seq [U 0,U 1]) l:=λl=>by rw[Qy ⋯ ⋯];rfl
 have s0:∀ (g:Ev) (d a b:D),Zx g d (O 0) _ [Ϗ [a,b]]=J _ [Ϗ [d,b]]:=λg d a b=>ŝ (σ:=[]) d a [b];have s1:∀ (g:Ev) (d a b:D),Zx g d (O 0) (U 1) [Ϗ [a,b]]=J (Ϙ g) [Ϗ [a,d]]:=λg d a b=>Ŗ (σ:=[]) d a b [];have h:∀ f,Tw (U 9) (U 0) f=J _ f:=λf=>aZ ⋯ ⋯;have i:∀ f,Tw (U 9) (U 1) f=J (U 9) f:=λf=>aZ ⋯ ⋯;have l0:∀ x,bF [S,BD$ U c,E,BD$ ϑ [U u,U v],BD$ O 0,BD$ U 0,A5,A5,A5,A5,A5,A5,A5,A5,A5] [Ϗ [Cd 0 1 u v 50,x]]=J (Ϙ [S,BD$ U c,E,BD$ ϑ [U u,U v],BD$ O 0,BD$ U 0,A5,A5,A5,A5,A5,A5,A5,A5,A5]) [Ϗ [if q=0 then Cd 1 0 u v 50 else Cd 0 1 u v 50,x]]:=λx=>by
  unfold bF;rcases o with e|e
  ·have b:(c / 9 % 2 == 1)=E8:=by rw[m,e];rfl
   rw[ja e];unfold Cd;simp[h,b,ML,wO,s0]
  ·have b:(c / 9 % 2 == 1)=J8:=by rw[m,e];rfl
   rw[pa ⋯];simp[h,b]
 have l1:∀ x,bF [S,BD$ U c,E,BD$ ϑ [U u,U v],BD$ O 0,BD$ U 1,A5,A5,A5,A5,A5,A5,A5,A5,A5] [Ϗ [x,Cd 1 2 u v 50]]=J (Ϙ [S,BD$ U c,E,BD$ ϑ [U u,U v],BD$ O 0,BD$ U 1,A5,A5,A5,A5,A5,A5,A5,A5,A5]) [Ϗ [x,if j=0 then Cd 2 1 u v 50 else Cd 1 2 u v 50]]:=λx=>by
  unfold bF;rcases k with e|e
  ·have b:(c / 18 % 2 == 1)=E8:=by rw[n,e];rfl
   rw[ja e];unfold Cd;simp[i,b,ML,wO,s1]
  ·have b:(c / 18 % 2 == 1)=J8:=by rw[n,e];rfl
   rw[pa ⋯];simp[i,b]
 unfold u5;rw[nB];simp only[qI,Cy,Ad,p,dm,kD];rw[Qo];simp only[Za,jb];rw[l0,Ad,Yh,Qo];simp only[Za,jb];rw[l1,Ad,Yh,nz]
def B0 c b d f g a:u6 [S,BD$ U c,b,d,f,g,A5,A5,A5,A5,A5,A5,A5,A5,A5] a=J (Ϙ [S,BD$ U c,b,d,f,g,BD$ ύ$ (pk$ c / 36 % 6).map U,A5,A5,A5,A5,A5,A5,A5,A5]) a:=by
 have i:∀ x y z a,Nr [U x,U y,U z] a=J (ύ [U x,U y,U z]) a:=λx y z a=>aA rfl;have j:∀ a,Nr [ύ [U 0,U 1,U 2],ύ [U 2,U 1,U 0],ύ [U 1,U 0,U 2],ύ [U 2,U 0,U 1],ύ [U 1,U 2,U 0],ύ [U 0,U 2,U 1]] a=J (ύ [ύ [U 0,U 1,U 2],ύ [U 2,U 1,U 0],ύ [U 1,U 0,U 2],ύ [U 2,U 0,U 1],ύ [U 1,U 2,U 0],ύ [U 0,U 2,U 1]]) a:=λa=>aA rfl;have h:∀ a,Kb (ύ [ύ [U 0,U 1,U 2],ύ [U 2,U 1,U 0],ύ [U 1,U 0,U 2],ύ [U 2,U 0,U 1],ύ [U 1,U 2,U 0],ύ [U 0,U 2,U 1]]) (U$ c / 36 % 6) a=J (ύ$ (pk$ c / 36 % 6).map U) a:=λa=>by
  have:c / 36 % 6=0\/c / 36 % 6=1\/c / 36 % 6=2\/c / 36 % 6=3\/c / 36 % 6=4\/c / 36 % 6=5:=by omega
  rcases this with e|e|e|e|e|e<;>rw[e]<;>exact nr rfl
 generalize (pk$ c / 36 % 6).map U=P,ύ [ύ [U 0,U 1,U 2],ύ [U 2,U 1,U 0],ύ [U 1,U 0,U 2],ύ [U 2,U 0,U 1],ύ [U 1,U 2,U 0],ύ [U 0,U 2,U 1]]=Q at *;unfold u6;simp[i,j,h]
theorem B2 b a:Di (wI [.inl 7]$ Qa (eC$ U 2) zb) b a=J (W7) a:=by
 have d:wI [.inl 7] (Qa (eC$ U 2) zb) b a=J (O a.length) (a++[ώ [(.inl 7,U 2)]]):=by
  show Kc _ _ _=_;simp[LA,Cy,Ad,Xz,Ww,zB];unfold fN;have e:(a++[ώ []])[a.length]?=BD (ώ []):=by simp
  simp only[e];rw[ja ⋯,az];rfl
 rw[Ip,d];unfold Yf;dsimp only;rw[ja ⋯,TF (j:=[]) (m:=5) ⋯];rfl
variable{a:Pa}(h:a.Ok)(hu:a.y.u=a.x.u)(hv:a.y.v=a.x.v)
include h hu hv
theorem yre i b c d:u7 [S,b,BD$ U a.e,c,BD$ O 0,d,BD$ ύ$ (pk i).map U,A5,A5,A5,A5,A5,A5,A5,A5] [Ϗ [pD a.x 0,pD a.y 1]]=J (Ϙ [S,b,BD$ U a.e,c,BD$ O 0,d,BD$ ύ$ (pk i).map U,BD$ O 1,A5,A5,A5,A5,A5,A5,A5]) (S0 a):=by
 simp[(λf=>B2 f [Ϗ [pD a.x 0,pD a.y 1]]),uQ,jS,(l4 h hu hv i),-Ip]
end
section
variable{a:Pa}(h:a.Ok)(S c0 cu pt x5 kp:Option D)
include h
theorem X9{c f b}(d:nt [O 1,U 0,Mj a.x E8] c=J (ϒ E8) f)(g:jc [O 1] f=J (ϒ E8) b){Z}(H:Ha a 0 A5 A5 J8 [] Z c):ZT [S,c0,BD$ U a.e,cu,pt,x5,kp,BD$ O 1,BD$ U a.x.t.a,BD$ U a.y.t.a,BD$ U a.y.t.y,BD$ U a.x.t.y,A5,A5,A5] c=J (Ϙ [S,c0,BD$ U a.e,cu,pt,x5,kp,BD$ O 1,BD$ U a.x.t.a,BD$ U a.y.t.a,BD$ U a.y.t.y,BD$ U a.x.t.y,A5,A5,A5]) b:=by
 have i:Mj a.x E8=ϑ [ϙ "pay",U 0,U a.x.t.a,U 7,U a.x.t.y]:=by unfold Mj;rw[h.px,h.x.w];rfl
 rw[i]at d;simp[(λj=>Gn H (x:="wish") 3 nt j rfl),d,g]
theorem Ă{c f b}(d:nt [O 1,U 1,Mj a.y J8] c=J (ϒ E8) f)(g:jc [O 1] f=J (ϒ E8) b){Z}(H:Ha a 0 A5 A5 J8 [] Z c):iR [S,c0,BD$ U a.e,cu,pt,x5,kp,BD$ O 1,BD$ U a.x.t.a,BD$ U a.y.t.a,BD$ U a.y.t.y,BD$ U a.x.t.y,A5,A5,A5] c=J (Ϙ [S,c0,BD$ U a.e,cu,pt,x5,kp,BD$ O 1,BD$ U a.x.t.a,BD$ U a.y.t.a,BD$ U a.y.t.y,BD$ U a.x.t.y,A5,A5,A5]) b:=by
 have i:Mj a.y J8=ϑ [ϙ "pass",U 1,U a.y.t.a,U 7,U a.y.t.y]:=by unfold Mj;rw[h.py,h.y.w];rfl
 rw[i]at d;simp[(λj=>Gn H (x:="wish") 3 nt j rfl),d,g]
theorem ĵ b:CO [S,c0,BD$ U a.e,cu,pt,x5,kp,BD$ O 1,BD$ U a.x.t.a,BD$ U a.y.t.a,BD$ U a.y.t.y,BD$ U a.x.t.y,A5,A5,A5] b=J (Ϙ [S,c0,BD$ U a.e,cu,pt,x5,kp,BD$ O 1,BD$ U a.x.t.a,BD$ U a.y.t.a,BD$ U a.y.t.y,BD$ U a.x.t.y,BD$ Xf a,A5,A5]) b:=by
 have g:=h.e;have c:∀ (i:Int) b,xz _ _ b=J (U _) b:=λi b=>zv8 i a.e ⋯ ⋯;have f:∀ (i:Int) b,Tw (U i) _ b=J (U$ i * a.e) b:=λi b=>G1 ⋯ ⋯;have d:∀ x y b,Nr [U x,U y] b=J (ύ [U x,U y]) b:=λx y b=>aA rfl;unfold CO Xf m0 m1 ym;simp[c,f,d]
theorem L0{y}{b}(H:St a 0 0 b) c d e:tZ (dE a S c0 cu pt kp c d e y x5 A5 A5) b=J (Ϙ$ dE a S c0 cu pt kp c d e y x5 (BD$ SL a 0) A5) b:=by
 have f:qf [O 1] b=J (SL a 0) b:=yQ H;unfold dE
 simp_all
end
def wu b(_:b.length<=63):∃ d,En [ϫ b] []=J (ϒ E8) d:=by
 obtain⟨h,B,C⟩:=Q4 b;have p:=Ñ b;let a:=cA b;have ou:=h.x.u;have ov:=h.x.v;have oa:=h.x.t.a;have mn:=λd=>mn2 a.x.u a.x.v d;have Y:∀ d,pq (U$ xk b 3) (U$ min a.x.u a.x.v) d=J (U$ xk b 3 % min a.x.u a.x.v) d:=λd=>ZK _ _ (by show 0<min (cA b).x.u (cA b).x.v;lia);have X:∀ d,pq (U$ xk b 4) (U a.x.t.a) d=J (U$ xk b 4 % a.x.t.a) d:=λd=>ZK _ _ (by show 0<(cA b).x.t.a;lia);have I:u1 [BD$ ϫ b,A5,A5,A5,A5,A5,A5,A5,A5,A5,A5,A5,A5,A5,A5] []=J (Ϙ [BD$ ϫ b,BD$ U$ xk b 0,A5,A5,A5,A5,A5,A5,A5,A5,A5,A5,A5,A5,A5]) []:=by unfold u1;simp[p]
 have ό:u2 [BD$ ϫ b,BD$ U$ xk b 0,A5,A5,A5,A5,A5,A5,A5,A5,A5,A5,A5,A5,A5] []=J (Ϙ [BD$ ϫ b,BD$ U$ xk b 0,BD$ U a.e,A5,A5,A5,A5,A5,A5,A5,A5,A5,A5,A5,A5]) []:=by
  unfold u2;simp;rfl
 have K:∀ E,u3 [BD$ ϫ b,BD$ U$ xk b 0,E,A5,A5,A5,A5,A5,A5,A5,A5,A5,A5,A5,A5] []=J (Ϙ [BD$ ϫ b,BD$ U$ xk b 0,E,BD$ ϑ [U a.x.u,U a.x.v],A5,A5,A5,A5,A5,A5,A5,A5,A5,A5,A5]) []:=λE=>by
  unfold u3;simp[p];exact⟨rfl,rfl⟩
 have L:=yrb (BD$ ϫ b) (BD$ U a.e) (BD$ U$ xk b 0) a.x.u a.x.v;have qx:(cA b).x.q=1 - xk b 0 / 9 % 2:=rfl;have qy:(cA b).y.q=1 - xk b 0 / 18 % 2:=rfl;have M:=C7 (BD$ ϫ b) (BD$ U a.e) (c:=xk b 0) (u:=a.x.u) (v:=a.x.v) h.x.q h.y.q (by show _=1 - (cA b).x.q;lia) (by show _=1 - (cA b).y.q;lia);have ep:[Ϗ [if a.x.q=0 then Cd 1 0 a.x.u a.x.v 50 else Cd 0 1 a.x.u a.x.v 50,if a.y.q=0 then Cd 2 1 a.x.u a.x.v 50 else Cd 1 2 a.x.u a.x.v 50]]=[Ϗ [pD a.x 0,pD a.y 1]]:=rfl;have N:=yre (BD$ ϫ b) h B C (xk b 0 / 36 % 6) (BD$ U$ xk b 0) (BD$ ϑ [U a.x.u,U a.x.v])$ BD$ U 1;have Q:a.x.t.a=1+xk b 3 % min a.x.u a.x.v:=rfl;have al:a.y.t.a=1+xk b 4 % a.x.t.a:=rfl;have R:a.y.t.y=a.e+1+xk b 5 % 20:=rfl;have S:a.x.t.y=a.y.t.y+a.e+xk b 6 % 15:=rfl;have ϋ:∀ g l i f j d,u8 [BD$ ϫ b,g,l,BD$ ϑ [U a.x.u,U a.x.v],i,f,j,BD$ O 1,A5,A5,A5,A5,A5,A5,A5] d=J (Ϙ [BD$ ϫ b,g,l,BD$ ϑ [U a.x.u,U a.x.v],i,f,j,BD$ O 1,BD$ U a.x.t.a,A5,A5,A5,A5,A5,A5]) d:=λg l i f j d=>by
  rw[Q];generalize a.x.u=u,a.x.v=v at *;unfold u8;simp[p,mn,Y]
 have P:∀ g l k i f j d,u9 [BD$ ϫ b,g,l,k,i,f,j,BD$ O 1,BD$ U a.x.t.a,A5,A5,A5,A5,A5,A5] d=J (Ϙ [BD$ ϫ b,g,l,k,i,f,j,BD$ O 1,BD$ U a.x.t.a,BD$ U a.y.t.a,A5,A5,A5,A5,A5]) d:=λg l k i f j d=>by
  rw[al];generalize a.x.t.a=u at *;unfold u9;simp[p,X]
 have r:∀ g k i f j n o d,gO [BD$ ϫ b,g,BD$ U a.e,k,i,f,j,BD$ O 1,n,o,A5,A5,A5,A5,A5] d=J (Ϙ [BD$ ϫ b,g,BD$ U a.e,k,i,f,j,BD$ O 1,n,o,BD$ U a.y.t.y,A5,A5,A5,A5]) d:=λg k i f j n o d=>by
  rw[R];generalize a.e=e at *;unfold gO;simp[p]
 have s:∀ g k i f j n o d,tO [BD$ ϫ b,g,BD$ U a.e,k,i,f,j,BD$ O 1,n,o,BD$ U a.y.t.y,A5,A5,A5,A5] d=J (Ϙ [BD$ ϫ b,g,BD$ U a.e,k,i,f,j,BD$ O 1,n,o,BD$ U a.y.t.y,BD$ U a.x.t.y,A5,A5,A5]) d:=λg k i f j n o d=>by
  rw[S];generalize a.e=e,a.y.t.y=y at *;unfold tO;simp[p]
 obtain⟨a6,b0,b1,b2,T,ϊ,V,W,F,⟨Z,G⟩,A⟩:=E4 h B C;obtain⟨f,a0,m,z,w,H⟩:=E3 h (c0:=xk b 0) (BD$ ϫ b) (BD$ ϑ [U a.x.u,U a.x.v]) (BD$ O 0) (BD$ ύ$ (pk$ xk b 0 / 36 % 6).map U) (BD$ U a.x.t.a) (BD$ U a.y.t.a) (BD$ U a.y.t.y) (y:=a.x.t.y) (by have:=h.mx;have:=h.x.t.y;exact⟨by show 0<=(cA b).x.t.y;omega,by show (cA b).x.t.y<=60;omega⟩) (BD$ U 1) A;refine⟨z,?_⟩;unfold En IU;exact Ll I$ Ll ό$ Ll (K _)$ Ll L$ Ll M$ Ll (B0 (BD$ ϫ b) (xk b 0) (BD$ U a.e) (BD$ ϑ [U a.x.u,U a.x.v]) (BD$ O 0) (BD$ U 1) [Ϗ [pD a.x 0,pD a.y 1]])$ Ll N$ Ll (ϋ _ _ _ _ _ _)$ Ll (P _ _ _ _ _ _ _)$ Ll (r _ _ _ _ _ _ _ _)$ Ll (s _ _ _ _ _ _ _ _)$ Ll (X9 h _ _ _ _ _ _ T ϊ F)$ Ll (Ă h _ _ _ _ _ _ V W G)$ Ll (ĵ h _ _ _ _ _ _ _)$ Ll (L0 h _ _ _ _ _ _ A _ _ _)$ Ll w (by rw[T7 h _ _ _ _ _ _ _ H];rfl)
end K55
end
open PySem PySem.W PyProof.Rows
set_option maxRecDepth 100000 in
set_option maxHeartbeats 0 in
theorem PySem.Challenge.cw_sidebook_k55_looks_by_rising_hands_holds : PySem.Challenge.rw_sidebook_k55_looks_by_rising_hands.Holds := by
 w_on;refine hd ?_
 k_fill
 refine L4.B8 (l:=PySem.Challenge.rw_sidebook_k55_looks_by_rising_hands) (k:=17) (x:="_law_script") (fn:=K55.En) ["least_fate","paper"] rfl rfl ⟨rfl,by decide,by decide⟩ (λw h Y=>km2_in Y) ?hK ?hrec ?F K55.wu;case hK=>intro w;kernel_rfl
 case hrec=>kernel_rfl
 case F=>
  intro w mg h KX G TT;refine⟨λn=>([0,0,0,0,0,318,353,400,440,591,668,696,722,748,780,1114,1292,315,336,0,0,0,0,0,0,0,0,0,0,0,489,496,503,510,517,0,0,0,546,553,0,0,0,581,588,651,658,665,686,693,712,719,738,745,777,952,959,966,973,980,987,0,1001,1008,1015,0,1029,1036,1043,1050,1057,1064,1071,1078,1085,1090,1097,1104,1111,1138,1145,1152,1159,0,0,0,0,0,1201,0,1215,1222,1229,1237,0,0,0,0,0,0,1282,1289]:List Addr).getD n 0,(K55.tx$ L2.tU KX).ro,K55.yq3 _,K55.ł ?_⟩;constructor;all_goals (try (repeat' (first|exact K55.Al.n|with_reducible refine' K55.Al.c ?_ ?_)))
  all_goals (try dsimp only[L2.tU,List.getD]);all_goals (try dsimp only[List.getElem?_cons_succ,List.getElem?_cons_zero,Option.getD]);all_goals (first
   |(refine' K55.m9 ?p ?q$ L4.iM KX G (λ_ _ _ _ _ _ us hl=>?z) ?a ?l ?c ?k;(case p=>conv=>lhs;whnf);(case q=>dsimp only[K55.fX,L2.xl,List.map]);(case a|l=>k_is);(case z=>exact K55.QF.ap _ us hl (by(repeat intro _);exact rfl));(case c|k=>k_is))
   |(refine' K55.ù ?p ?q$ L4.iS (λ_ _ _ _ _ _ us hl=>?z) ?l ?c ?k;(case p=>conv=>lhs;whnf);(case q=>dsimp only[K55.fX,L2.xl,List.map]);(case l=>k_is);(case z=>exact K55.QF.ap _ us hl (by(repeat intro _);exact rfl));(case c|k=>k_is))
   |(refine' L4.iM KX G (λ_ _ _ _ _ _ us hl=>?z) ?a ?l ?c ?k;(case z=>exact K55.QF.ap _ us hl (by(repeat intro _);exact rfl));(case a|l|c|k=>k_is))
   |(refine' L4.iS (λ_ _ _ _ _ _ us hl=>?z) ?l ?c ?k;(case z=>exact K55.QF.ap _ us hl (by(repeat intro _);exact rfl));(case l|c|k=>k_is))
   |(refine' L4.ν KX G K55.zj0 ?a ?l ?c ?k ?d;(case a|l|c|k|d=>k_is))
   |(refine' L4.uN K55.p6 ?l ?c ?d;(case l|c|d=>k_is))
   |(refine' L4.uN K55.B4 ?l ?c ?d;(case l|c|d=>k_is))
   |(refine' L4.uN K55.ŵ ?l ?c ?d;(case l|c|d=>k_is))
   |(refine' L4.mkT KX G ?a ?b;(case a=>k_is);(case b=>kernel_rfl))
   |(refine' L4.mkI KX G ?a;(case a=>k_is))
   |(refine' mg_of KX G ?a;(case a=>k_is))
   |(refine' mg_none_of KX G ?a;(case a=>k_is))
   |(refine' ⟨⟨?a,?b,?c,?d⟩,?e,?f,?g,?h⟩;(case a|b|c|d|e|f|g|h=>k_is))
   |(refine' ⟨?a,?b,?c,?d⟩;(case a|b|c|d=>k_is))
   |(refine' ⟨?a,?b,?c⟩;(case a|b|c=>k_is))
   |(refine' ⟨?a,?b⟩;(case a|b=>k_is))
   |exact λt h t' h' _=>(Wa.mp h').trans (Wa.mp h).symm
   |(refine' L4.Q3 KX G (L4.iM KX G (λ_ _ _ _ _ _ us hl=>?z) ?a ?l ?c ?k) TT ?d;(case z=>exact K55.QF.ap _ us hl (by(repeat intro _);exact rfl));(case a|l|c|k=>k_is);(case d=>decide))
   |(refine' (mg_of KX G ?a).trans (mg_of KX G ?b).symm;(case a|b=>k_is))
   |exact TT
   |exact mg_of KX G TT.bm
   |(refine' L4.γ ?a;(case a=>kernel_rfl))
   |decide
   |k_is
   |k_exc
   |rfl)
