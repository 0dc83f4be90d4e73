import PyProof.Rows.All
import OpenK.KLine
import OpenK.KOwn
import KE.KNestM
import KE.KDictOf
import Wide.FinOn
import Lean
import PyProof.EqAt
import PyProof.EqKinds
import PyProof.TupleCall
import PyProof.NeKinds
import PyProof.NsDelKeeps
import KE.KTryMore
import PyProof.WalksMore
import PyProof.Rows.SetFrom
import KE.KEqDict
import PyProof.ToksMono
import PyProof.StrCalls6
import PyProof.StrBlock2
import PyProof.SliceStr2
import PyProof.StrLawsTight
import PyProof.InstStoreFacts
import PyProof.Rows.FStr
import PyProof.FactsAll.set
import KE.KDictLaws
import KE.KIntText
import PyProof.Rows.StrWeight2
import PyProof.StrWalks
import PyProof.StrBlockH
import PyProof.WalksEnum
import PyProof.ZipIter
import PyProof.EnumMake
import PyProof.FitsReplace
import PyProof.StrLawsIn
import PyProof.Rows.SortWalk
import PyProof.DictUpdate
import KE.KDictList
import KE.KDictSum
import KE.KPairComp
import PyProof.FactsAll.dict
import KE.KMinKey
import KE.KLam
import PyProof.DictWalks
import PyProof.DictValues
import PySem.Challenge.RW_sidebook_k93_who_lays_what_was_struck
set_option Elab.async false
set_option linter.all false
set_option maxRecDepth 100000
namespace PySem.W.Fast
def te13052408679150730464:=Nat
def tw12756492731324608298:=Nat
def tw15132249893563474979:=Nat
def tw1892690694989095666:=Nat
def tw256341635539772221:=Nat
def tw8583114499334966004:=Nat
def tw236085659262978080:=Nat
def tw1212102639824214643:=Nat
def tw861502493610598483:=Nat
def tw8156932348028877967:=Nat
def tw10656201738612077351:=Nat
def tw6872789842757496876:=Nat
def tw18090264274711557029:=Nat
def tw17826623284341320060:=Nat
def tw13591048310350326776:=Nat
def tw5760117238175538160:=Nat
def tw1090689591775485030:=Nat
def tw7774113678449685934:=Nat
def tw8586721762622732767:=Nat
def tw9492299096041275256:=Nat
def tw12744582225734075806:=Nat
def tw12546471409375691253:=Nat
def tw8169806428440432713:=Nat
def tw280917380089993231:=Nat
def tw12382470007097167742:=Nat
def tw10223898402276761379:=Nat
def tw11509211604773734946:=Nat
def tw495091267313879439:=Nat
def tw5320619654261168702:=Nat
def tw2244891987886370477:=Nat
def tw13578020157988156910:=Nat
def tw14169547596032710409:=Nat
def tw17105322094737777421:=Nat
def tw4139333405863992284:=Nat
def tw12361736095285214711:=Nat
def tw13758190518337804936:=Nat
def tw15359611588545569252:=Nat
def tw1486846090086101256:=Nat
def tw9074020239141712578:=Nat
def tw6344153461787385748:=Nat
def tw8057509151949241040:=Nat
def tw8514659027417952518:=Nat
def tw4779319495676466695:=Nat
def tw17949248998541250905:=Nat
def tw7830361148116998868:=Nat
def tw8997383693586321770:=Nat
def tw1799641797098859658:=Nat
def tw5567260261556248313:=Nat
def tw16209886269506037329:=Nat
def tw14151252239970057569:=Nat
def tw9094225154769264635:=Nat
def tw7970753398140278972:=Nat
def tw13730562907999268711:=Nat
def tw13002473133791111888:=Nat
def tw6784737039638806343:=Nat
def tw938635154573522699:=Nat
def tw10483620692585885732:=Nat
def tw1957514795507633963:=Nat
def tw10374632558016547081:=Nat
def tw14671481471946370582:=Nat
def tw6953138203311097117:=Nat
def tw14344478149125931734:=Nat
end PySem.W.Fast
namespace PySem.W
open PySem PySem.Spec PySem.Calls PyProof.Rows
def gtO (x : Option Obj) : Option Obj := match x with
  | some ⟨_, _, .freed, _⟩ => none
  | o => o
noncomputable def pk (l : List Obj) : Nat → List Addr → List (Option Obj) := @List.rec Obj (fun _ => Nat → List Addr → List (Option Obj)) (fun _ as => as.map fun _ => none) (fun o _ ih i as => @List.rec Addr (fun _ => List (Option Obj)) [] (fun a r _ => @Bool.rec (fun _ => List (Option Obj)) (ih (Nat.succ i) as) (gtO (some o) :: ih (Nat.succ i) r) (Nat.beq a i)) as) l
def rz : Nat → List Addr → Bool
  | _, [] => true
  | i, a :: r => Nat.ble i a && rz (a + 1) r
theorem rz_le : ∀ (as : List Addr) (i : Nat), rz i as = true → ∀ b ∈ as, i ≤ b
  | [], _, _, b, h => by cases h
  | a :: r, i, h, b, hb => by
    unfold rz at h
    rw [Bool.and_eq_true] at h
    have h1 := Nat.le_of_ble_eq_true h.1
    rcases List.mem_cons.mp hb with rfl | hb
    · exact h1
    · have := rz_le r (a + 1) h.2 b hb; omega
theorem rz_up {a i : Nat} {r : List Addr} (h : rz i (a :: r) = true) (n : a ≠ i) : rz (i + 1) (a :: r) = true := by
  unfold rz at *
  rw [Bool.and_eq_true] at *
  have := Nat.le_of_ble_eq_true h.1
  exact ⟨Nat.ble_eq_true_of_le (by omega), h.2⟩
theorem pk_eq : ∀ (l : List Obj) (i : Nat) (as : List Addr), rz i as = true → pk l i as = as.map fun a => gtO l[a - i]?
  | [], i, as, _ => by
    show as.map _ = _
    exact List.map_congr_left fun a _ => by simp [gtO]
  | o :: l, i, [], _ => rfl
  | o :: l, i, a :: r, h => by
    have step : ∀ as : List Addr, rz (i + 1) as = true → (as.map fun a => gtO l[a - (i + 1)]?) = as.map fun a => gtO (o :: l)[a - i]? := fun as h => List.map_congr_left fun b hb => by
      have := rz_le as _ h b hb
      rw [show b - i = (b - (i + 1)) + 1 by omega, List.getElem?_cons_succ]
    show @Bool.rec (fun _ => List (Option Obj)) (pk l (Nat.succ i) (a :: r)) (gtO (some o) :: pk l (Nat.succ i) r) (Nat.beq a i) = _
    cases e : Nat.beq a i with
    | true =>
      obtain rfl := Nat.eq_of_beq_eq_true e
      have h2 : rz (a + 1) r = true := by unfold rz at h; exact (Bool.and_eq_true_iff.mp h).2
      show gtO (some o) :: pk l (a + 1) r = _
      rw [pk_eq l (a + 1) r h2, step r h2, List.map_cons, Nat.sub_self]; rfl
    | false =>
      have h2 := rz_up h (Nat.ne_of_beq_eq_false e)
      show pk l (i + 1) (a :: r) = _
      rw [pk_eq l (i + 1) _ h2, step _ h2]
noncomputable def kmO (as : List Addr) (h : Heap) : List (Option Obj) := @Bool.rec (fun _ => List (Option Obj)) (as.map h.get?) (pk h.objs.toList 0 as) (rz 0 as)
theorem kmO_eq (as : List Addr) (h : Heap) : kmO as h = as.map h.get? := by
  unfold kmO
  cases e : rz 0 as with
  | false => rfl
  | true =>
    show pk h.objs.toList 0 as = _
    rw [pk_eq _ _ _ e]
    exact List.map_congr_left fun a _ => by
      rw [Nat.sub_zero, Array.getElem?_toList]; rfl
noncomputable def kmH2 (K : Params → Frag) (as : List Addr) (e : ∀ P, as = (K P).map (·.1)) (ts : List Addr) : Hook where
  α := List (Option Obj) × List (Option Obj)
  obs := fun s => (kmO as s.heap, ts.map s.heap.get?)
  val := fun w => ((K w.params).map fun p => some p.2, ts.map fun _ => some (tabObj #[]))
  says := fun w h => InK K w h ∧ ∀ P ∈ ts, h.get? P = some (tabObj #[])
  of := fun w s x => (kmHook K as e ts).of w s (show (as.map s.heap.get?, ts.map s.heap.get?) = _ by rw [← kmO_eq]; exact x)
  keeps := (kmHook K as e ts).keeps
theorem km2_in {K : Params → Frag} {as : List Addr} {e : ∀ P, as = (K P).map (·.1)} {ts : List Addr} {w : World} {h : Heap} (Y : (kmH2 K as e ts).says w h) : (K w.params).In h := (show InK K w h ∧ ∀ P ∈ ts, h.get? P = some (tabObj #[]) from Y).1
end PySem.W
section
open PySem PySem.W PyProof.Rows
set_option maxHeartbeats 0
local macro_rules | `(tactic| o_head ($f $a $b $c $d)) => `(tactic| o_head ((kmH2 $a $b $c) $d))
open_top hd for PySem.Challenge.rw_sidebook_k93_who_lays_what_was_struck
end
theorem b_{p:Prop}(h:(p->False)->False):p:=Classical.byContradiction h
open Option renaming some->BD,none->L6
open Bool renaming true->A3,false->Ŷ
local macro_rules|`(⋯)=>`(by first|lia|omega|(simp;done)|decide|simp_all|grind)
set_option genSizeOf false
set_option tactic.hygienic false
set_option bootstrap.genMatcherCode false
set_option compiler.extract_closed false
def jd:=@beq_eq_false_iff_ne
def Zg:=@beq_iff_eq
def W0:=@beq_self_eq_true
def Ab:=@congrArg
def Vb:=@decide_eq_false
def Ib:=@decide_eq_true
def Jc:=@decide_eq_true_eq
def lp:=@if_false
def qa:=@if_neg
def ia:=@if_pos
def dj:=@if_true
def qp:=@or_false
open Array renaming append_assoc->yt,forIn_toList->xt,getElem?_eq_getElem->Bb,getElem?_eq_none->jq,getElem?_eq_none_iff->vn,getElem?_eq_some_iff->Qc,getElem?_extract->iq,getElem?_push->Fs,getElem?_toList->Nd,length_toList->Db,toArray_toList->fj
open Bool renaming and_assoc->Pz,and_eq_true->Da,and_false->Oz,eq_iff_iff->Xd,false_eq_true->uu,false_ne_true->Ya,false_or->JB,not_eq_true->bi,or_eq_true->vg
open Classical renaming choose_spec->zaB
open Int renaming emod_lt_of_pos->Jk,emod_nonneg->Gg
open List renaming all_cons->gf,all_eq_true->qb,all_map->UD,any_cons->jf,any_eq_false->Jv,any_eq_true->Ld,append_assoc->Vv,append_nil->kf,dropLast_concat_getLast->Nm,drop_eq_getElem_cons->oh,drop_eq_nil_of_le->Jq,ext_getElem?->Cf,filterMap_cons->Ze,filter_cons->Ue,filter_eq_self->Cj,find?_cons->Zd,find?_eq_none->vu,foldl_cons->Im,foldl_nil->Rz,getD_eq_getElem?_getD->ah,getElem?_append_left->Xa,getElem?_append_right->pc,getElem?_eq_getElem->Va,getElem?_eq_none->Xi,getElem?_eq_none_iff->yc,getElem?_eq_some_iff->ba,getElem?_map->Na,getElem?_of_mem->Es,getElem?_replicate->fq,getElem?_set->Ef,getElem?_set_ne->mj,getElem?_set_self->oi,getElem?_take_of_lt->jp,getElem?_toArray->Yi,getElem_inj->Nw,getElem_mem->di,getElem_of_mem->Dt,length_append->Ic,length_cons->Pb,length_drop->Pw,length_eq_zero_iff->lq,length_eraseIdx_of_lt->Zn,length_filter_le->Er,length_map->Ra,length_nil->Jm,length_range->xh,length_set->yg,length_take->ci,lookup_cons->Gb,map_append->vc,map_cons->gb,map_map->Qb,map_nil->Df,mem_append->Yd,mem_append_left->Pa,mem_append_right->Qa,mem_cons->Fa,mem_cons_of_mem->ra,mem_cons_self->ya,mem_filter->Li,mem_filterMap->ik,mem_map->La,mem_map_of_mem->ge,mem_of_getElem?->wa,mem_range->ke,mem_singleton->Oa,mem_zipIdx_iff_getElem?->xg,nil_append->wg,nodup_append->Uc,nodup_cons->lf,nodup_nil->oe,not_mem_nil->Ve,of_mem_zip->Hm,pairwise_iff_getElem->Ko,range_succ_eq_map->Iq,set_append_left->nj,set_append_right->Rf,set_cons_succ->Zb,set_cons_zero->qc,set_set->Gf,size_toArray->Ea,take_length->Uf,take_sublist->jl,zipIdx_map_fst->Ht
open List.Perm renaming cons_inv->zaE
open Nat renaming add_assoc->cq,le_of_ble_eq_true->Vf,le_of_eq->IG,le_of_lt->Ed,le_refl->pa,le_succ->Eh,le_trans->ub,lt_irrefl->qd,lt_of_le_of_lt->Rv,lt_of_lt_of_le->Ga,lt_succ_of_lt->Jb,lt_succ_self->yb,lt_trans->Gr,lt_trichotomy->Rw,mod_lt->gR,ne_of_gt->Fd,ne_of_lt->va,not_lt->ZQ,one_ne_zero->Qz,zero_le->Dh
open Ne renaming symm->Jd
open Option renaming bind_eq_some_iff->pf,bind_some->Fh,getD_none->su,isSome_iff_exists->ae,isSome_map->nk,map_eq_some_iff->Wa
open Option.some renaming inj->Sb
open Prod renaming ext->A0
open PyProof.Rows renaming AllBare->Ah,IntsAre->Bh,callWith_builtin1->iK,callWith_type1->pe,iadd_int->fK,slot_tuple_getitem->ec,Subscript_->HB,args_list_sort->dR,args_tuple_getitem->GB,boot_isinstance->jK,entry_list_iadd'->MG,entry_list_sort->mK,entry_proto_collect'->xy,entry_tuple_getitem->Nz,envOfC->eg,firstMet->zf,firstMet_length_le->NB,firstMet_succ->Z0,firstMet_zero->w1,get?_update_seq->qK,list_sort_tree->cR,seqObj->zm,size_push'->MB,slicePart_none->YQ,slot_list_sort->bR,sortedHeap_at->Y0,sortedHeap_old->eR,step_dedup->RB,subscriptTail->A1,subscriptTail_builtinR->Nv,tupleItemsOf_->B0
open PyProof.Rows.F renaming entry_set_update_loop->Gs
open PySem renaming Around->Ia,BindsTo->Me,Builtin->ui,CmpOp->zp,DictEntry->zu,Drawn->yp,ElemsOf->fE,Env->qg,ExceptHandler->Lg,Expr->Ja,FuncData->df,GenState->Rh,IsPair->nR,IsPart->Lk,ItemsOf->Cn,Keyword->Aj,Model->gj,NameKind->Ae,Operator->Kk,OsState->Xv,PassesOwn->ij,PlainAttrs->ym,Pos->Td,Program->xa,boot_len->wy,mem_of_lookup->ee,Result->No,Sem->Om,SetTable->Md,Slot->lR,World->Ma,argsOk->Lr,assign->Mi,assignEach->Gd,atKey->Kr,attributeBase->Wc,backTo->Ub,backToKw->Pg,behindInMarks->Ud,behindIsImport->mR,binaryOp->je,bindC->xu,bindL->wu,bindSpecialIfBound?->Uz,builtinLookup_eq_fast->Sw,callSpecialIfBound?->Tz,callWith->Bn,call_list_seq->V0,call_meetsIn->wh,callerA->An,cellsFrom->RG,checkBuiltinCall->VG,cmpInfo_Eq->OB,codeAny_builtin->Kc,codeAny_call_builtin->Gk,codeAny_mono->mf,codeAny_of_tree->oK,compareOp->Eb,concat_meets->Lv,entryFor->oR,entryFor_alias->fR,eqIsQuiet_byValue->LD,eval->Cb,fits_of_scanBound->ag,foldedSetIterable->ie,getItem->qi,getMethod->Gh,holding->Od,inplaceOp->OG,intBits_le_64->t0,intKind->Hf,isInstance->SB,isSubtype_type->Ir,isTrue->QB,keywordEach->Fe,noFill_tuple_add->Jo,noteFrame->Hh,oneThing_ref->Uv,pickOrder->Qo,plainId_quiet->Sd,rangeSize_one->r0,rawInt->jc,reduceHash->PB,relayAll->En,release->dE,richCompare->Nk,seqIndex_neg->Mv,seqIndex_of->vy,seq_tuple_add->At,setFlight->Po,setItem->Kq,setNext->Zv,sliceBounds->ri,slot_list_getitem->RD,standAt->Kg,starEach->ka,storeName->NG,subscripted->Ap,swappedStores->Oi,swapsWith->Hg,swapsWithSole->Ni,sysModules->bf,tryCompare->TB,typeLookup_type->pK,typeOf->Wv,valueAt->kl,wpAny_Call_Name_kw->Ke,wpAny_Call_method_late->Qv,wpAny_Dict_empty->KG,wpAny_Name->FB,wpAny_askSetting->Fg,wpAny_assign_Name->ND,wpAny_attempt->Vl,wpAny_bind->aa,wpAny_cRoomFor->Jr,wpAny_call->yj,wpAny_callSpecial?_slot->Ad,wpAny_call_entry->Dc,wpAny_comprehension_free->Ft,wpAny_execs_cons->HG,wpAny_execs_nil->fh,wpAny_field->Fk,wpAny_fieldsOf->Hk,wpAny_forIn_list->GG,wpAny_holding->Xb,wpAny_isInstance->Io,wpAny_isSame_ref_other->zj,wpAny_isTrue_Compare1->Ow,wpAny_ite_split->Ff,wpAny_items_cons->JG,wpAny_letGo->vp,wpAny_load->wm,wpAny_loadName_cell->Mz,wpAny_loadName_local->uy,wpAny_loadPart_at->Cd,wpAny_mono->dc,wpAny_newFunctionEnv->Ik,wpAny_newList->Et,wpAny_newObj_type->Gc,wpAny_of_eq->zy,wpAny_passesOwn->Se,wpAny_pure->ga,wpAny_pyIter_enum->XD,wpAny_pyIter_list->pi,wpAny_pyIter_slot->ZD,wpAny_pyIter_tuple->IB,wpAny_pyIter_zip->LG,wpAny_rule->vm,wpAny_runValue->Hr,wpAny_seqItems->Zf,wpAny_sequenceKey->OD,wpAny_setEntries_of->yf,wpAny_setEpoch_of->aE,wpAny_setField->bg,wpAny_setState_of->We,wpAny_specialOf->eh,wpAny_standAt->zt,wpAny_storeSet_of->YD,wpAny_truthy_bool->Yc,wpAny_tryCatch->ze,wpAny_typeOf->xj,wpAny_updateSeq->jh,wp_field_iff->Tv,wp_setField_iff->kK
open PySem.Around renaming frames_deeper->Hq
open PySem.Bind renaming checkArgs->Jf
open PySem.BindsTo renaming of_defaults->Pc
open PySem.Builtin.Frozenset renaming newClass->Ay,updateFrom->By
open PySem.Builtin.List renaming listExtendWith->xK,listLengthHint->Xj,listSameRef->ll,listTooLong->zg,listTouch->wK
open PySem.Builtin.Range renaming rangeSize->QG
open PySem.Builtin.Slice renaming sliceAdjust->fg,sliceApplied->UG,slicePartIndex->SG,slicePlaces->gg
open PySem.Builtin.Tuple renaming tupleExact->rg,tupleHashOf->dg,tupleItemsOf->Sf
open PySem.Calls renaming Name_function_global->on,callWith_builtin->ji,call_function_entry->Yn,evalArgs_plain->ej
open PySem.CmpOp renaming In->kR,NotIn->cE
open PySem.DictEntry renaming refKey->zaF
open PySem.EntryCells renaming newEntry->Oo
open PySem.F renaming cmpArgs_eq->iR,cmpEntry_eq->tK,cmpKind_eq->jR,cmpSplit_eq->uK,cmp_object->xm,slot_tuple_hash->ai,args_tuple_add_2->gh,called_set->Zc,entry_min_loop->Oh,entry_tuple_add->vh,plainAttrs_dict->sd,plainAttrs_list->zh,plain_extend_loop->Mm,plain_list_iadd->Wn,plain_min_loop->qe,slot_dict_delitem->Km,slot_dict_items->yh,slot_dict_pop->pp,slot_dict_setdefault->Pl,slot_dict_update->rn,slot_dict_values->wn,slot_list_append->xn,slot_set_iter->rp,slot_tuple_add->Nh,type_dict_items->bo,type_list_append->yn
open PySem.Heap renaming ExtBut->Am,FlyingW->eE,HeldW->eo,SameBut->md,get?_eq_some->Sv,get?_push_of_some->da,get?_push_size->za,get?_update_other->ye,get?_update_self->Ec,lt_size->ua,size_push->Tc
open PySem.Heap.DictOf renaming new->aR
open PySem.Heap.IsSliceOf renaming new->QD
open PySem.Heap.IsTuple renaming push->lK
open PySem.Heap.SameBut renaming refl->nK,update->Rb
open PySem.Heap.UpToSlots renaming of_keeps->VD
open PySem.IsL renaming update->zaA
open PySem.Manifest renaming signature?->jg
open PySem.NameKind renaming cell->Bc,free->db
open PySem.Obj renaming cls_mapFields->Ql,data_mapFields->cc,isFreed_of_fields->Le,mapFields->mq,mapSeq->Be,putSet->Yv
open PySem.PassesOwn renaming leaving->zaC,looking->zaD
open PySem.Sem renaming wp_bind'->Ol,wp_mono->Ct
open PySem.SeqAt renaming EqAt->Hc,RcAt->Qg,RcNeAt->Ig,in_listAt->Qw,in_tupleAt->Ov,notIn_listAt->Bt,notIn_tupleAt->Ds
open PySem.SeqAt.EqAt renaming bool_bool->K0,bool_int->L0,bool_none->J0,bool_str->M0,int_bool->O0,int_int->P0,int_none->N0,int_str->gp,none_bool->C0,none_int->G0,none_str->I0,same->jk,str_bool->R0,str_int->ip,str_none->Q0,str_str->U0
open PySem.SeqAt.RcAt renaming tuples->q0
open PySem.SetTable renaming below->Ge,fresh->yu,grown->rf,has->Tw,insertAt->Dj
open PySem.SetTable.below renaming go->Dn
open PySem.SetTable.probe renaming go->ig
open PySem.Shared renaming TypeIs->io
open PySem.Str renaming ofString->Pi
open PySem.Value renaming bool->Wj,int->Qh,isInt->bE,isInt_shape->qu,isStrOf->Sz,none->Yb,ref->xb,str->xp,type->ki
open PySem.W.WData renaming int->vK
open PySem.Walks renaming list->Vj
open PySem.WalksT renaming zip2->LB
open PySem.Within renaming cons->cK
open PySem.pickOrder renaming go->Fn
open Sum.inl renaming inj->Ki
open Sum.inr renaming inj->dq
open PySem PyProof.Rows
abbrev ac:=List PySem.Str
abbrev ad:=List PySem.Addr
abbrev b':=List PySem.Value
abbrev dl:=List Int
abbrev dN:=List Nat
abbrev em:=List (PySem.Addr × PySem.Obj)
noncomputable section
namespace L2
open Spec
abbrev Nc:=Sum Int Str
noncomputable def oD:Nc->Value->Bool
 | .inl k,v=>bE k v
 | .inr x,v=>Sz x v
noncomputable def zL6(w:Ma):Nc->Int
 | .inl k=>hashInt k
 | .inr x=>hashStr w x
theorem Lq:∀ {k:Nc} {v:Value},oD k v=A3->(∃ i t,k=Sum.inl i/\v=Qh i t)\/(∃ x t,k=Sum.inr x/\v=xp x t)
 | .inl i,v,h=>by
  obtain⟨t,e⟩:=qu h;exact .inl ⟨i,t,rfl,e⟩
 | .inr x,v,h=>by
  obtain⟨t,e⟩:=Value.isStrOf_shape (v:=v) h;exact .inr ⟨x,t,rfl,e⟩
def ω i t:oD (.inl i) (.int i t)=A3:=by simp[oD,bE]
def V2 x t:oD (.inr x) (.str x t)=A3:=by simp[oD,Sz]
def J5 a b:decide ((Sum.inl a:Nc)=Sum.inl b)=(a == b):=by
 by_cases e:a=b;all_goals simp_all
def M6 a b:decide ((Sum.inr a:Nc)=Sum.inr b)=decide (a=b):=by
 simp_all
def ô a b:decide ((Sum.inl a:Nc)=Sum.inr b)=Ŷ:=Vb (λq=>nomatch q)
def Ÿ a b:decide ((Sum.inr a:Nc)=Sum.inl b)=Ŷ:=Vb (λq=>nomatch q)
def ek(c:xa)(w:Ma):PySem.KeyKind c w Nc where
 is:=oD
 hash:=zL6 w
 inj:=λv a b g f=>by
  rcases Lq g with⟨i,t,rfl,rfl⟩|⟨x,t,rfl,rfl⟩
  ·rcases Lq f with⟨j,u,rfl,e⟩|⟨y,u,rfl,e⟩
   ·injection e with e1 _;rw[e1]
   ·exact nomatch e
  ·rcases Lq f with⟨j,u,rfl,e⟩|⟨y,u,rfl,e⟩
   ·exact nomatch e
   ·injection e with e1 _;rw[e1]
 byValue:=λk v h=>by
  rcases Lq h with⟨i,t,rfl,rfl⟩|⟨x,t,rfl,rfl⟩<;>rfl
 pyHash:=λd h=>by
  rcases Lq d with⟨i,t,rfl,rfl⟩|⟨x,t,rfl,rfl⟩
  ·exact wpAny_pyHash_int h
  ·exact wpAny_pyHash_str h
 eqBool:=λl d h=>by
  rcases Lq l with⟨i,t,rfl,rfl⟩|⟨x,t,rfl,rfl⟩
  ·rcases Lq d with⟨j,u,rfl,rfl⟩|⟨y,u,rfl,rfl⟩
   ·rw[J5]at h;exact wpAny_eqBool_int h
   ·rw[ô]at h;exact gp i t y u _ _ _ _ h
  ·rcases Lq d with⟨j,u,rfl,rfl⟩|⟨y,u,rfl,rfl⟩
   ·rw[Ÿ]at h;exact ip x t j u _ _ _ _ h
   ·rw[M6]at h;exact wpAny_eqBool_str h
 «strs»:=λk x t v h=>by
  rcases Lq h with⟨i,u,rfl,e⟩|⟨y,u,rfl,e⟩
  ·exact nomatch e
  ·injection e with e1 _;subst e1;cases v<;>rfl
def zeg a w i t:(ek a w).is (.inl i) (.int i t)=A3:=ω i t
def L1 a w x t:(ek a w).is (.inr x) (.str x t)=A3:=V2 x t
inductive V where
 |Lb|bl (b:Bool)|int (i:Int)|str (x:Str)|CI (b:Array UInt8)|BB (b:UInt64)|ref (a:Addr)|ty (n:String)
 deriving DecidableEq
abbrev gV:=List V
def gd:V->Value->Prop
 | .Lb,u=>u=Yb
 | .bl b,u=>u=Wj b
 | .int i,u=>∃ t,u=Qh i t
 | .str x,u=>∃ t,u=xp x t
 | .CI b,u=>∃ t,u=Value.bytes b t
 | .BB b,u=>∃ t,u=Value.float b t
 | .ref a,u=>u=xb a
 | .ty n,u=>u=ki n
abbrev de:gV->b'->Prop:=Paired gd
def de.length(r:de xs a):xs.length=a.length:=Paired.length r
theorem de.get:∀ {xs:gV} {us:b'} {i:Nat} {x:V},de xs us->xs[i]?=BD x->∃ u,us[i]?=BD u/\gd x u
 |_,_,_,_,.nil,e=>by simp at e
 |_,_,0,_,.cons r _,e=>by simp at e;subst e;exact⟨_,rfl,r⟩
 |_,_,i+1,x,.cons _ t,e=>by
  obtain⟨u,a,b⟩:=de.get (i:=i) (x:=x) t (by simpa using e)
  simp_all
theorem de.set(r:gd x u):∀ {xs:gV} {us:b'} (i:Nat),de xs us->de (xs.set i x) (us.set i u)
 |_,_,_,.nil=>.nil
 |_,_,0,.cons _ t=>.cons r t
 |_,_,i+1,.cons q t=>.cons q (de.set r i t)
theorem de.append{xs a:gV}{us ws}(h:de xs us)(s:de a ws):de (xs++a) (us++ws):=by
 induction h with
 |nil=>exact s
 |cons r _ i=>exact .cons r i
theorem de.take:∀ {xs:gV} {us:b'} (n:Nat),de xs us->de (xs.take n) (us.take n)
 |_,_,0,_=>.nil
 |_,_,_+1,.nil=>.nil
 |_,_,n+1,.cons r t=>.cons r (de.take n t)
theorem de.drop:∀ {xs:gV} {us:b'} (n:Nat),de xs us->de (xs.drop n) (us.drop n)
 |_,_,0,r=>r
 |_,_,_+1,.nil=>.nil
 |_,_,n+1,.cons _ t=>de.drop n t
def xo:Option V->Option Value->Prop
 |some v,BD u=>gd v u
 |none,L6=>True
 |_,_=>False
def KV{a:Type}:List (a × V)->List (a × Value)->Prop:=Paired λ(p:a × V) (q:a × Value)=>p.1=q.1/\gd p.2 q.2
noncomputable def kV:Nc->V
 | .inl i=>.int i
 | .inr x=>.str x
def NK:Nat->Type
 |0=>Nc
 |n+1=>Nc ⊕ List (NK n)
instance yY (n:Nat):DecidableEq$ NK n:=λa a=>Classical.propDecidable _
abbrev TK:=List$ NK 4
theorem wN{c a:Type}{R:c->a->Prop}:∀ {xs:List c} {b:List a},Paired R xs b->∀ {j:Nat} {y:a},b[j]?=BD y->∃ x,xs[j]?=BD x/\R x y:=by
 intro _ _ h;induction h with
 |nil=>intro _ _ e;simp at e
 |cons r _ i=>
  intro j y e;cases j with
  |zero=>simp at e;subst e;exact⟨_,rfl,r⟩
  |succ j=>obtain⟨x,h⟩:=i (j:=j) (by simpa using e);exact⟨x,by simpa using h⟩
theorem JQ{c d:Type}{F G:c->d->Prop}(f:∀ a b,F a b->G a b):∀ {l:List c} {m:List d},Paired F l m->Paired G l m:=by
 intro _ _ h;induction h with
 |nil=>exact .nil
 |cons r _ i=>exact .cons (f _ _ r) i
section
variable(P:xa)(w:Ma)
def Qr(h:Heap):(n:Nat)->NK n->Value->Prop
 |0,k,v=>(ek P w).is k v=A3
 |_+1,.inl k,v=>(ek P w).is k v=A3
 |n+1,.inr ks,v=>∃ a b,v=.ref a/\IsTup h a b/\Paired (Qr h n) ks b.toList
def qJ:(n:Nat)->NK n->Int
 |0,k=>(ek P w).hash k
 |_+1,.inl k=>(ek P w).hash k
 |n+1,.inr ks=>PB (dg$ ks.map$ qJ n)
noncomputable def OE:(n:Nat)->NK n->Nat
 |0,_=>1
 |_+1,.inl _=>1
 |n+1,.inr ks=>(ks.map$ OE n).sum+1
variable{P w}
theorem aX:∀ (n:Nat) {A:Ia} {E:Value->Shared->Prop} {s:Shared} {k:NK n} {v:Value} {Q:Int->Shared->Prop},Qr P w s.heap n k v->A.units+n<cLine->Q (qJ P w n k) { s with toks:=s.toks+OE n k }->wpAny (model P w) A (pyHash v) Q E s
 |0,_,_,_,_,_,_,e,_,h=>(ek P w).pyHash e h
 |_+1,_,_,_,.inl _,_,_,e,_,h=>(ek P w).pyHash e h
 |n+1,A,E,s,.inr ks,v,Q,e,D,h=>by
  obtain⟨a,C,rfl,⟨o,r,u,m,y⟩,B⟩:=e;have f:s.TypeIs (.ref a) "tuple":=⟨o,r,u⟩
  refine aa$ wpAny_cRoomFor_or (.inr$ by lia)$ aa$ eh f ai.lookup$ aa$ eh f ai.lookup$ aa$ wpAny_callSpecialIfBoundUnlessNone?_slot f ai$ Dc ai f F.entry_tuple_hash ?_$ F.args_tuple_hash_1 _;show wpAny _ _ (Sf _ >>= _) _ _ s;refine aa$ wpAny_tupleItemsOf r y$ aa ?_;rw[<-xt];refine GG _
   (λrest (b:Array Int) q=>∃ c left,ks=c++left/\Paired _ left rest/\b.toList=c.map (qJ P w n)/\q={ s with toks:=s.toks+(c.map$ OE n).sum })
   _ ?_ ?_ _ _ ⟨[],ks,rfl,B,rfl,rfl⟩
  ·rintro x rest b q ⟨c,left,rfl,j,i,rfl⟩;cases j with
   |@cons p _ d _ t l=>
    refine aa$ aX n t (show A.units+1+n<cLine by lia) ?_;first
     |exact ga ⟨c++[p],d,by simp,l,by simp[i],by simp[cq]⟩
     |exact aa _
  ·rintro b q ⟨c,left,rfl,j,i,rfl⟩;cases j;rw[kf]at h;show wpAny _ _ (retInt$ dg b.toList) _ _ _;rw[i];refine wpAny_ret_mkInt ?_;have h:Q (PB _) { s with toks:=s.toks+((c.map$ OE n).sum+1) }:=h;generalize dg (c.map _)=z at *;show wpAny _ _ (if (decide _ && decide (z<2 ^ 63))=A3 then _ else _) Q E _;unfold PB at h;by_cases g:(decide (-(2:Int) ^ 63<=z) && decide (z<2 ^ 63))=A3
   ·rw[ia g];rw[ia g]at h;exact ga (by simpa [cq]using h)
   ·rw[qa g];rw[qa g]at h;exact aa$ vm$ ga (by simpa [cq]using h)
theorem GX:∀ (n m:Nat) {A:Ia} {E:Value->Shared->Prop} {s:Shared} {k:NK n} {v:Value} {Q:Bool->Shared->Prop},n<=m->Qr P w s.heap n k v->Q A3 s->wpAny (model P w) A (eqIsQuiet m v) Q E s
 |0,_,_,_,_,_,_,_,_,b,h=>by rw[LD _$ (ek P w).byValue _ _ b];exact ga h
 |_+1,_,_,_,_,.inl _,_,_,_,b,h=>by rw[LD _$ (ek P w).byValue _ _ b];exact ga h
 |n+1,0,_,_,_,.inr _,_,_,hm,_,_=>by lia
 |n+1,m+1,A,E,s,.inr ks,v,Q,hm,b,h=>by
  obtain⟨a,t,rfl,⟨o,f,i,q,j⟩,p⟩:=b;have e:s.TypeIs (.ref a) "tuple":=⟨o,f,i⟩
  unfold eqIsQuiet;refine aa$ eh e F.slot_tuple_eq.lookup$ aa$ Io e isSubtype_tuple_tuple$ aa$ Zf f j$ aa ?_;show wpAny _ _ _ _ _ s;rw[<-xt];refine GG _ (λrest r d=>r.1=L6/\d=s/\∃ ks,Paired _ ks rest) _ ?_ ?_ _ _ ⟨rfl,rfl,ks,p⟩
  ·rintro v rest r d ⟨u,rfl,x,l⟩;cases l with
   |cons g c=>
    refine aa$ GX n _ ⋯ g ?_;exact ga ⟨rfl,rfl,_,c⟩
  ·rintro ⟨y,z⟩ d ⟨rfl,rfl,_⟩;exact ga h
def GR(h:(ek P w).is k (.ref a)=A3):False:=by
 have:=(ek P w).byValue _ _ h;trivial
def IsTup.uniq(p:IsTup h a x)(q:IsTup h a y):x=y:=by
 obtain⟨o,b,_,n,c⟩:=p;obtain⟨g,d,_,f,e⟩:=q
 simp_all
theorem uL{h:Heap}:∀ (n:Nat) {x y:NK n} {v:Value},Qr P w h n x v->Qr P w h n y v->x=y
 |0,_,_,_,c,d=>(ek P w).inj _ _ _ c d
 |_+1,.inl _,.inl _,_,c,d=>Ab Sum.inl ((ek P w).inj _ _ _ c d)
 |_+1,.inl _,.inr _,_,c,d=>by obtain⟨a,_,rfl,_⟩:=d;exact(GR c).elim
 |_+1,.inr _,.inl _,_,c,d=>by obtain⟨a,_,rfl,_⟩:=c;exact(GR d).elim
 |n+1,.inr xs,.inr f,_,c,d=>by
  obtain⟨a,u,rfl,s,k⟩:=c;obtain⟨b,z,e,t,l⟩:=d;cases e;obtain rfl:=IsTup.uniq s t;have i:∀ {xs f:List _} {g:b'},Paired (Qr P w h n) xs g->Paired (Qr P w h n) f g->xs=f:=by
   intro xs f g p;induction p generalizing f with
   |nil=>intro q;cases q;rfl
   |cons r _ j=>intro q;cases q with|cons m o=>rw[uL n r m,j o]
  exact Ab Sum.inr$ i k l
theorem YX{h f:Heap}(g:∀ b o c m,h.get? b=BD o->o.data=.seq c m->f.get? b=BD o):∀ (n:Nat) {k:NK n} {v:Value},Qr P w h n k v->Qr P w f n k v
 |0,_,_,d=>d
 |_+1,.inl _,_,d=>d
 |n+1,.inr _,_,d=>by
  obtain⟨a,c,rfl,⟨o,i,j,m,e⟩,p⟩:=d;exact⟨a,c,rfl,⟨o,g _ _ _ _ i e,j,m,e⟩,JQ (λl l r=>YX g n r) p⟩
def yxj:∀ n {A} {s} {x y} {u v} b,(b=A3 ↔ x=y)->Qr P w s.heap n x u->Qr P w s.heap n y v->A.units+n<cLine->Hc A s u v b:=by
 have k:∀ {A:Ia} {s:Shared} {x y:Nc} {u v:Value} (b:Bool),(b=A3 ↔ x=y)->(ek P w).is x u=A3->(ek P w).is y v=A3->Hc A s u v b:=fun {A s x y u v} b d f g=>by
  rcases Lq f with⟨i,t,rfl,rfl⟩|⟨i,t,rfl,rfl⟩<;>rcases Lq g with⟨j,r,rfl,rfl⟩|⟨j,r,rfl,rfl⟩
  ·rw[show b=(i == j) by rw[Xd,d];simp];exact .int_int _ _ _ _
  ·rw[show b=Ŷ by rw[<-bi,d];simp];exact .int_str _ _ _ _
  ·rw[show b=Ŷ by rw[<-bi,d];simp];exact .str_int _ _ _ _
  ·rw[show b=(i == j) by rw[Xd,d];simp];exact .str_str _ _ _ _
 intro n;induction n with
 |zero=>intro A s x y u v b d f g _;exact k b d f g
 |succ n T=>
  intro A s x y u v b d f g ϊ
  match x,y,d,f,g with
  | .inl x,.inl y,d,f,g=>exact k b (d.trans ⟨Ki,Ab _⟩) f g
  | .inl x,.inr F,d,f,g=>
   obtain⟨a,H,rfl,⟨o,l,B,m,C⟩,p⟩:=g;rw[show b=Ŷ by rw[<-bi,d];exact λz=>nomatch z];rcases Lq f with⟨i,t,rfl,rfl⟩|⟨i,t,rfl,rfl⟩
   ·exact .int_tuple _ _ ⟨o,l,B,m,C⟩ ⋯
   ·exact .str_tuple _ _ ⟨o,l,B,m,C⟩ ⋯
  | .inr xs,.inl y,d,f,g=>
   obtain⟨a,H,rfl,⟨o,l,B,m,C⟩,p⟩:=f;rw[show b=Ŷ by rw[<-bi,d];exact λz=>nomatch z];rcases Lq g with⟨i,t,rfl,rfl⟩|⟨i,t,rfl,rfl⟩
   ·exact .tuple_int _ _ ⟨o,l,B,m,C⟩ ⋯
   ·exact .tuple_str _ _ ⟨o,l,B,m,C⟩ ⋯
  | .inr xs,.inr F,d,f,g=>
   apply b_;intro z_;have q:=f;obtain⟨a,D,rfl,ύ,O⟩:=f;obtain⟨c,E,rfl,Q,I⟩:=g;apply z_;by_cases e:a=c
   ·subst e;obtain rfl:=IsTup.uniq ύ Q;rw[d.mpr$ uL _ q ⟨a,D,rfl,ύ,I⟩];exact .same _
   ·have ϋ:xs.length=D.size:=by rw[Paired.length O,Db]
    have V:F.length=E.size:=by rw[Paired.length I,Db]
    have r:=q0 (A:=A) (e:=λj=>decide$ xs[j]?=F[j]?) (let ⟨o,K,L,m,M⟩:=ύ;⟨o,K,L,m,M⟩) (let ⟨o,K,L,m,M⟩:=Q;⟨o,K,L,m,M⟩) ⋯ λj G N=>by
     obtain⟨x,ex,W⟩:=wN O (j:=j) (y:=D[j]) (by simp[G]);obtain⟨y,S,X⟩:=wN I (j:=j) (y:=E[j]) (by simp[N]);exact T _ (by rw[Jc,ex,S];exact⟨Sb,Ab _⟩) W X (show A.units+1+n<cLine by lia)
    have R:((List.range$ min D.size E.size).all (λj=>decide$ xs[j]?=F[j]?) && D.size == E.size)=b:=by
     rw[Xd,d,Da,qb,Zg,<-ϋ,<-V];constructor
     ·rintro ⟨G,N⟩;refine Ab Sum.inr (Cf λj=>?_);by_cases ό:j<xs.length
      ·exact of_decide_eq_true$ G j$ ke.mpr ⋯
      ·rw[Xi ⋯,Xi ⋯]
     ·intro h;cases (dq h);exact⟨λj J=>by simp,rfl⟩
    rw[R]at r;exact .of_refs e r
def yG(P:xa)(w:Ma):HeapKind P w TK where
 is:=λh ks a=>Qr P w h 5 (.inr ks)$ .ref a
 hash:=λks=>qJ P w 5$ .inr ks
 draws:=λks=>OE 5$ .inr ks
 room:=λA=>A.units+5<cLine
 inj:=λf g=>dq$ uL 5 f g
 keeps:=λx j hd k=>YX (λb n l m e i=>(k.2 b$ λz=>by subst z;rw[j]at e;cases e;rw[hd]at i;exact nomatch i).trans e) 5 x
 pyHash:=λd c h=>aX 5 c d h
 eqBool:=λd f g h=>yxj 5 _ (by rw[Jc];exact⟨Ab _,dq⟩) f g d _ _ _ _ h
 quiet:=λc h=>GX 5 8 ⋯ c h
end
inductive HO where
 |na (xs:gV)
 |Ha (xs:gV)
 |dK (kvs:List (Nc × V))|dT (kvs:List (TK × V))
 |set (S:Int->Bool) (n:Nat)
 |jb (C dx:Addr) (fs:List (Str × V))
 |own (x:Addr)
 |xd (fs:List (Str × V))
 |met (f x:Addr)
 |XG (lo hi:Int)
 |Oc (o:Obj) (u:HO)
 |El (ps:Array Value)
 |ext (φ:Heap->Prop)
abbrev Hp:=Addr->Option HO
def NR(H:Hp):(n:Nat)->NK n->V->Prop
 |0,k,v=>v=kV k
 |_+1,.inl k,v=>v=kV k
 |n+1,.inr ks,v=>∃ a b,v=.ref a/\H a=BD (.Ha b)/\Paired (NR H n) ks b
theorem NR.keeps(d:∀ b xs,H b=BD (.Ha xs)->c b=BD (.Ha xs)):∀ (n:Nat) {k:NK n} {v:V},NR H n k v->NR c n k v
 |0,_,_,h=>h
 |_+1,.inl _,_,h=>h
 |n+1,.inr _,_,h=>by obtain⟨a,f,rfl,e,p⟩:=h;exact⟨a,f,rfl,d _ _ e,JQ (λg g r=>NR.keeps d n r) p⟩
noncomputable def Nb(H:Hp)(a:Addr)(o:HO):Hp:=λb=>if b=a then BD o else H b
def qf:Nb H a o a=BD o:=by unfold Nb;rw[ia rfl]
def Vd(h:b≠a):Nb H a o b=H b:=by unfold Nb;rw[qa h]
def aO{H:Hp}(h:H a=BD o)(c:H b=BD u)(d:o≠u):a≠b:=by
 intro e;subst e;rw[h]at c;exact d$ Sb c
def Cm{H:Hp}(h:H a=BD o)(c:H b=L6):a≠b:=by
 intro e;subst e;rw[h]at c;cases c
section
variable(P:xa)(w:Ma)
inductive Gz(h:Heap)(a:Addr)(xs:gV):Prop
 |mk (f1:xs.length<=sizeLine) (its:b') (n:Nat) (f2:de xs its) (f3:h.get? a=BD { cls:=.type "list",data:=.seq its.toArray n }):Gz h a xs
inductive Bz(h:Heap)(a:Addr)(xs:gV):Prop
 |mk (f1:xs.length<=sizeLine) (its:b') (f2:de xs its) (f3:IsTup h a its.toArray):Bz h a xs
inductive xz(H:Hp)(h:Heap)(a C dx:Addr)(fs:List (Str × V)):Prop
 |mk (f1:H dx=BD (.own a)) (f2:fs.length<=1000) (f3:dx≠a) (f4:h.get? a=BD (W.instObj C dx)) (mA:Str->Option Value) (f5:h.Ns1 dx mA) (f6:(∀ f,xo (fs.lookup f) (mA f))) (f7:PySem.Within mA (fs.map (·.1))):xz H h a C dx fs
def Zj(H:Hp)(h:Heap)(a:Addr):HO->Prop
 | .na xs=>Gz h a xs
 | .Ha xs=>Bz h a xs
 | .dK b=>b.length<=sizeLine/\(a == bf)=Ŷ/\∃ j,KV b j/\h.DictOf (ek P w) a j
 | .dT b=>b.length<=sizeLine/\(a == bf)=Ŷ/\∃ xs:List (TK × Addr × Value),
   Paired (λ(p:TK × V) (q:TK × Addr × Value)=>p.1=q.1/\NR H 5 (.inr p.1) (.ref q.2.1)/\gd p.2 q.2.2) b xs/\
   ∃ o d l,h.get? a=BD o/\o.ExactDict/\o.data=.dict d l/\d.toList=xs.map (entryOfKey$ yG P w)/\(xs.map (·.1)).Nodup
 | .set S n=>h.SetOf (Hf P w) a S n
 | .jb C k c=>xz H h a C k c
 | .own _=>∃ o,h.get? a=BD o
 | .xd c=>∃ i,h.Ns1 a i/\∀ f,xo (c.lookup f) (i f)
 | .XG lo m=>∃ t u v,h.get? a=BD { cls:=.type "range",data:=.fields #[.int lo t,.int m u,.int 1 v] }
 | .Oc o u=>h.get? a=BD o/\Zj H h a u
 | .El ps=>h.get? a=BD { cls:=.none,data:=.fields ps }
 | .met f x=>h.get? a=BD (W.methodObj (.ref f)$ .ref x)
 | .ext φ=>φ h/\(∃ o,h.get? a=BD o)/\∀ e g:Heap,φ e->(∀ o,e.get? a=BD o->g.get? a=BD o)->φ g
def Xh(H:Hp)(h:Heap):Prop:=∀ a o,H a=BD o->Zj P w H h a o
end
section
variable{P:xa}{w:Ma}{H H':Hp}{h h':Heap}{a:Addr}{o:HO}
def Zj.lt(x:Zj P w H h a o):a<h.objs.size:=by
 cases o with
 |na xs=>obtain⟨_,_,_,_,e⟩:=x;exact ua e
 |Ha xs=>obtain⟨_,_,_,p⟩:=x;exact p.lt
 |dK b=>obtain⟨_,_,_,_,o,_,_,e,_⟩:=x;exact ua e
 |dT b=>obtain⟨_,_,_,_,o,_,_,e,_⟩:=x;exact ua e
 |set S n=>obtain⟨o,_,_,_,e,_⟩:=x;exact ua e
 |jb C d c=>obtain⟨_,_,_,e,_⟩:=x;exact ua e
 |own y=>obtain⟨_,e⟩:=x;exact ua e
 |xd c=>obtain⟨_,⟨_,_,_,e,_⟩,_⟩:=x;exact ua e
 |XG lo g=>obtain⟨_,_,_,e⟩:=x;exact ua e
 |Oc i u=>obtain⟨e,_⟩:=x;exact ua e
 |El j=>exact ua$ x
 |met f y=>exact ua$ x
 |ext k=>obtain⟨_,⟨_,e⟩,_⟩:=x;exact ua e
theorem Paired.bq:∀ {c:List e} {d:List g},Paired F c d->(∀ a b,F a b->G a b)->Paired G c d:=by
 intro _ _ h f;induction h with
 |nil=>exact .nil
 |cons r _ i=>exact .cons (f _ _ r) i
def Zj.Dk(x:Zj P w H h a o)(k:∀ b u,(b=a\/H b=BD (.own a))->h.get? b=BD u->h'.get? b=BD u)
  (D:∀ b,H b=BD (.own a)->H' b=BD (.own a)) (E:∀ b xs,H b=BD (.Ha xs)->H' b=BD (.Ha xs)):Zj P w H' h' a o:=by
 induction o with
 |na xs=>obtain⟨z,j,n,r,e⟩:=x;exact⟨z,j,n,r,k _ _ (.inl rfl) e⟩
 |Ha xs=>obtain⟨z,j,r,ob,e,c⟩:=x;exact⟨z,j,r,ob,k _ _ (.inl rfl) e,c⟩
 |dK l=>obtain⟨z,y,I,r,ob,i,g,e,c⟩:=x;exact⟨z,y,I,r,ob,i,g,k _ _ (.inl rfl) e,c⟩
 |dT l=>
  obtain⟨z,y,xs,r,ob,i,g,e,c⟩:=x;exact⟨z,y,xs,Paired.bq r λp q z=>⟨z.1,NR.keeps E 5 z.2.1,z.2.2⟩,ob,i,g,k _ _ (.inl rfl) e,c⟩
 |set S n=>obtain⟨ob,i,g,t,e,c⟩:=x;exact⟨ob,i,g,t,k _ _ (.inl rfl) e,c⟩
 |jb C ύ B=>
  obtain⟨d,z,G,e,m,⟨s,i,g,A,c⟩,r,w⟩:=x;exact⟨D _ d,z,G,k _ _ (.inl rfl) e,m,⟨s,i,g,k _ _ (.inr d) A,c⟩,r,w⟩
 |own y=>obtain⟨ob,e⟩:=x;exact⟨ob,k _ _ (.inl rfl) e⟩
 |xd B=>obtain⟨m,⟨s,i,g,e,c⟩,r⟩:=x;exact⟨m,⟨s,i,g,k _ _ (.inl rfl) e,c⟩,r⟩
 |XG lo K=>obtain⟨t,u,v,e⟩:=x;exact⟨t,u,v,k _ _ (.inl rfl) e⟩
 |Oc ob u F=>obtain⟨e,q⟩:=x;exact⟨k _ _ (.inl rfl) e,F q⟩
 |El ps=>
  have e:=x;exact k a _ (.inl rfl) e
 |met f y=>
  have e:=x;exact k a _ (.inl rfl) e
 |ext L=>obtain⟨p,⟨o,e⟩,st⟩:=x;exact⟨st _ _ p λo q=>k _ _ (.inl rfl) q,⟨o,k _ _ (.inl rfl) e⟩,st⟩
def Xh.lt(x:Xh P w H h)(e:H a=BD o):a<h.objs.size:=(x a o e).lt
def Xh.fresh(x:Xh P w H h)(e:h.objs.size<=a):H a=L6:=by
 cases q:H a with
 |none=>rfl
 |some u=>exact absurd (Ga (x.lt q) e)$ qd _
def Xh.kept(x:Xh P w H h)(k:∀ b u,h.get? b=BD u->h'.get? b=BD u):Xh P w H h':=λa o e=>
 (x a o e).Dk (λb u c q=>k b u q) (λc q=>q) λc c q=>q
def Xh.laid(x:Xh P w H h)(k:∀ b u,h.get? b=BD u->h'.get? b=BD u)(i:h.objs.size<=a)(d:Zj P w (Nb H a o) h' a o):Xh P w (Nb H a o) h':=λb u e=>by
 have g:=x.fresh i;by_cases f:b=a
 ·subst f;rw[qf]at e;cases e;exact d
 ·rw[Vd f]at e;exact(x b u e).Dk (λc v j q=>k c v q) (λc q=>by rw[Vd$ Cm q g];exact q) λc xs q=>by rw[Vd$ Cm q g];exact q
end
def Rd(H:Hp)(a:Addr)(u:HO):Prop:=H a=BD u\/∃ o,H a=BD (.Oc o u)
def Rd.ok(r:Rd H a u)(x:Xh P w H h):Zj P w H h a u:=by
 rcases r with r|⟨o,r⟩
 ·exact x a u r
 ·obtain⟨_,q⟩:=x a _ r;exact q
def sG:Option HO->Prop
 |some (.na _)=>True
 |some (.dK _)=>True
 |some (.dT _)=>True
 |some (.set _ _)=>True
 |some (.jb _ _ _)=>True
 |some (.ext _)=>True
 |_=>False
section
variable{P:xa}{w:Ma}{H:Hp}{h h':Heap}{x e:Addr}{o':HO}
def Xh.write(ok:Xh P w H h)(g:sG$ H x)(p:e=x\/H e=BD (.own x))(k:∀ b u,b≠e->h.get? b=BD u->h'.get? b=BD u)(i:∃ u,h'.get? e=BD u)
  (j:Zj P w (Nb H x o') h' x o'):Xh P w (Nb H x o') h':=λb u q=>by
 have d:∀ c y,H c=BD (.own y)->c≠x:=λc y r z=>by subst z;rw[r]at g;exact g
 have f:∀ c xs,H c=BD (.Ha xs)->c≠x:=λc xs r z=>by subst z;rw[r]at g;exact g
 by_cases l:b=x
 ·subst l;rw[qf]at q;cases q;exact j
 ·rw[Vd l]at q;by_cases a:b=e
  ·have n:H b=BD (.own x):=by
    simp_all
   rw[q]at n;cases n;obtain⟨v,o⟩:=i;exact⟨v,by rw[a];exact o⟩
  ·refine(ok b u q).Dk (λc v m r=>k c v ?_ r) (λc r=>by rw[Vd$ d c b r];exact r) λc xs r=>by rw[Vd$ f c xs r];exact r
   rcases m with rfl|m
   ·exact a
   ·rintro rfl
    simp_all
end
structure Un(fs ex:ad)(H H':Hp)(h h':Heap):Prop where
 keep:∀ b o,h.get? b=BD o->H b=L6->b ∉ fs->b ∉ ex->h'.get? b=BD o
 slot:∀ b o,h.get? b=BD o->H b=L6->b∈fs->b ∉ ex->∃ sl,h'.get? b=BD { o with slots:=sl }
 free:∀ b o,h.get? b=BD o->H b=L6->b ∉ ex->H' b=L6
 there:∀ b o,h.get? b=BD o->b ∉ ex->∃ o',h'.get? b=BD o'
 cm:∀ b xs,H b=BD (.Ha xs)->H' b=BD (.Ha xs)
 uj:∀ b o u,H b=BD (.Oc o u)->H' b=BD (.Oc o u)
 vl:∀ b ps,H b=BD (.El ps)->∃ more,H' b=BD (.El (ps++more))
section
variable{fs fs' ex ex':ad}{H H1 H2:Hp}{h h1 h2 h':Heap}{a x e:Addr}{o:HO}
def Un.any(u:Un fs ex H H1 h h1){a}(q:h.get? b=BD a)(n:H b=L6)(d:b ∉ ex):∃ e,h1.get? b=BD { a with slots:=e }:=by
 by_cases c:b∈fs
 ·exact u.slot b a q n c d
 ·exact⟨a.slots,u.keep b a q n c d⟩
def Un.kept(k:∀ b u,h.get? b=BD u->h'.get? b=BD u):Un fs ex H H h h':=
 ⟨λb a q c c c=>k b a q,λb a q c c c=>⟨a.slots,k b a q⟩,λc c c n c=>n,λb a q c=>⟨a,k b a q⟩,λc c q=>q,λc c c q=>q,λc ps q=>⟨#[],by rw[q];simp⟩⟩
def Un.refl:Un fs ex H H h h:=Un.kept λa a q=>q
def Un.laid(k:∀ b u,h.get? b=BD u->h'.get? b=BD u)(d:h.objs.size<=a)(c:H a=L6):Un fs ex H (Nb H a o) h h' where
 keep:=λb u q e e e=>k b u q
 slot:=λb u q e e e=>⟨u.slots,k b u q⟩
 free:=λb u q n e=>by rw[Vd$ va$ Ga (ua q) d];exact n
 there:=λb u q e=>⟨u,k b u q⟩
 cm:=λb xs q=>by rw[Vd$ Cm q c];exact q
 uj:=λb u xs q=>by rw[Vd$ Cm q c];exact q
 vl:=λb ps q=>⟨#[],by rw[Vd$ Cm q c,q];simp⟩
def Un.write(a:sG$ H x)(l:e=x\/H e=BD (.own x))(k:∀ b u,b≠e->h.get? b=BD u->h'.get? b=BD u)(g:∃ u,h'.get? e=BD u):Un fs ex H (Nb H x o) h h':=by
 have i:∀ b,H b=L6->b≠x:=λb n z=>by subst z;rw[n]at a;exact a
 have d:∀ b,H b=L6->b≠e:=λb n z=>by
  simp_all
 have c:∀ b u,H b=BD u->¬ sG (BD u)->b≠x:=λb u q j z=>by subst z;rw[q]at a;exact j a
 refine⟨λb u q n m m=>k b u (d b n) q,λb u q n m m=>⟨u.slots,k b u (d b n) q⟩,λb u q n m=>by rw[Vd$ i b n];exact n,λb u q m=>?_,
  λb xs q=>by rw[Vd (c b _ q λz=>z)];exact q,λb u xs q=>by rw[Vd (c b _ q λz=>z)];exact q,λb ps q=>⟨#[],by rw[Vd (c b _ q λz=>z),q];simp⟩⟩
 by_cases f:b=e;all_goals simp_all
end
noncomputable def AR(h:Heap)(H:Hp):ad:=(List.range h.objs.size).filter λa=>(H a).isSome
def Hz(h:Heap)(H:Hp):Heap:=W.hideAll h$ AR h H
def N9 h H:(Hz h H).objs.size=h.objs.size:=W.hideAll_size _ _
def zm8(e:h.get? b=BD o)(n:H b=L6):(Hz h H).get? b=BD o:=
 W.hideAll_get _ e λa=>by
  have q:=(Li.mp a).2
  simp_all
def zA3(e:(Hz h H).get? b=BD o):h.get? b=BD o/\H b=L6:=by
 have a:=W.of_hideAll _ e;refine⟨a,?_⟩;cases q:H b with
 |none=>rfl
 |some x=>
  have c:b∈AR h H:=Li.mpr ⟨ke.mpr$ ua a,by simp[q]⟩;have z:(Hz h H).get? b=L6:=W.hideAll_none _ c
  simp_all
noncomputable def Ŷz(g h:Heap)(L:Addr):List$ Addr × Obj:=(List.range h.objs.size).filterMap λa=>if a=L\/(g.get? a).isSome=A3 then L6 else (h.get? a).map λo=>(a,o)
def rest(g h:Heap)(L d:Addr):List$ Addr × Obj:=(Ŷz g h L).filter λp=>decide$ p.1≠d
structure Mod(K:W.Frag)(mg:Str->Option Value)(base:Heap):Prop where
 Cw:K.In base
 glob:base.Ns mainGlobals mg
 blt:∃ mb,base.Ns builtinsNs mb/\∀ x:Str,x ≠ "__name__"->mb x=bootBuiltins x
 nolimit:base.NoLimit
structure Cx where
 prog:xa
 w:Ma
 K:W.Frag
 mg:Str->Option Value
 base:Heap
 A:Ia
 N:ac
 s₀:Shared
 H₀:Hp
 env:qg
 outer:List qg
 stack:List qg
 ex:ad
 fn:Str->Bool
 gc:Bool
 pn:em
 xe:Value->Shared->Prop
noncomputable def dk(l:List qg):ad:=l.filterMap (·.frame)
abbrev Cx.fs(X:Cx):ad:=dk X.outer
def HJ(sc:Scope)(x:Str):Prop:=sc.names.lookup x=BD .local\/sc.names.lookup x=BD .cell\/sc.names.lookup x=BD .free
def Loc(sc:Scope)(x:Str):Prop:=sc.names.lookup x=BD .local\/sc.names.lookup x=BD .cell
def l9(a:qg)(h:Heap)(m:Str->Option Value)(x:Str)(u:Value):Prop:=
 (a.kindOf x=BD .local/\m x=BD u)\/((a.kindOf x=BD .cell\/a.kindOf x=BD .free)/\∃ c,a.cells.lookup x=BD c/\h.IsCell c (BD u))
structure Cx.Ok(X:Cx):Prop where
 mod:Mod X.K X.mg X.base
 kind:X.env.scope.kind=.function
 glob:X.env.globals=mainGlobals
 blt:X.env.builtins=builtinsNs
 above:X.s₀.heap.objs.size<=X.env.locals
 inj:∀ x y c,X.env.cells.lookup x=BD c->X.env.cells.lookup y=BD c->x=y
 has:∀ x,(X.env.kindOf x=BD .cell\/X.env.kindOf x=BD .free)->∃ c,X.env.cells.lookup x=BD c
 ZB:∀ x c,X.fn x=A3->X.env.cells.lookup x=BD c->X.s₀.heap.objs.size<=c
 hd:X.gc=A3->X.A.handled=L6
 frames:X.A.frames=BD X.stack
 Pp:X.stack=X.outer\/(X.stack=X.env::X.outer/\X.env.frame=BD X.env.locals)
 NF:∀ b∈X.ex,b≠X.env.locals/\∀ x c,X.env.cells.lookup x=BD c->c≠b
 bs:∀ b o,X.base.get? b=BD o->X.s₀.heap.get? b=BD o/\X.H₀ b=L6
 Wu:X.base.objs.size<=X.s₀.heap.objs.size
 Us:∀ b o,X.base.get? b=BD o->b ∉ X.ex
 Ss:∀ b∈X.ex,b ∉ X.fs
 Ak:X.s₀.heap.FunFrames X.base X.outer
 Ny:∀ b∈X.fs,X.H₀ b=L6
structure Ta(X:Cx)(pins:em)(σ:List (Option V))(H:Hp)(s:Shared):Prop where
 ok:X.Ok
 os:s.os=X.s₀.os
 bare:Ah s.gens
 base:Un X.fs X.ex X.H₀ H X.s₀.heap s.heap
 loc:∃ m,s.heap.Ns X.env.locals m/\∀ (i:Nat) (x:Str) (v:V),X.N[i]?=BD x->σ[i]?=BD (BD v)->HJ X.env.scope x->∃ u,gd v u/\l9 X.env s.heap m x u
 cell:∀ x c,X.env.cells.lookup x=BD c->∃ v,s.heap.IsCell c v
 free:H X.env.locals=L6
 Dg:∀ x c,X.env.cells.lookup x=BD c->H c=L6
 pin:∀ p∈X.pn++pins,s.heap.get? p.1=BD p.2/\H p.1=L6/\p.1≠X.env.locals/\p.1 ∉ X.fs/\∀ v,p.2.data≠.cell v
 lc:Xh X.prog X.w H s.heap
 len:σ.length=X.N.length
section
variable{X:Cx}{pins:List$ Addr × Obj}{σ:List$ Option V}{H H':Hp}{s:Shared}{h':Heap}
def Cx.Ok.bM(ok:X.Ok)(e:X.base.get? b=BD o):b ∉ X.fs:=λa=>by
 have:=(ok.Ak.mem a).1
 simp_all
def Ta.bs(I:Ta X pins σ H s):∀ b o,X.base.get? b=BD o->s.heap.get? b=BD o/\H b=L6:=λb o e=>
 ⟨I.base.keep b o (I.ok.bs b o e).1 (I.ok.bs b o e).2 (I.ok.bM e)$ I.ok.Us b o e,I.base.free b o (I.ok.bs b o e).1 (I.ok.bs b o e).2$ I.ok.Us b o e⟩
def Ta.bk(I:Ta X pins σ H s):∀ b o,X.base.get? b=BD o->s.heap.get? b=BD o:=λb o e=>(I.bs b o e).1
def Ta.mod(I:Ta X pins σ H s):Mod X.K X.mg X.base:=I.ok.mod
def Ta.Ri(I:Ta X pins σ H s):X.K.In s.heap:=I.ok.mod.Cw.keeps I.bk
def Ta.nolimit(I:Ta X pins σ H s):s.heap.NoLimit:=I.ok.mod.nolimit.keeps I.bk
def Ta.lt(I:Ta X pins σ H s):X.env.locals<s.heap.objs.size:=let ⟨_,a,_⟩:=I.loc;a.lt
def Ta.sz(I:Ta X pins σ H s):X.s₀.heap.objs.size<=s.heap.objs.size:=ub I.ok.above$ Ed I.lt
def Ta.wE(I:Ta X pins σ H s)(h:s.heap.objs.size<=a):a ∉ X.fs:=λb=>by
 obtain⟨_,o,c,_⟩:=I.ok.Ak.mem b;exact absurd (Ga (ua c)$ ub I.sz h)$ qd _
def Ta.lM(I:Ta X pins σ H s):∀ x c,X.env.cells.lookup x=BD c->c≠X.env.locals:=λx c e z=>by
 obtain⟨v,o,g,hd⟩:=I.cell x c e;obtain⟨m,⟨h,f,d,b,a,_⟩,_⟩:=I.loc
 simp_all
def Ta.Ak(I:Ta X pins σ H s):s.heap.FunFrames X.base X.outer:=by
 have a:∀ l,(∀ b∈dk l,b∈X.fs)->X.s₀.heap.FunFrames X.base l->s.heap.FunFrames X.base l:=by
  intro l;induction l with
  |nil=>intro _ _;trivial
  |cons env r m=>
   rintro g ⟨h,⟨L,o,f,i,j,hd⟩,k⟩;have c:=g L (by unfold dk;rw[Ze,f];exact ya);obtain⟨n,e⟩:=I.base.slot L o j (I.ok.Ny L c) c λz=>I.ok.Ss L z c;exact⟨h,⟨L,_,f,i,e,hd⟩,m (λb d=>g b (by unfold dk;rw[Ze,f];exact ra _ d)) k⟩
 exact a X.outer (λp d=>d) I.ok.Ak
def Ta.stack(I:Ta X pins σ H s):s.heap.FunFrames X.base X.stack:=by
 rcases I.ok.Pp with e|⟨e,a⟩
 ·rw[e];exact I.Ak
 ·rw[e];obtain⟨m,b,_⟩:=I.loc;exact .cons (by rw[I.ok.kind];decide) a b (Heap.get?_none_of_le$ ub I.ok.Wu I.ok.above) I.Ak
def Ta.ar(I:Ta X pins σ H s):∀ b∈dk X.stack,b∈X.env.locals::X.fs:=λb a=>by
 rcases I.ok.Pp with e|⟨e,c⟩
 ·rw[e]at a;exact ra _ a
 ·rw[e]at a;unfold dk at a
  rwa [Ze,c]at a
def Ta.Ej(I:Ta X pins σ H s):∀ b∈dk X.stack,H b=L6:=λb a=>by
 rcases Fa.mp (I.ar b a)with e|a
 ·rw[e];exact I.free
 ·obtain⟨_,o,c,_⟩:=I.ok.Ak.mem a;exact I.base.free b o c (I.ok.Ny b a) λz=>I.ok.Ss b z a
def Ta.step{ch:ad}(I:Ta X pins σ H s)
  (h:∀ b∈ch,(b∈X.ex\/X.s₀.heap.objs.size<=b)/\b≠X.env.locals/\(∀ x c,X.env.cells.lookup x=BD c->c≠b)/\∀ p∈X.pn++pins,p.1≠b)
  (j:∀ b o,b≠X.env.locals->b ∉ X.fs->b ∉ ch->s.heap.get? b=BD o->H b=L6->h'.get? b=BD o)
  (B:∀ b o,b≠X.env.locals->b∈X.fs->b ∉ ch->s.heap.get? b=BD o->H b=L6->∃ P,h'.get? b=BD { o with slots:=P }) (f:∀ b o,b ∉ ch->s.heap.get? b=BD o->H b=L6->H' b=L6)
  (D:∀ b o,b ∉ ch->s.heap.get? b=BD o->∃ L,h'.get? b=BD L)
  (N:∀ b xs,H b=BD (.Ha xs)->H' b=BD (.Ha xs)) (G:∀ b o u,H b=BD (.Oc o u)->H' b=BD (.Oc o u)) (M:∀ b ps,H b=BD (.El ps)->∃ ύ,H' b=BD (.El$ ps++ύ))
  (ns:∀ m,s.heap.Ns X.env.locals m->h'.Ns X.env.locals m) (O:Xh X.prog X.w H' h') (ό:Ah R) :
  Ta X pins σ H' { s with heap:=h',gens:=R,drawn:=d',toks:=t' }:=by
 have K:∀ b o,X.s₀.heap.get? b=BD o->b≠X.env.locals:=λb o e=>va$ Ga (ua e) I.ok.above;have A:∀ b o,X.s₀.heap.get? b=BD o->b ∉ X.ex->b ∉ ch:=λb o e a C=>by
  rcases(h b C).1 with z|z
  ·exact a z
  ·exact absurd (Ga (ua e) z)$ qd _
 have g:∀ x c,X.env.cells.lookup x=BD c->∀ v,s.heap.IsCell c v->h'.IsCell c v:=λx c e v ⟨o,E,hd⟩=>by
  have t:c ∉ ch:=λz=>(h c z).2.2.1 x c e rfl;by_cases S:c∈X.fs
  ·obtain⟨P,q⟩:=B c o (I.lM x c e) S t E (I.Dg x c e);exact⟨_,q,hd⟩
  ·exact⟨o,j c o (I.lM x c e) S t E$ I.Dg x c e,hd⟩
 refine⟨I.ok,I.os,ό,⟨λb o e n C a=>?_,λb o e n C a=>?_,λb o e n a=>?_,λb o e a=>?_,λb xs e=>N b xs$ I.base.cm b xs e,λb o xs e=>G b o xs$ I.base.uj b o xs e,λb ps e=>?_⟩,?_,λx c e=>?_,?_,λx c e=>?_,λp T=>?_,O,I.len⟩
 ·exact j b o (K b o e) C (A b o e a) (I.base.keep b o e n C a)$ I.base.free b o e n a
 ·obtain⟨P,y⟩:=I.base.slot b o e n C a;obtain⟨Q,F⟩:=B b _ (K b o e) C (A b o e a) y (I.base.free b o e n a);exact⟨Q,F⟩
 ·obtain⟨L,y⟩:=I.base.there b o e a;exact f b L (A b o e a) y$ I.base.free b o e n a
 ·obtain⟨L,y⟩:=I.base.there b o e a;exact D b L (A b o e a) y
 ·obtain⟨m1,y⟩:=I.base.vl b ps e;obtain⟨m2,F⟩:=M b _ y;exact⟨m1++m2,by rw[F,yt]⟩
 ·obtain⟨m,hn,ϊ⟩:=I.loc;refine⟨m,ns m hn,λi x v y F W=>?_⟩;obtain⟨u,r,l⟩:=ϊ i x v y F W;refine⟨u,r,?_⟩;rcases l with l|⟨k,c,e,z⟩
  ·exact .inl l
  ·exact .inr ⟨k,c,e,g x c e _ z⟩
 ·obtain⟨v,z⟩:=I.cell x c e;exact⟨v,g x c e v z⟩
 ·obtain⟨m,⟨o,_,_,E,_⟩,_⟩:=I.loc;exact f _ o (λz=>(h _ z).2.1 rfl) E I.free
 ·obtain⟨v,o,E,hd⟩:=I.cell x c e;exact f c o (λz=>(h c z).2.2.1 x c e rfl) E$ I.Dg x c e
 ·obtain⟨e,n,ϋ,V,d⟩:=I.pin p T;have t:p.1 ∉ ch:=λz=>(h p.1 z).2.2.2 p T rfl;exact⟨j p.1 p.2 ϋ V t e n,f p.1 p.2 t e n,ϋ,V,d⟩
def Ta.un(I:Ta X pins σ H s)(u:Un X.fs [] H H' s.heap h')(g:Xh X.prog X.w H' h'):Ta X pins σ H' { s with heap:=h',toks:=t' }:=by
 obtain⟨m,⟨o,p,l,h,r⟩,_⟩:=id I.loc;obtain⟨v,i⟩:=u.any h I.free ⋯;exact I.step (d':=s.drawn) (ch:=[]) (λq z=>nomatch z) (λb o q f q e n=>u.keep b o e n f ⋯) (λb o q f q e n=>u.slot b o e n f ⋯) (λb o q e n=>u.free b o e n ⋯) (λb o q e=>u.there b o e ⋯) u.cm u.uj u.vl (λq j=>by
  obtain⟨t,d,c,a,k⟩:=j;rw[h]at a;cases a;exact⟨_,d,c,i,k⟩) g I.bare
def Ta.call(I:Ta X pins σ H s)(u:Un (dk X.stack) ch H H' s.heap h')(j:Xh X.prog X.w H' h')(t:Ah k)
  (d:∀ b∈ch,(b∈X.ex\/X.s₀.heap.objs.size<=b)/\b≠X.env.locals/\(∀ x c,X.env.cells.lookup x=BD c->c≠b)/\∀ p∈X.pn++pins,p.1≠b) :
  Ta X pins σ H' { s with heap:=h',gens:=k,drawn:=d',toks:=t' }:=by
 obtain⟨m,⟨o,B,A,l,r⟩,_⟩:=id I.loc;obtain⟨E,i⟩:=u.any l I.free λz=>(d _ z).2.1 rfl;exact I.step d (λb o i q a e n=>u.keep b o e n (λz=>(Fa.mp$ I.ar b z).elim i q) a) (λb o C C a e n=>u.any e n a) (λb o a e n=>u.free b o e n a) (λb o a e=>u.there b o e a) u.cm u.uj u.vl (λC v=>by
  obtain⟨D,h,g,f,y⟩:=v;rw[l]at f;cases f;exact⟨_,h,g,i,y⟩) j t
def Ta.turned(I:Ta X pins σ H s)(k:∀ b o,b≠it->s.heap.get? b=BD o->h'.get? b=BD o)(w:H it=L6)(d:it≠X.env.locals)
  (h:it∈X.ex\/X.s₀.heap.objs.size<=it) (i:∀ x c,X.env.cells.lookup x=BD c->c≠it) (j:∀ p∈X.pn++pins,p.1≠it):Ta X pins σ H { s with heap:=h',toks:=t' }:=by
 have A:∀ b u,H b=BD u->b≠it:=λb u e z=>by rw[z,w]at e;cases e
 refine I.step (ch:=[it]) (λb l=>?_) (λb o m m a e m=>k b o (λz=>a (by simp[z])) e) (λb o m m a e m=>⟨o.slots,k b o (λz=>a (by simp[z])) e⟩) (λm m m m n=>n)
  (λb o a e=>⟨o,k b o (λz=>a (by simp[z])) e⟩) (λm m e=>e) (λm m m e=>e) (λb ps e=>⟨#[],by rw[e];simp⟩) (λm t=>?_) (λb u e=>?_) I.bare
 ·have e:b=it:=by simpa using l
  subst e;exact⟨h,d,i,j⟩
 ·obtain⟨o,g,f,y,r⟩:=t;exact⟨o,g,f,k _ o (Jd d) y,r⟩
 ·refine(I.lc b u e).Dk (λc v a q=>k c v ?_ q) (λm q=>q) λm m q=>q;rcases a with z|z;all_goals simp_all
def Ta.tok(I:Ta X pins σ H s) t:Ta X pins σ H { s with toks:=t }:=I.un Un.refl I.lc
def Ta.kept(I:Ta X pins σ H s)(k:∀ b u,s.heap.get? b=BD u->h'.get? b=BD u):Ta X pins σ H { s with heap:=h',toks:=t' }:=I.un (Un.kept k)$ I.lc.kept k
def Ta.laid(I:Ta X pins σ H s)(k:∀ b u,s.heap.get? b=BD u->h'.get? b=BD u)(c:s.heap.objs.size<=a)(d:Zj X.prog X.w (Nb H a o) h' a o) :
  Ta X pins σ (Nb H a o) { s with heap:=h',toks:=t' }:=I.un (Un.laid k c$ I.lc.fresh c)$ I.lc.laid k c d
def Ta.write(I:Ta X pins σ H s)(f:sG$ H x)(d:e=x\/H e=BD (.own x))(k:∀ b u,b≠e->s.heap.get? b=BD u->h'.get? b=BD u)(a:∃ u,h'.get? e=BD u)
  (c:Zj X.prog X.w (Nb H x o) h' x o):Ta X pins σ (Nb H x o) { s with heap:=h',toks:=t' }:=I.un (Un.write f d k a)$ I.lc.write f d k a c
def Ta.Si(I:Ta X pins σ H s)(h:∀ p∈a,s.heap.get? p.1=BD p.2/\H p.1=L6/\p.1≠X.env.locals/\p.1 ∉ X.fs/\∀ v,p.2.data≠.cell v):Ta X a σ H s:=
 ⟨I.ok,I.os,I.bare,I.base,I.loc,I.cell,I.free,I.Dg,λp b=>(Yd.mp b).elim (λz=>I.pin p$ Pa _ z)$ h p,I.lc,I.len⟩
def UZ{N:ac}(e:N.Nodup){i j:Nat}(a:N[i]?=BD x)(b:N[j]?=BD x):i=j:=by
 obtain⟨f,c⟩:=ba.mp a;obtain⟨g,d⟩:=ba.mp b;exact(Nw e).mp$ c.trans d.symm
def vY(I:Ta X pins σ H s)(hN:X.N.Nodup)(T:X.N[i]?=BD x)(B:Loc X.env.scope x)(r:gd v u)
  (h:∀ s',Ta X pins (σ.set i$ BD v) H s'->(∃ a,md a s.heap s'.heap/\(a=X.env.locals\/X.env.cells.lookup x=BD a))->Q () s') (hf:X.fn x=A3\/X.env.scope.names.lookup x=BD .local:=by first|exact .inl rfl|exact .inr rfl|assumption):wpAny M A (NG X.env x u) Q E s:=by
 obtain⟨m,hn,hl⟩:=id I.loc;have S:(X.env.scope.kind == .class || (X.env.scope.kind == .module && X.env.locals != X.env.globals))=Ŷ:=by rw[I.ok.kind];rfl
 have F:i<σ.length:=by rw[I.len];exact(ba.mp T).1
 have ύ:=I.lM;have l:∀ {a:Addr} {h':Heap},(∃ o,s.heap.get? a=BD o/\H a=L6)->md a s.heap h'->Xh X.prog X.w H h':=fun {a h'} ha f b ob e=>by
  apply b_;intro z_;obtain⟨_,_,C⟩:=ha;apply z_;refine(I.lc b ob e).Dk (λc w' t q=>(f.2 c ?_).trans q) (λJ q=>q) λJ J q=>q;rintro rfl;rcases t with rfl|t
  ·rw[C]at e;cases e
  ·rw[C]at t;cases t
 rcases B with G|G
 ·refine wpAny_storeName_local G hn (λh' a0 f=>?_) S;obtain⟨oL,_,_,a1,_⟩:=id hn;refine h _ ⟨I.ok,I.os,I.bare,⟨λb o e n K B=>?_,λb o e n K B=>?_,I.base.free,λb o e B=>?_,I.base.cm,I.base.uj,I.base.vl⟩,⟨_,a0,λj y v' g D e3=>?_⟩,λy c e=>?_,I.free,I.Dg,λp hp=>?_,l ⟨oL,a1,I.free⟩ f,by simpa using I.len⟩ ⟨_,f,.inl rfl⟩
  ·exact(f.2 b$ va$ Ga (ua e) I.ok.above).trans$ I.base.keep b o e n K B
  ·obtain⟨sl,g⟩:=I.base.slot b o e n K B;exact⟨sl,(f.2 b$ va$ Ga (ua e) I.ok.above).trans g⟩
  ·obtain⟨o',g⟩:=I.base.there b o e B;exact⟨o',(f.2 b$ va$ Ga (ua e) I.ok.above).trans g⟩
  ·by_cases O:j=i
   ·subst O;rw[T]at g;cases g;rw[oi F]at D;cases D;exact⟨u,r,.inl ⟨G,by simp⟩⟩
   ·rw[mj$ Jd O]at D;obtain⟨u',r',q⟩:=hl j y v' g D e3;refine⟨u',r',?_⟩;rcases q with⟨k,e⟩|⟨k,c,e,z⟩
    ·refine .inl ⟨k,?_⟩;have:y≠x:=λe=>O$ UZ hN g$ e ▸ T;simp[this,e]
    ·exact .inr ⟨k,c,e,z.sameBut f$ ύ y c e⟩
  ·obtain⟨w',z⟩:=I.cell y c e;exact⟨w',z.sameBut f$ ύ y c e⟩
  ·obtain⟨e,n,ϊ,nf,d⟩:=I.pin p hp;exact⟨(f.2 p.1 ϊ).trans e,n,ϊ,nf,d⟩
 ·have L:X.fn x=A3:=by
   rcases hf with z|z
   ·exact z
   ·rw[z]at G;cases G
  obtain⟨c,t⟩:=I.ok.has x (.inl G);obtain⟨w',z⟩:=I.cell x c t;refine wpAny_storeName_cell I.ok.kind G t z (λh' P f=>?_);obtain⟨oc,ϋ,W⟩:=id z;refine h { s with heap:=h' } ⟨I.ok,I.os,I.bare,⟨λb o e n K B=>?_,λb o e n K B=>?_,I.base.free,λb o e B=>?_,I.base.cm,I.base.uj,I.base.vl⟩,⟨m,hn.sameBut f$ Jd$ ύ x c t,λj y v' g D e3=>?_⟩,λy ό e=>?_,I.free,I.Dg,λp hp=>?_,l ⟨oc,ϋ,I.Dg x c t⟩ f,by simpa using I.len⟩ ⟨c,f,.inr t⟩
  ·exact(f.2 b$ va$ Ga (ua e)$ I.ok.ZB x c L t).trans$ I.base.keep b o e n K B
  ·obtain⟨sl,g⟩:=I.base.slot b o e n K B;exact⟨sl,(f.2 b$ va$ Ga (ua e)$ I.ok.ZB x c L t).trans g⟩
  ·obtain⟨o',g⟩:=I.base.there b o e B;exact⟨o',(f.2 b$ va$ Ga (ua e)$ I.ok.ZB x c L t).trans g⟩
  ·by_cases O:j=i
   ·subst O;rw[T]at g;cases g;rw[oi F]at D;cases D;exact⟨u,r,.inr ⟨.inl G,c,t,P⟩⟩
   ·rw[mj$ Jd O]at D;obtain⟨u',r',q⟩:=hl j y v' g D e3;refine⟨u',r',?_⟩;rcases q with q|⟨k,ό,e,z'⟩
    ·exact .inl q
    ·refine .inr ⟨k,ό,e,z'.sameBut f ?_⟩;rintro rfl;exact O$ UZ hN g$ I.ok.inj _ _ _ e t ▸ T
  ·by_cases R:ό=c
   ·subst R;exact⟨_,P⟩
   ·obtain⟨w2,z2⟩:=I.cell y ό e;exact⟨w2,z2.sameBut f R⟩
  ·obtain⟨e,n,ϊ,nf,d⟩:=I.pin p hp;refine⟨(f.2 p.1 ?_).trans e,n,ϊ,nf,d⟩;intro q;rw[q,ϋ]at e;have q':oc=p.2:=Sb e;exact d w' (by rw[<-q'];exact W)
def eQ(I:Ta X pins σ H s)(c:X.N.Nodup)(e:X.N[i]?=BD x)(f:Loc X.env.scope x)(r:gd v u)
  (h:∀ a,Ta X pins (σ.set i$ BD v) H a->Q () a) (d:X.fn x=A3\/X.env.scope.names.lookup x=BD .local:=by first|exact .inl rfl|exact .inr rfl|assumption):wpAny M A (NG X.env x u) Q E s:=
 vY I c e f r (λa b g=>h a b) d
def Ta.mv(I:Ta X pins σ H s)(g:s'.os=s.os)(u:Un (dk X.stack) ch H H' s.heap s'.heap)(d:Xh X.prog X.w H' s'.heap)(f:Ah s'.gens)
  (a:∀ b∈ch,(b∈X.ex\/X.s₀.heap.objs.size<=b)/\b≠X.env.locals/\(∀ x c,X.env.cells.lookup x=BD c->c≠b)/\∀ p∈X.pn++pins,p.1≠b):Ta X pins σ H' s':=by
 obtain⟨h',h,d',t',i⟩:=s';have e:=g;subst e;exact I.call u d f a
end
abbrev XK:=Value->Option Addr->Hp->Prop
abbrev St:=List$ Option V
abbrev VK:=V->Hp->Prop
abbrev TE:=St->Hp->VK->Prop
abbrev TT:=St->Hp->(Bool->Hp->Prop)->Prop
abbrev TA:=St->Hp->(gV->Hp->Prop)->Prop
structure Nl where
 nx:St->Hp->Prop
 rt:VK
 bk:St->Hp->Prop:=λa a=>False
 ct:St->Hp->Prop:=λa a=>False
abbrev TS:=Nl->St->Hp->Prop
inductive EP(X:Cx)(pins:em)(σ:St)(Q:VK)(u:Value)(s':Shared):Prop
 |mk (v:V) (H':Hp) (f1:Ta X pins σ H' s') (f2:gd v u) (f3:Q v H'):EP X pins σ Q u s'
inductive TP(X:Cx)(pins:em)(σ:St)(Q:Bool->Hp->Prop)(b:Bool)(s':Shared):Prop
 |mk (H':Hp) (f1:Ta X pins σ H' s') (f2:Q b H'):TP X pins σ Q b s'
inductive AP(X:Cx)(pins:em)(σ:St)(Q:gV->Hp->Prop)(us:b')(s':Shared):Prop
 |mk (vs:gV) (H':Hp) (f1:Ta X pins σ H' s') (f2:de vs us) (f3:Q vs H'):AP X pins σ Q us s'
inductive NP(X:Cx)(pins:em)(Q:St->Hp->Prop)(s':Shared):Prop
 |mk (σ':St) (H':Hp) (f1:Ta X pins σ' H' s') (f2:Q σ' H'):NP X pins Q s'
inductive RP(X:Cx)(pins:em)(Q:VK)(u:Value)(s':Shared):Prop
 |mk (v:V) (σ':St) (H':Hp) (f1:Ta X pins σ' H' s') (f2:gd v u) (f3:Q v H'):RP X pins Q u s'
def SP(X:Cx)(a:List$ Addr × Obj)(D:Nl)(f:Flow)(b:Shared):Prop:=
 match f with
 | .next=>NP X a D.nx b
 | .brk=>NP X a D.bk b
 | .cont=>NP X a D.ct b
 | .ret u=>RP X a D.rt u b
def PE(X:Cx)(e:Ja)(t:TE):Prop:=
 ∀ a s σ H Q,Ta X a σ H s->t σ H Q->wpAny (model X.prog X.w) X.A (Cb e X.env) (EP X a σ Q) X.xe s
def PT(X:Cx)(e:Ja)(t:TT):Prop:=
 ∀ a s σ H Q,Ta X a σ H s->t σ H Q->wpAny (model X.prog X.w) X.A (QB e X.env$ Cb e X.env) (TP X a σ Q) X.xe s
def PW(X:Cx)(e:Ja)(t:TT):Prop:=
 ∀ a pins s σ H Q,Ta X pins σ H s->t σ H Q->wpAny (model X.prog X.w) X.A (QB e X.env a) (TP X pins σ Q) X.xe s
def PW.pt(h:PW X e t):PT X e t:=h _
def PA(X:Cx)(b:List Ja)(t:TA):Prop:=
 ∀ a pins s σ H Q,Ta X pins σ H s->t σ H Q->wpAny (model X.prog X.w) X.A (spliced$ Ub a$ ka b X.env) (AP X pins σ Q) X.xe s
def PS(X:Cx)(st:Stmt)(t:TS):Prop:=
 ∀ a s σ H D,Ta X a σ H s->t D σ H->wpAny (model X.prog X.w) X.A (exec st X.env) (SP X a D) X.xe s
def Bu(X:Cx)(st:List Stmt)(t:TS):Prop:=
 ∀ a s σ H D,Ta X a σ H s->t D σ H->wpAny (model X.prog X.w) X.A (execs st X.env) (SP X a D) X.xe s
def ud{t:Om c}{Q b}(h:wpAny M A t Q E s)(d:∀ a s,Q a s->b a s):wpAny M A t b E s:=dc h d λe e x=>x
section
variable{X:Cx}
def bin(p:PE X a k)(q:PE X b l){R:V->V->Hp->Prop}(I:Ta X c e H s)(h:k e H λx j=>l e j λy d=>R x y d) {Q} {f:Value->Value->Om m}
  (r:∀ v u s2 x y d,Ta X c e d s2->gd x v->gd y u->R x y d->wpAny (model X.prog X.w) X.A (f v u) Q X.xe s2) :
  wpAny (model X.prog X.w) X.A (Cb a X.env) (λv g=>wpAny (model X.prog X.w) X.A (Cb b X.env) (λu i=>wpAny (model X.prog X.w) X.A (f v u) Q X.xe i) X.xe g) X.xe s:=by
 exact ud (p c s e H _ I h) λv s1 ⟨x,j,n,B,t⟩=>(ud (q c s1 e j _ n t) λu s2 ⟨y,d,o,C,z⟩=>(r v u s2 x y d o B C z))
noncomputable def xap(i:Nat):TE:=λa H Q=>∃ v,a[i]?=BD (BD v)/\Q v H
noncomputable def tC(v:V):TE:=λa H Q=>Q v H
def V4(n:X.N[i]?=BD x)(t:HJ X.env.scope x)(hd:(x == ("__debug__" : Str))=Ŷ:=by decide)(g:(x == ("__classdict__" : Str))=Ŷ:=by decide):PE X (.Name x j)$ xap i:=by
 intro f s σ H Q I h;obtain⟨v,e,h⟩:=h;obtain⟨m,q,o⟩:=I.loc;obtain⟨u,r,l⟩:=o i x v n e t;have b:EP X f σ Q u s:=⟨v,H,I,r,h⟩
 rcases l with⟨d,p⟩|⟨d,c,k,a⟩
 ·exact FB (uy I.ok.kind d q p b) hd
 ·rcases d with d|d
  ·exact FB (Mz I.ok.kind d k a b) hd
  ·exact FB (wpAny_loadName_free I.ok.kind d k a b g) hd
def ā{i j pos}:PE X (.Constant (.int i) j pos)$ tC$ .int i:=λa a a H a I h=>wpAny_Constant_int ⟨.int i,H,I.tok _,⟨_,rfl⟩,h⟩
def Ε{b j pos}:PE X (.Constant (.bool b) j pos)$ tC$ .bl b:=λa a a H a I h=>Constant_bool ⟨.bl b,H,I,rfl,h⟩
def E8{j pos}:PE X (.Constant .none j pos)$ tC .Lb:=λa a a H a I h=>Constant_none ⟨.Lb,H,I,rfl,h⟩
def Y2{x j pos}:PE X (.Constant (.str x) j pos)$ tC$ .str x:=λa a a H a I h=>Calls.Constant_str ⟨.str x,H,I.tok _,⟨_,rfl⟩,h⟩
def Gl(X:Cx)(x:Str):Prop:=X.env.kindOf x=BD .globalImplicit
def pB(I:Ta X a e H s)(c:Gl X x)(d:X.mg x=BD u)(h:Q u s)
  (hd:(x == ("__debug__" : Str))=Ŷ:=by decide):wpAny (model X.prog X.w) X.A (Cb (.Name x b) X.env) Q E s:=
 on I.ok.kind c (Calls.loadGlobal_global (by rw[I.ok.glob];exact I.mod.glob.keeps I.bk) d h) hd
def Cy(I:Ta X a j H s)(e:Gl X x)(f:X.mg x=L6)(i:bootBuiltins x=BD u)(h:Q u s)
  (g:x ≠ "__name__":=by decide) (hd:(x == ("__debug__" : Str))=Ŷ:=by decide):wpAny (model X.prog X.w) X.A (Cb (.Name x b) X.env) Q E s:=by
 obtain⟨k,c,d⟩:=I.mod.blt;exact on I.ok.kind e (Calls.loadGlobal_builtin (by rw[I.ok.glob];exact I.mod.glob.keeps I.bk) f (by rw[I.ok.blt];exact c.keeps I.bk) ((d x g).trans i) h) hd
def qI(b:Gl X x)(c:X.mg x=BD u)(r:gd v u)(hd:(x == ("__debug__" : Str))=Ŷ:=by decide):PE X (.Name x a)$ tC v:=
 λd d d H d I h=>pB I b c ⟨v,H,I,r,h⟩ hd
def Â(b:Gl X x)(c:X.mg x=L6)(e:bootBuiltins x=BD u)(r:gd v u)(d:x ≠ "__name__":=by decide)(hd:(x == ("__debug__" : Str))=Ŷ:=by decide):PE X (.Name x a)$ tC v:=
 λf f f H f I h=>Cy I b c e ⟨v,H,I,r,h⟩ d hd
variable{a b:Ja}{ta tb:TE}{pos:Td}
def PC(X:Cx)(f:zp)(a b:Ja)(t:TE):Prop:=
 ∀ c s σ H Q,Ta X c σ H s->t σ H Q->
  wpAny (model X.prog X.w) X.A (Cb a X.env) (λv d=>wpAny (model X.prog X.w) X.A (Cb b X.env) (λu e=>wpAny (model X.prog X.w) X.A (Eb f v u) (EP X c σ Q) X.xe e) X.xe d) X.xe s
def χ b{a}(h:a≠.In)(e:a≠.NotIn):Ud a b=Ŷ:=by
 have c:(a == kR)=Ŷ:=by cases a<;>first|rfl|exact absurd rfl h
 have d:(a == cE)=Ŷ:=by cases a<;>first|rfl|exact absurd rfl e
 cases b<;>simp[Ud,c,d]
noncomputable def tB(t:TE):TT:=λb H Q=>t b H λx a=>∃ c,x=.bl c/\Q c a
def yi8(h:PC X g a b t)(f:Ud g b=Ŷ:=by first|exact χ _ ⋯ ⋯|rfl):PT X (.Compare a [g] [b] pos)$ tB t:=by
 intro e s n H Q I k;refine Ow (ud (h e s n H _ I k) λv s1 f=>ud f λu s2 j=>ud j λc s3 ſ=>?_) f;obtain⟨x,H1,i,m,l⟩:=ſ;obtain⟨d,rfl,q⟩:=l;cases m;exact Yc ⟨H1,i,q⟩
def X2(h:PE X e t)(f:∀ a,QB e X.env a=(do let v <-a;Kg e.pos;Od [v] (truthy v)):=by intro _;rfl):PT X e$ tB t:=by
 intro b s k H Q I g;refine isTrue_plain (ud (h b s k H _ I g) λv s1 ⟨x,H1,c,j,i⟩=>?_)$ f _;obtain⟨d,rfl,q⟩:=i;cases j;exact Yc ⟨H1,c,q⟩
variable{tA tB':TT}{rest:List Ja}
noncomputable def ŗ(t u:TT):TT:=λb H Q=>t b H λc a=>if c=A3 then u b a Q else Q Ŷ a
noncomputable def Y8(t u:TT):TT:=λb H Q=>t b H λc a=>if c=A3 then Q A3 a else u b a Q
noncomputable def R5(t:TT):TT:=λb H Q=>t b H λc a=>Q (!c) a
def zy7(d:PT X a tA):PW X (.BoolOp .And [a] pos) tA:=by
 intro g b s f H Q I h;refine isTrue_and (ud (d b s f H Q I h) λc s1 e=>?_);cases c with
 |true=>exact isTrue_and_nil e
 |false=>exact e
def Í(d:PT X a tA):PW X (.BoolOp .Or [a] pos) tA:=by
 intro g b s f H Q I h;refine isTrue_or (ud (d b s f H Q I h) λc s1 e=>?_);cases c with
 |false=>exact isTrue_or_nil e
 |true=>exact e
def j3(i:PT X a tA)(j:PW X (.BoolOp .And (b::rest) pos) tB'):PW X (.BoolOp .And (a::b::rest) pos)$ ŗ tA tB':=by
 intro k d s g H Q I h;refine isTrue_and (ud (i d s g H _ I h) λc s1 ſ=>?_);obtain⟨H1,e,f⟩:=ſ;cases c with
 |true=>exact j k d s1 g H1 Q e f
 |false=>exact⟨H1,e,f⟩
def O7(i:PT X a tA)(j:PW X (.BoolOp .Or (b::rest) pos) tB'):PW X (.BoolOp .Or (a::b::rest) pos)$ Y8 tA tB':=by
 intro k d s g H Q I h;refine isTrue_or (ud (i d s g H _ I h) λc s1 ſ=>?_);obtain⟨H1,e,f⟩:=ſ;cases c with
 |true=>exact⟨H1,e,f⟩
 |false=>exact j k d s1 g H1 Q e f
def ð(c:PT X a tA):PT X (.UnaryOp .Not a pos)$ R5 tA:=by
 intro b s d H Q I h;exact isTrue_not (ud (c b s d H _ I h) λ_ _ ⟨H1,i,q⟩=>⟨H1,i,q⟩)
noncomputable def ysw(ta tb:TE):TE:=λb H Q=>ta b H λx a=>∃ c,x=.bl c/\if c=A3 then tb b a Q else Q (.bl Ŷ) a
noncomputable def p8(ta tb:TE):TE:=λb H Q=>ta b H λx a=>∃ c,x=.bl c/\if c=A3 then Q (.bl A3) a else tb b a Q
noncomputable def ys1(ta:TE):TE:=λb H Q=>ta b H λx a=>∃ c,x=.bl c/\Q (.bl$ !c) a
def yio{op}(h:PE X a t):PE X (.BoolOp op [a] pos) t:=λb s d H Q I c=>BoolOp_one$ h b s d H Q I c
def Χ(i:PE X a ta)(j:PE X (.BoolOp .And (b::rest) pos) tb):PE X (.BoolOp .And (a::b::rest) pos)$ ysw ta tb:=by
 intro d s g H Q I h;refine BoolOp_and (ud (i d s g H _ I h) λv s1 ſ=>?_);obtain⟨x,H1,f,k,e⟩:=ſ;obtain⟨c,rfl,e⟩:=e;cases k;refine Yc ?_;cases c with
 |true=>exact j d s1 g H1 Q f e
 |false=>exact⟨.bl Ŷ,H1,f,rfl,e⟩
def U5(i:PE X a ta)(j:PE X (.BoolOp .Or (b::rest) pos) tb):PE X (.BoolOp .Or (a::b::rest) pos)$ p8 ta tb:=by
 intro d s g H Q I h;refine BoolOp_or (ud (i d s g H _ I h) λv s1 ſ=>?_);obtain⟨x,H1,f,k,e⟩:=ſ;obtain⟨c,rfl,e⟩:=e;cases k;refine Yc ?_;cases c with
 |false=>exact j d s1 g H1 Q f e
 |true=>exact⟨.bl A3,H1,f,rfl,e⟩
def yin(f:PE X a ta):PE X (.UnaryOp .Not a pos)$ ys1 ta:=by
 intro b s i H Q I h;refine UnaryOp_ (ud (f b s i H _ I h) λv s1 ſ=>?_);obtain⟨x,H1,e,g,d⟩:=ſ;obtain⟨c,rfl,d⟩:=d;cases g;exact not_of$ Yc ⟨.bl _,H1,e,rfl,d⟩
noncomputable def W9(t:TT)(ta tb:TE):TE:=λa H Q=>t a H λc b=>if c=A3 then ta a b Q else tb a b Q
def é(l:PT X c tA)(j:PE X a ta)(k:PE X b tb):PE X (.IfExp c a b pos)$ W9 tA ta tb:=by
 intro e s f H Q I h;refine wpAny_IfExp (ud (l e s f H _ I h) λd s1 ſ=>?_);obtain⟨H1,g,i⟩:=ſ;cases d with
 |true=>exact j e s1 f H1 Q g i
 |false=>exact k e s1 f H1 Q g i
end
def He(K:W.Frag)(H:Hp)(a:Addr)(xs:gV):Prop:=
 Rd H a (.na xs)\/
  ∃ (o:Obj) (b:Array Value) (n:Nat),K.lookup a=BD o/\o.cls=.type "list"/\o.dict=L6/\o.data=.seq b n/\b.size<=sizeLine/\de xs b.toList
def Jg(K:W.Frag)(H:Hp)(a:Addr)(xs:gV):Prop:=
 Rd H a (.Ha xs)\/
  ∃ (o:Obj) (b:Array Value) (n:Nat),K.lookup a=BD o/\o.cls=.type "tuple"/\o.data=.seq b n/\b.size<=sizeLine/\de xs b.toList
noncomputable def v6:Value->Option V
 | .none=>BD .Lb
 | .bool b=>BD (.bl b)
 | .int i _=>BD (.int i)
 | .str x _=>BD (.str x)
 | .bytes b _=>BD (.CI b)
 | .float b _=>BD (.BB b)
 | .ref a=>BD (.ref a)
 | .type n=>BD (.ty n)
 |_=>L6
theorem gd.abs(r:gd x u):v6 u=BD x:=by
 cases x with
 |Lb=>cases r;rfl
 |bl _=>cases r;rfl
 |int _=>obtain⟨t,rfl⟩:=r;rfl
 |str _=>obtain⟨t,rfl⟩:=r;rfl
 |CI _=>obtain⟨t,rfl⟩:=r;rfl
 |BB _=>obtain⟨t,rfl⟩:=r;rfl
 |ref _=>cases r;rfl
 |ty _=>cases r;rfl
def gd.inj(r:gd x u)(q:gd y u):x=y:=Sb$ r.abs.symm.trans q.abs
theorem de.inj{xs a:gV}{us}(h:de xs us)(g:de a us):xs=a:=by
 induction h generalizing a with
 |nil=>cases g;rfl
 |cons r t i=>cases g with|cons b c=>rw[r.inj b,i c]
section
variable{X:Cx}{pins:List$ Addr × Obj}{σ:St}{H:Hp}{s:Shared}{a:Addr}{xs ys:gV}
def He.of{K}(h:H a=BD (.na xs)):He K H a xs:=.inl$ .inl h
def Jg.of{K}(h:H a=BD (.Ha xs)):Jg K H a xs:=.inl$ .inl h
def Ta.list(I:Ta X pins σ H s)(h:He X.K H a xs):∃ b:b',de xs b/\PlainL s.heap a b.toArray/\xs.length<=sizeLine:=by
 rcases h with h|⟨o,b,n,d,c,hd,f,g,r⟩
 ·obtain⟨z,b,n,r,e⟩:=h.ok I.lc;exact⟨b,r,⟨_,n,e,rfl,rfl,rfl⟩,z⟩
 ·refine⟨b.toList,r,⟨o,n,I.Ri a o d,c,hd,by simpa using f⟩,?_⟩;have e:=r.length;simp at e
  lia
def Ta.tuple(I:Ta X pins σ H s)(h:Jg X.K H a xs):∃ b:b',de xs b/\IsTup s.heap a b.toArray/\xs.length<=sizeLine:=by
 rcases h with h|⟨o,b,n,d,c,f,g,r⟩
 ·obtain⟨z,b,r,p⟩:=h.ok I.lc;exact⟨b,r,p,z⟩
 ·refine⟨b.toList,r,⟨o,I.Ri a o d,c,n,by simpa using f⟩,?_⟩;have e:=r.length
  simp_all
def Ta.Sj(I:Ta X pins σ H s)(h:He X.K H a xs)(h':He X.K H a ys):xs=ys:=by
 obtain⟨b,r,⟨o,n,e,_,_,d⟩,_⟩:=I.list h;obtain⟨its',f,⟨i,g,c,_,_,d'⟩,_⟩:=I.list h';rw[e]at c;cases c;rw[d]at d';injection d' with d1 _;have:b=its':=by simpa using Ab Array.toList d1
 subst this;exact r.inj f
def Ta.Ms(I:Ta X pins σ H s)(h:Jg X.K H a xs)(h':Jg X.K H a ys):xs=ys:=by
 obtain⟨b,r,⟨o,e,_,n,d⟩,_⟩:=I.tuple h;obtain⟨its',f,⟨i,c,_,g,d'⟩,_⟩:=I.tuple h';rw[e]at c;cases c;rw[d]at d';injection d' with d1 _;have:b=its':=by simpa using Ab Array.toList d1
 subst this;exact r.inj f
end
section
variable{X:Cx}{st:Stmt}{rest:List Stmt}{t u:TS}{e:Ja}{te:TE}{pos:Td}
noncomputable def R7:TS:=λD a H=>D.nx a H
noncomputable def D8(t u:TS):TS:=λD a H=>t { D with nx:=u D } a H
def xZ:Bu X [] R7:=λb b a H b I h=>fh ⟨a,H,I,h⟩
def xR(e:PS X st t)(g:Bu X rest u):Bu X (st::rest)$ D8 t u:=by
 intro a s i H D I h;refine HG (ud (e a s i H { D with nx:=u D } I h) λf s1 q=>?_);cases f with
 |next=>
  obtain⟨b,c,d,q⟩:=q;exact g a s1 b c D d q
 |ret v=>exact q
 |brk=>exact q
 |cont=>exact q
def zy1(b:PS X st t):Bu X [st] t:=by
 intro a s c H D I h;refine HG (ud (b a s c H D I h) λf s1 q=>?_);cases f with
 |next=>exact fh q
 |ret v=>exact q
 |brk=>exact q
 |cont=>exact q
def Ta.quiet(I:Ta X a b H s):interactive X.env=Ŷ:=by simp[interactive,I.ok.kind]
noncomputable def K4(te:TE):TS:=λD a H=>te a H λc b=>D.nx a b
def E3(d:PE X e te)(f:Hg e L6 pos.line X.env=pure Ŷ:=by rfl):PS X (.Expr e pos)$ K4 te:=by
 intro a s b H D I h;exact wpAny_Expr_any (ud (d a s b H _ I h) λv s1 ⟨x,H1,c,i,g⟩=>⟨b,H1,c,g⟩) I.quiet f
noncomputable def P9(te:TE):TS:=λD a H=>te a H D.rt
def ľ(d:PE X e te):PS X (.Return (BD e) pos)$ P9 te:=by
 intro a s b H D I h;exact wpAny_Return_some (ud (d a s b H _ I h) λv s1 ⟨x,H1,c,g,f⟩=>⟨x,b,H1,c,g,f⟩)
noncomputable def þ(c:TT)(t u:TS):TS:=λD a H=>c a H λb d=>if b=A3 then t D a d else u D a d
def uX(l:PT X c tc)(j:Bu X a t)(k:Bu X b u):PS X (.If c a b pos)$ þ tc t u:=by
 intro e s f H D I h;refine wpAny_If (ud (l e s f H _ I h) λd s1 ſ=>?_);obtain⟨H1,g,i⟩:=ſ;cases d with
 |true=>exact j e s1 f H1 D g i
 |false=>exact k e s1 f H1 D g i
end
abbrev TG:=V->St->Hp->(St->Hp->Prop)->Prop
abbrev gz:=gV->St->Hp->(St->Hp->Prop)->Prop
def PG(X:Cx)(a:Ja)(t:TG):Prop:=
 ∀ b s σ H v u Q,Ta X b σ H s->gd v u->t v σ H Q->
  wpAny (model X.prog X.w) X.A (Mi a X.env u) (λd c=>NP X b Q c) X.xe s
def mG(X:Cx)(d:List Ja)(t:gz):Prop:=
 ∀ a s σ H b us Q,Ta X a σ H s->de b us->t b σ H Q->
  wpAny (model X.prog X.w) X.A (assignInOrder ((Gd d X.env).map (·.2)) us) (λe c=>NP X a Q c) X.xe s
abbrev QH:=V->V->V->Hp->(Hp->Prop)->Prop
def OQ(X:Cx)(t:QH):Prop:=
 ∀ a s σ H o i v d c u Q,Ta X a σ H s->gd o d->gd i c->gd v u->t o i v H Q->
  wpAny (model X.prog X.w) X.A (Kq d c u) (λf e=>∃ b,Ta X a σ b e/\Q b) X.xe s
abbrev gJ:=V->V->Hp->VK->Prop
def DQ(X:Cx)(b:Kk)(t:gJ):Prop:=
 ∀ a s σ H x y v u Q,Ta X a σ H s->gd x v->gd y u->t x y H Q->
  wpAny (model X.prog X.w) X.A (OG b v u) (EP X a σ Q) X.xe s
section
variable{X:Cx}{pos:Td}
noncomputable def cT(i:Nat):TG:=λv a H Q=>Q (a.set i$ BD v) H
def U1(c:X.N.Nodup)(e:X.N[i]?=BD x)(f:Loc X.env.scope x)(d:X.fn x=A3\/X.env.scope.names.lookup x=BD .local:=by first|exact .inl rfl|exact .inr rfl|assumption):PG X (.Name x pos)$ cT i:=by
 intro a s j H v u Q I r h;exact ND$ eQ I c e f r (λg b=>⟨_,H,b,h⟩) d
noncomputable def ywg:gz:=λa b H Q=>a=[]/\Q b H
noncomputable def ğ(t:TG)(u:gz):gz:=λc d H Q=>∃ v r,c=v::r/\t v d H λa b=>u r a b Q
def J9:mG X [] ywg:=by
 intro a s b H d c Q I r h;obtain⟨rfl,h⟩:=h;cases r;exact assignInOrder_nil ⟨b,H,I,h⟩
def N8(f:PG X e t)(g:mG X b u)
  (i:(Gd (e::b) X.env).map (·.2)=Mi e X.env::(Gd b X.env).map (·.2):=by rfl):mG X (e::b)$ ğ t u:=by
 intro a s l H o m Q I r h;obtain⟨v,n,rfl,h⟩:=h;cases r with
 |cons r k=>
  rw[i];exact assignInOrder_cons (ud (f a s l H _ _ _ I r h) λ_ s1 ⟨c,H1,d,j⟩=>(g a s1 c H1 _ _ Q d k j))
noncomputable def Ŕ(K:W.Frag)(n:Nat)(t:gz):TG:=λv b H Q=>∃ a xs,v=.ref a/\Jg K H a xs/\xs.length=n/\t xs b H Q
def ċ(j:X.gc=A3)(h:mG X d t)
  (m:(Gd d X.env).length=n:=by rfl) (f:(Gd d X.env).findIdx? (·.1)=L6:=by rfl):PG X (.Tuple d k pos)$ Ŕ X.K n t:=by
 intro c s σ H v u Q I r g;obtain⟨a,xs,rfl,p,l,g⟩:=g;cases r;obtain⟨x,y,q,z⟩:=I.tuple p;refine assign_Tuple_tuple (I.ok.hd j) q (by simp[m,<-l,y.length]) f λh' w=>?_;have i:Ta X c σ H { s with heap:=h' }:=I.kept λb o e=>w b o (va$ ua e) e;exact h c _ σ H xs _ Q i ⋯ g
noncomputable def M3(f e:TE)(t:QH):TG:=λv a H Q=>f a H λo b=>e a b λi c=>t o i v c λd=>Q a d
def KO(q:PE X o f)(p:PE X i e)(w:OQ X t)
  (n:∀ v,Mi (.Subscript o i pos) X.env v=(do
   let b <-Od [v] (Cb o X.env);let c <-Od [v,b] (Cb i X.env)
   Kg pos
   Od [v,b,c] (Kq b c v)
   dE [v,b,c] []):=by intro _;rfl):PG X (.Subscript o i pos)$ M3 f e t:=by
 intro a s d H v u Q I r h;rw[n];refine aa$ Xb (ud (q a s d H _ I h) λb s1 ſ=>?_);obtain⟨x,H1,k,C,z⟩:=ſ;refine aa$ Xb (ud (p a s1 d H1 _ k z) λc s2 ſ=>?_);obtain⟨y,g,l,D,A⟩:=ſ;refine aa$ zt$ aa$ Xb (ud (w a s2 d g x y v b c u _ l C D r A) λE s3 ſ=>?_);obtain⟨j,m,B⟩:=ſ;exact wpAny_release ⟨d,j,m,B⟩
noncomputable def kU(c:TE)(g:TG):TS:=λD a H=>c a H λx b=>g x a b D.nx
def qH(j:PE X e c)(k:PG X b g)(l:Ni [b] e pos.line X.env=pure Ŷ:=by rfl)(m:Oi [b] e X.env=pure L6:=by rfl)
  (i:(Gd [b] X.env).map (·.2)=[Mi b X.env]:=by rfl):PS X (.Assign [b] e pos)$ kU c g:=by
 intro a s d H D I h;refine wpAny_Assign_stores (ud (j a s d H _ I h) λv s1 ſ=>?_) l m;obtain⟨x,H1,f,o,n⟩:=ſ;rw[i];exact ud (k a s1 d H1 x v _ f o n) λp s2 q=>q
def yi7(g:X.N.Nodup)(l:X.N[i]?=BD x)(n:Loc X.env.scope x)(j:PE X e c)(m:Hg e (BD$ .Name x a) pos.line X.env=pure Ŷ:=by rfl)(k:X.fn x=A3\/X.env.scope.names.lookup x=BD .local:=by first|exact .inl rfl|exact .inr rfl|assumption) :
  PS X (.Assign [.Name x a] e pos)$ kU c$ cT i:=by
 intro b s q H D I h;exact wpAny_Assign_Name (ud (j b s q H _ I h) λv s1 ⟨y,H1,d,p,o⟩=>(eQ d g l n p (λs2 f=>⟨_,H1,f,o⟩) k)) m
noncomputable def xad(i:Nat)(d:TE)(e:gJ):TS:=λD a H=>∃ x,a[i]?=BD (BD x)/\d a H λy b=>e x y b λz c=>D.nx (a.set i$ BD z) c
def ĸ(L:X.N.Nodup)(t:X.N[i]?=BD x)(n:Loc X.env.scope x)(O:PE X e B)(T:DQ X o C)(P:X.fn x=A3\/X.env.scope.names.lookup x=BD .local:=by first|exact .inl rfl|exact .inr rfl|assumption) :
  PS X (.AugAssign (.Name x f) o e pos)$ xad i B C:=by
 intro a s σ H D I h;obtain⟨v,K,h⟩:=h;obtain⟨m,S,Q⟩:=I.loc;have p:HJ X.env.scope x:=by rcases n with k|k;exact .inl k;exact .inr$ .inl k
 obtain⟨u,r,l⟩:=Q i x v t K p;refine wpAny_AugAssign_Name ?_;have q:wpAny (model X.prog X.w) X.A (Cb e X.env) (λw g=>wpAny (model X.prog X.w) X.A (OG o u w) (λr j=>wpAny (model X.prog X.w) X.A (NG X.env x r) (λz=>SP X a D .next) X.xe j) X.xe g) X.xe s:=by
  refine ud (O a s σ H _ I h) λw s1 ſ=>?_;obtain⟨y,H1,F,W,ϋ⟩:=ſ;refine ud (T a s1 σ H1 v y u w _ F r W ϋ) λz s2 ſ=>?_;obtain⟨zv,E,G,ό,V⟩:=ſ;exact eQ G L t n ό (λϊ ύ=>⟨_,E,ύ,V⟩) P
 rcases l with⟨b,R⟩|⟨b,c,M,d⟩
 ·exact uy I.ok.kind b S R q
 ·rcases b with b|b
  ·exact Mz I.ok.kind b M d q
  ·rcases n with k|k
   ·have:X.env.scope.names.lookup x=BD .free:=b;rw[k]at this;cases this
   ·have:X.env.scope.names.lookup x=BD .free:=b
    simp_all
noncomputable def mU(f:Int->Int->Int):gJ:=λx y H Q=>∃ i j,x=.int i/\y=.int j/\Q (.int$ f i j) H
def lY:DQ X .Add (mU λi j=>i+j):=by
 rintro a s f H x y v u Q I d e ⟨i,j,b,c,q⟩;subst b;subst c;obtain⟨t,rfl⟩:=d;obtain⟨t',rfl⟩:=e;exact iadd_int ⟨.int _,H,I.tok _,⟨_,rfl⟩,q⟩
end
section
variable{X:Cx}{pos:Td}
noncomputable def Ļ(c:TT)(h:TS):TS:=λD a H=>∃ W:Nat->St->Hp->Prop,(∃ m,W m a H)/\∀ m a H,W m a H->
 c a H λb f=>if b=A3 then ∃ N:St->Hp->Prop,(∀ d e,N d e->∃ g,g<m/\W g d e)/\h { D with nx:=N,ct:=N,bk:=D.nx } a f else D.nx a f
def Å(B:ij (model X.prog X.w) X.A X.env X.xe)(G:PT X c tc)(F:Bu X g C):PS X (.While c g [] pos)$ Ļ tc C:=by
 rintro a s O H D I ⟨W,⟨ύ,L⟩,i⟩;refine wpAny_While$ codeAny_whileLoop (λn K=>∃ j t,Ta X a j t K/\W n j t) ?_ ύ ⟨O,H,I,L⟩;rintro n s1 ⟨e,u,E,M⟩;refine Se B (ud (G a s1 e u _ E$ i n e u M) λb s2 ſ=>?_);obtain⟨x,y,k⟩:=ſ;cases b with
 |true=>
  obtain⟨N,z,k⟩:=k;refine Se B (ud (F a s2 e x _ y k) λf P l=>?_);cases f with
  |next=>
   obtain⟨d,h,m,q⟩:=l;obtain⟨p,o,r⟩:=z d h q;exact⟨p,o,d,h,m,r⟩
  |cont=>
   obtain⟨d,h,m,q⟩:=l;obtain⟨p,o,r⟩:=z d h q;exact⟨p,o,d,h,m,r⟩
  |brk=>exact l
  |ret v=>exact l
 |false=>
  exact fh ⟨e,x,y,k⟩
end
structure It where
 go:Nat->Hp->Prop
 RC:Nat->Hp->V->Hp->Prop
 stop:Nat->Hp->Prop
def xl(X:Cx)(a:List$ Addr × Obj)(H:Hp)(b:Addr):Prop:=
 H b=L6/\b≠X.env.locals/\b ∉ X.fs/\(b∈X.ex\/X.s₀.heap.objs.size<=b)/\(∀ x c,X.env.cells.lookup x=BD c->c≠b)/\∀ p∈X.pn++a,p.1≠b
def Ta.Vm(I:Ta X a i H s)(d:s.heap.objs.size<=b)(g:f b=L6):xl X a f b:=by
 refine⟨g,Fd$ Ga I.lt d,I.wE d,.inr$ ub I.sz d,λx c e z=>?_,λp h z=>?_⟩
 ·obtain⟨v,q⟩:=I.cell x c e;exact absurd (Ga q.lt$ by simp_all)$ qd _
 ·exact absurd (Ga (ua (I.pin p h).1)$ by simp_all)$ qd _
structure Xm(P:xa)(w:Ma)(K:W.Frag)(tg:Ja)(ύ:It)(fp:ad)(it:Addr)(tn:Nat->Heap->Prop):Prop where
 mem:it∈fp
 obj:∀ i h,tn i h->∀ b∈fp,∃ o,h.get? b=BD o/\∀ v,o.data≠.cell v
 keep:∀ i h h',tn i h->(∀ b∈fp,∀ o,h.get? b=BD o->h'.get? b=BD o)->tn i h'
 item:∀ (X:Cx),X.prog=P->X.w=w->X.K=K->X.gc=A3->∀ (i:Nat) (pins:em) (s:Shared) (σ:St) (H:Hp) (E:Value->Shared->Prop),Ta X pins σ H s->(∀ b∈fp,xl X pins H b)->tn i s.heap->ύ.go i H->
  wpAny (model P w) X.A (pyNext (.ref it)) (λr s1=>∃ u,r=BD u/\
   wpAny (model P w) X.A (letOwnedTupleGo tg (.ref it) u) (λa s2=>∃ x H',Ta X pins σ H' s2/\gd x u/\ύ.RC i H x H'/\tn (i+1) s2.heap/\∀ b∈fp,H' b=L6) E s1) E s
 done:∀ (X:Cx),X.prog=P->X.w=w->X.K=K->X.gc=A3->∀ (i:Nat) (pins:em) (s:Shared) (σ:St) (H:Hp) (E:Value->Shared->Prop),Ta X pins σ H s->(∀ b∈fp,xl X pins H b)->tn i s.heap->ύ.stop i H->
  wpAny (model P w) X.A (pyNext (.ref it)) (λr s1=>r=L6/\Ta X pins σ H s1) E s
 self:∀ (A:Ia) (i:Nat) (s:Shared) (Q:Value->Shared->Prop) (E:Value->Shared->Prop),tn i s.heap->Q (.ref it) s->wpAny (model P w) A (pyIter (.ref it)) Q E s
abbrev TI:=St->Hp->(It->Hp->Prop)->Prop
def MV(X:Cx)(a:List$ Addr × Obj)(i:St)(h:Ja)(R:It->Hp->Prop)(d:Value)(s2:Shared):Prop:=
 ∃ (f:Addr) (e:ad) (g:Nat->Heap->Prop) (ύ:It) (c:Hp),d=.ref f/\Ta X a i c s2/\Xm X.prog X.w X.K h ύ e f g/\g 0 s2.heap/\(∀ b∈e,xl X a c b)/\R ύ c
def PI(X:Cx)(c b:Ja)(d:TI):Prop:=
 ∀ a s σ H R,Ta X a σ H s->d σ H R->
  wpAny (model X.prog X.w) X.A (Cb b X.env) (λv s1=>wpAny (model X.prog X.w) X.A (pyIter v) (MV X a σ c R) X.xe s1) X.xe s
def mE (f : s.heap.get? b = BD o) (e : o.cls = .type n) (hd : o.data = .fields d)
    (g : ["enumerate","zip","dict_itemiterator","dict_reverseitemiterator","odict_iterator","itertools.zip_longest","itertools.pairwise"].contains n = Ŷ) (a : Q () s) : wpAny M A (letOwnedTupleGo c (.ref b) u) Q E s := by
  unfold letOwnedTupleGo;cases c <;> first
    | exact ga a
    | (cases u <;> first
        | exact ga a
        | (refine aa$ wm f ?_
           rw [e, hd];show wpAny M A (if (["enumerate","zip","dict_itemiterator","dict_reverseitemiterator","odict_iterator","itertools.zip_longest","itertools.pairwise"].contains n && d[0]? == BD _) = A3 then _ else _) Q E s;rw [qa ⋯];exact ga a))
noncomputable def QQ(K:W.Frag)(a:Addr):It:=
 ⟨λi H=>∃ xs x,He K H a xs/\xs[i]?=BD x,λi H x b=>b=H/\∀ xs,He K H a xs->xs[i]?=BD x,λi H=>∃ xs,He K H a xs/\xs.length<=i⟩
noncomputable def tQ(K:W.Frag)(a:Addr):It:=
 ⟨λi H=>∃ xs x,Jg K H a xs/\xs[i]?=BD x,λi H x b=>b=H/\∀ xs,Jg K H a xs->xs[i]?=BD x,λi H=>∃ xs,Jg K H a xs/\xs.length<=i⟩
noncomputable def PN(lo:Int)(n:Nat):It:=⟨λi b=>i<n,λi H x a=>a=H/\x=.int (lo+i),λi b=>n<=i⟩
def zke{P:xa}{w:Ma}{K:W.Frag}{S:Ja}(a j:Addr):Xm P w K S (QQ K a) [j] j (λi h=>h.IsListIter j a i) where
 mem:=by simp
 obj:=λi h st b g=>by
  have e:b=j:=by simpa using g
  subst e;obtain⟨o,e,c,d⟩:=st
  simp_all
 keep:=λi h h' st k=>st.at λo e=>k j ⋯ o e
 item:=by
  intro X z B y G i f s σ H E I m st A;subst z B y;obtain⟨xs,x,n,C⟩:=A;obtain⟨D,F,p,O⟩:=I.list n;obtain⟨u,ϋ,Q⟩:=F.get C;obtain⟨f0,q,M,r,t,v⟩:=m j ⋯;refine wpAny_pyNext_list_item st p.isList (x:=u) ⋯ λh' l R=>?_;have ύ:Ta X f σ H { s with heap:=h' }:=I.turned (t':=s.toks) (λb o g e=>(R.2 b g).trans e) f0 q r t v;obtain⟨o,e,c,d⟩:=id l;exact⟨u,rfl,mE (s:={ s with heap:=h' }) e c d ⋯ ⟨x,H,ύ,Q,⟨rfl,λV N=>by rw[I.Sj N n];exact C⟩,l,λb g=>(m b g).1⟩⟩
 done:=by
  intro X z B y G i f s σ H E I m st A;subst z B y;obtain⟨xs,n,C⟩:=A;obtain⟨D,F,p,O⟩:=I.list n;obtain⟨f0,q,M,r,t,v⟩:=m j ⋯;have T:=F.length;exact wpAny_pyNext_list_end (I.ok.hd G) st p.isList (by simp;lia) λh' L=>⟨rfl,I.turned (t':=s.toks) (λb o g e=>L b o g e) f0 q r t v⟩
 self:=λJ J J J J st h=>wpAny_pyIter_listiter st h
def D4{P:xa}{w:Ma}{K:W.Frag}{S:Ja}(a j:Addr):Xm P w K S (tQ K a) [j] j (λi h=>h.IsTupleIter j a i) where
 mem:=by simp
 obj:=λi h st b g=>by
  have e:b=j:=by simpa using g
  subst e;obtain⟨o,e,c,d⟩:=st
  simp_all
 keep:=λi h h' st k=>st.at λo e=>k j ⋯ o e
 item:=by
  intro X A C z G i f s σ H E I n st B;subst A C z;obtain⟨xs,x,q,D⟩:=B;obtain⟨l,F,p,O⟩:=I.tuple q;obtain⟨u,ϋ,Q⟩:=F.get D;obtain⟨f0,r,M,t,v,y⟩:=n j ⋯;refine wpAny_pyNext_tuple_item st (p) (x:=u) ⋯ λh' m R=>?_;have ύ:Ta X f σ H { s with heap:=h' }:=I.turned (λb o g e=>(R.2 b g).trans e) f0 r t v y;obtain⟨o,e,c,d⟩:=id m;exact⟨u,rfl,mE e c d ⋯ ⟨x,H,ύ,Q,⟨rfl,λV N=>by rw[I.Ms N q];exact D⟩,m,λb g=>(n b g).1⟩⟩
 done:=by
  intro X A C z G i f s σ H E I n st B;subst A C z;obtain⟨xs,q,D⟩:=B;obtain⟨l,F,p,O⟩:=I.tuple q;obtain⟨f0,r,M,t,v,y⟩:=n j ⋯;have T:=F.length;exact wpAny_pyNext_tuple_end (I.ok.hd G) st (show s.heap.IsTuple a l.toArray from p) (by simp;lia) λh' L=>⟨rfl,I.turned (λb o g e=>L b o g e) f0 r t v y⟩
 self:=λJ J J J J st h=>wpAny_pyIter_tupleiter st h
def M4{P:xa}{w:Ma}{K:W.Frag}{G:Ja}(c:Addr)(lo:Int)(n:Nat):Xm P w K G (PN lo n) [c] c (λi h=>IsRangeIter h c (lo+(i:Nat) * 1) ((n:Int) - (i:Nat)) 1) where
 mem:=by simp
 obj:=λi h st b d=>by
  simp_all
 keep:=λi h h' st k=>k c ⋯ _ st
 item:=by
  intro X r y q u i a s z H E I g st x;subst r y q;obtain⟨f0,j,C,l,m,p⟩:=g c ⋯;refine(Walks.range (I.ok.hd u) c lo 1 n).item i s _ _ x st λv h' tk D f F=>?_;obtain⟨t,rfl⟩:=D;have A:Ta X a z H { s with heap:=h',toks:=tk }:=I.turned (λb o d e=>F b o ⋯ e) f0 j l m p;refine⟨_,rfl,mE (n:="range_iterator") f rfl rfl ⋯ ⟨.int _,H,A,⟨t,?_⟩,⟨rfl,rfl⟩,f,λb d=>(g b d).1⟩⟩
  simp_all
 done:=by
  intro X r y q u i a s z H E I g st x;subst r y q;obtain⟨f0,j,C,l,m,p⟩:=g c ⋯;exact wpAny_pyNext_range_end (I.ok.hd u) st (by have:n<=i:=x;lia) λh' B=>⟨rfl,I.turned (t':=s.toks) (λb o d e=>B b o d e) f0 j l m p⟩
 self:=λv v v v v st h=>wpAny_pyIter_rangeiter st h
section
variable{X:Cx}{tg:Ja}
def ŏ{lo a}(I:Ta X c f H s)(i:-(2 ^ 62)<=lo)(j:lo<2 ^ 62)(k:-(2 ^ 62)<=a)(l:a<2 ^ 62)
  (q:R (PN lo (a - lo).toNat) H):wpAny (model X.prog X.w) X.A (pyIter$ .ref s.heap.objs.size) (MV X c f tg R) E { s with heap:=s.heap.push { cls:=.type "range",data:=.fields #[.int lo t,.int a u,.int 1 v] },toks:=tk }:=by
 refine wpAny_pyIter_range (IsRange.new ..) (small_one i j k l) ?_;have d:Ta X c f H { s with heap:=s.heap.push { cls:=.type "range",data:=.fields #[.int lo t,.int a u,.int 1 v] },toks:=tk }:=I.kept λb o e=>da _ e;refine⟨(s.heap.push { cls:=.type "range",data:=.fields #[.int lo t,.int a u,.int 1 v] }).objs.size,[(s.heap.push { cls:=.type "range",data:=.fields #[.int lo t,.int a u,.int 1 v] }).objs.size],_,_,H,rfl,
  d.kept λb o e=>da _ e,M4 _ lo (a - lo).toNat,?_,λb m=>?_,q⟩
 ·have g:lo+(0:Nat) * 1=lo:=by simp
  have h:(((a - lo).toNat:Nat):Int) - ((0:Nat):Int)=QG lo a 1:=by rw[r0];split<;>lia
  show IsRangeIter _ _ _ _ 1;rw[g,h];exact za _ rfl
 ·have e:b=(s.heap.push { cls:=.type "range",data:=.fields #[.int lo t,.int a u,.int 1 v] }).objs.size:=by simpa using m
  subst e;exact d.Vm (pa _)$ d.lc.fresh$ pa _
def å(b:TA):TI:=λd H R=>b d H λc a=>∃ j:Int,c=[.int j]/\-(2 ^ 62)<=j/\j<2 ^ 62/\R (PN 0 j.toNat) a
def zje(i:Gl X "range")(k:X.mg "range" = L6)(g:PA X [a] e)(l:ka [a] X.env=[(Ŷ,Cb a X.env)]:=by rfl):PI X tg (.Call (.Name "range" p) [a] [] c)$ å e:=by
 intro b s u H R I h;refine Call_$ Cy I i k boot_range$ pe (ud (g c b s u H _ I h) λus s1 ſ=>?_) l rfl;obtain⟨v,H1,f,n,d⟩:=ſ;obtain⟨j,rfl,d,m,q⟩:=d;cases n with
 |cons r o=>
  cases o;obtain⟨t,rfl⟩:=r;exact call_range_1$ ŏ f ⋯ ⋯ d m ⋯
noncomputable def Š(k:TI)(g:TG)(j:TS):TS:=λD a H=>k a H λύ f=>∃ W:Nat->Nat->St->Hp->Prop,(∃ m,W 0 m a f)/\∀ i m a H,W i m a H->
 (ύ.stop i H/\D.nx a H)\/(ύ.go i H/\∃ N:St->Hp->Prop,(∀ c b,N c b->∃ e,e<m/\W (i+1) e c b)/\∀ x b,ύ.RC i H x b->g x a b λd h=>j { D with nx:=N,ct:=N,bk:=D.nx } d h)
noncomputable def DE(a:ad)(h:Heap):List$ Addr × Obj:=a.filterMap λb=>(h.get? b).map λo=>(b,o)
def MJ(c:b∈a)(e:h.get? b=BD o):(b,o)∈DE a h:=ik.mpr ⟨b,c,by rw[e];rfl⟩
def X5(d:p∈DE a h):p.1∈a/\h.get? p.1=BD p.2:=by
 obtain⟨b,f,e⟩:=ik.mp d;cases q:h.get? b with
 |none=>simp_all
 |some o=>
  rw[q]at e;have c:=Sb e;subst c
  simp_all
def Ta.pinned(I:Ta X a g H s)(h:∀ b∈c,xl X a H b)(i:∀ b∈c,∃ o,s.heap.get? b=BD o/\∀ v,o.data≠.cell v):Ta X (a++DE c s.heap) g H s:=
 I.Si λp j=>(Yd.mp j).elim (λz=>I.pin p$ Qa _ z) λz=>by
  obtain⟨f,e⟩:=X5 z;obtain⟨f0,l,m,_⟩:=h p.1 f;obtain⟨o,k,d⟩:=i p.1 f
  simp_all
def Ta.Mj(I:Ta X (a++pl) b H s):Ta X a b H s:=I.Si λp c=>I.pin p$ Qa _$ Pa _ c
def ZR(L:ij (model X.prog X.w) X.A X.env X.xe)(hc:X.gc=A3)(hi:PI X tg q wi)(hg:PG X tg g)(p:Bu X C tb)
  (hs:∀ x,ie q X.env x=pure x:=by intro _;rfl):PS X (.For tg q C [] ό)$ Š wi g tb:=by
 intro a s σ H D I h;refine wpAny_For (ud (hi a s σ H _ I h) λv s1 h1=>ud h1 λa2 s2 h2=>?_) hs;apply b_;intro z_;obtain⟨it,G,tn,ύ,H2,e,I2,T,a0,f2,W,⟨m0,w0⟩,R⟩:=h2;subst e;have t:∀ {B:Hp},(∀ b∈G,B b=L6)->∀ b∈G,xl X a B b:=λhn b p=>⟨hn b p,(f2 b p).2⟩
 apply z_;refine codeAny_forLoop_any (λn s'=>∃ i y B,Ta X a y B s'/\tn i s'.heap/\(∀ b∈G,B b=L6)/\W i n y B) ?_ m0 ⟨0,σ,H2,I2,a0,λb p=>(f2 b p).1,w0⟩;rintro n s3 ⟨i,z,S,I3,O,K,w3⟩;rcases R i n z S w3 with⟨Q,qn⟩|⟨go,N,hN,P⟩
 ·refine Se L (ud (T.done X rfl rfl rfl hc i a s3 z S X.xe I3 (t K) O Q) λr s4 ⟨V,I4⟩=>?_);subst V;exact fh ⟨z,S,I4,qn⟩
 ·refine Se L (ud (T.item X rfl rfl rfl hc i a s3 z S X.xe I3 (t K) O go) λr s4 ſ=>?_);obtain⟨u,V,h4⟩:=ſ;subst V;refine Se L (ud h4 λr s5 ſ=>?_);apply b_;intro z_;obtain⟨x,H5,I5,r5,y5,F,ϋ⟩:=ſ;apply z_;refine Se L (ud (hg _ s5 z H5 x u _ (I5.pinned (t ϋ)$ T.obj _ _ F) r5$ P x H5 y5) λr s6 ſ=>?_);obtain⟨a1,H6,I6,q6⟩:=ſ;refine Se L (ud (p _ s6 a1 H6 _ I6 q6) λf ϊ E=>?_);have l:∀ {c:St} {j:Hp},Ta X (a++DE G s5.heap) c j ϊ->N c j->∃ m,m<n/\∃ i y B,Ta X a y B ϊ/\tn i ϊ.heap/\(∀ b∈G,B b=L6)/\W i m y B:=fun {c j} k M=>by
   obtain⟨m',hm,w7⟩:=hN c j M;refine⟨m',hm,i+1,c,j,k.Mj,T.keep _ _ _ F λb p o e=>(k.pin (b,o)$ Qa _$ Qa _$ MJ p e).1,λb p=>?_,w7⟩;obtain⟨o,e,d⟩:=T.obj _ _ F b p;exact(k.pin (b,o)$ Qa _$ Qa _$ MJ p e).2.1
  cases f with
  |next=>obtain⟨c,j,k,M⟩:=E;exact l k M
  |cont=>obtain⟨c,j,k,M⟩:=E;exact l k M
  |brk=>obtain⟨c,j,k,E⟩:=E;exact⟨c,j,k.Mj,E⟩
  |ret v=>obtain⟨x7,c,j,k,r7,E⟩:=E;exact⟨x7,c,j,k.Mj,r7,E⟩
end
abbrev R2:=V->V->Hp->VK->Prop
def Ch(X:Cx)(f:Value->Value->Om Value)(r:R2):Prop:=
 ∀ a s σ H x y v u Q,Ta X a σ H s->gd x v->gd y u->r x y H Q->
  wpAny (model X.prog X.w) X.A (f v u) (EP X a σ Q) X.xe s
def lJ(X:Cx)(f:Value->Om Value)(r:V->Hp->VK->Prop):Prop:=
 ∀ a s σ H x v Q,Ta X a σ H s->gd x v->r x H Q->
  wpAny (model X.prog X.w) X.A (f v) (EP X a σ Q) X.xe s
def jm(X:Cx)(f:Value)(r:gV->Hp->VK->Prop):Prop:=
 ∀ a s σ H xs us Q,Ta X a σ H s->de xs us->r xs H Q->
  wpAny (model X.prog X.w) X.A (call f us) (EP X a σ Q) X.xe s
noncomputable def VB(r:R2)(d e:TE):TE:=λa H Q=>d a H λx b=>e a b λy c=>r x y c Q
def Ŧ(r:V->Hp->VK->Prop)(b:TE):TE:=λc H Q=>b c H λx a=>r x a Q
def rI(C:Int->Int->Prop)(g:Int->Int->V):R2:=λx y H Q=>∃ i j,x=.int i/\y=.int j/\C i j/\Q (g i j) H
noncomputable def Yq(g:Int->Int->V):R2:=λx y H Q=>∃ i j,x=.int i/\y=.int j/\Q (g i j) H
def rU(g:Int->V):V->Hp->VK->Prop:=λx H Q=>∃ i,x=.int i/\Q (g i) H
section
variable{X:Cx}{a b c:Ja}{ta tb tc:TE}{pos:Td}
def pP(m:PE X a ta)(n:PE X b tb){c}{R:V->V->Hp->Prop}(I:Ta X c e H s)
  (h:ta e H λx j=>tb e j λy d=>R x y d) {f:Value->Value->Om Value}
  (o:∀ v u s2 x y d,Ta X c e d s2->gd x v->gd y u->R x y d->wpAny (model X.prog X.w) X.A (f v u) Q X.xe s2) :
  wpAny (model X.prog X.w) X.A (Cb a X.env) (λv g=>wpAny (model X.prog X.w) X.A (Cb b X.env) (λu i=>wpAny (model X.prog X.w) X.A (f v u) Q X.xe i) X.xe g) X.xe s:=by
 exact ud (m c s e H _ I h) λv s1 ⟨x,j,k,r,p⟩=>(ud (n c s1 e j _ k p) λu s2 ⟨y,d,l,t,q⟩=>(o v u s2 x y d l r t q))
def o8(j:Ch X (je d) r)(g:PE X a ta)(i:PE X b tb):PE X (.BinOp a d b pos)$ VB r ta tb:=by
 intro c s m H Q I h;exact wpAny_BinOp (pP g i I h λv u s2 x y e f k l q=>j c s2 m e x y v u Q f k l q)
def D3{c}(g:lJ X (unaryOp c) r)(f:PE X a ta):PE X (.UnaryOp c a pos)$ Ŧ r ta:=by
 intro b s d H Q I h;exact UnaryOp_ (ud (f b s d H _ I h) λv s1 ⟨x,H1,e,j,i⟩=>g b s1 d H1 x v Q e j i)
def mI{g:Int->Int->Int}
  (a:∀ i j t u s Q E,C i j->Q (.int (g i j) s.toks) { s with toks:=s.toks+1 }->wpAny (model X.prog X.w) X.A (f (.int i t)$ .int j u) Q E s) :
  Ch X f (rI C λi j=>.int$ g i j):=by
 rintro b s h H x y v u Q I d e ⟨i,j,rfl,rfl,c,q⟩;obtain⟨t,rfl⟩:=d;obtain⟨t',rfl⟩:=e;exact a i j t t' s _ _ c ⟨.int _,H,I.tok _,⟨_,rfl⟩,q⟩
def yX{g:Int->Int->Int}
  (a:∀ i j t u s Q E,Q (.int (g i j) s.toks) { s with toks:=s.toks+1 }->wpAny (model X.prog X.w) X.A (f (.int i t)$ .int j u) Q E s) :
  Ch X f (Yq λi j=>.int$ g i j):=by
 rintro b s e H x y v u Q I c d ⟨i,j,rfl,rfl,q⟩;obtain⟨t,rfl⟩:=c;obtain⟨t',rfl⟩:=d;exact a i j t t' s _ _ ⟨.int _,H,I.tok _,⟨_,rfl⟩,q⟩
def YJ{g:Int->Int->Bool}
  (a:∀ i j t u s Q E,Q (.bool$ g i j) s->wpAny (model X.prog X.w) X.A (f (.int i t)$ .int j u) Q E s) :
  Ch X f (Yq λi j=>.bl$ g i j):=by
 rintro b s e H x y v u Q I c d ⟨i,j,rfl,rfl,q⟩;obtain⟨t,rfl⟩:=c;obtain⟨t',rfl⟩:=d;exact a i j t t' s _ _ ⟨.bl _,H,I,rfl,q⟩
def QZ(i j:Int):Prop:=0<j/\j<1073741824
def mW(i j:Int):Prop:=0<=j/\j<=1000000/\i.natAbs<2 ^ 64
def OH(i j:Int):Prop:=(-(2 ^ 64)<i/\i<2 ^ 64)\/(-(2 ^ 64)<j/\j<2 ^ 64)
def OH.ok(h:OH i j):IntMulOk i j:=by
 rcases h with⟨a,b⟩|⟨a,b⟩
 ·exact .of_left$ t0 a b
 ·exact .of_right$ t0 a b
def í:Ch X (je .Add) (Yq λi j=>.int$ i+j):=yX λa a a a a a a q=>add_int q
def ĺ:Ch X (je .Sub) (Yq λi j=>.int$ i - j):=yX λa a a a a a a q=>sub_int q
def M7:Ch X (je .Mult) (rI OH λi j=>.int$ i * j):=mI λb b b b b b b a q=>mul_int q a.ok
def U8:Ch X (je .FloorDiv) (rI QZ λi j=>.int$ i / j):=mI λi j d d d d d a q=>by
 have b:(0:Int)<j:=a.1;have c:j<1073741824:=a.2;exact floordiv_int ⋯ ⋯$ .inl$ PyProof.noPylong_small ⋯
def CK:Ch X (je .Mod) (rI (λb j=>0<j) λi j=>.int$ i % j):=mI λi j b b b b b a q=>by
 exact mod_int' ⋯ (by rw[Int.fmod_eq_emod_of_nonneg i ⋯];exact q)
def Y1:Ch X (je .Pow) (rI mW λi j=>.int$ i ^ j.toNat):=mI λb b b b b b b a q=>pow_int_small a.1 a.2.1 a.2.2 q
def unI{g:Int->Int}
  (a:∀ i t s Q E,Q (.int (g i) s.toks) { s with toks:=s.toks+1 }->wpAny (model X.prog X.w) X.A (f$ .int i t) Q E s) :
  lJ X f (rU λi=>.int$ g i):=by
 rintro b s d H x v Q I c ⟨i,rfl,q⟩;obtain⟨t,rfl⟩:=c;exact a i t s _ _ ⟨.int _,H,I.tok _,⟨_,rfl⟩,q⟩
def ē:lJ X (unaryOp .USub) (rU λi=>.int$ -i):=unI λd d d d d q=>neg_int q
end
section
variable{X:Cx}{a b c:Ja}{ta tb tc:TE}{pos:Td}
def YS{a}{c}{k b}(I:Ta X a c H s)(q:Q (.bl k) H)(e:k=b):EP X a c Q (.bool b) s:=by
 subst e;exact⟨.bl k,H,I,rfl,q⟩
def OI:Ch X (Eb .Lt) (Yq λi j=>.bl$ decide$ i<j):=YJ λa a a a a a a q=>lt_int q
def gE:Ch X (Eb .LtE) (Yq λi j=>.bl$ decide$ i<=j):=YJ λa a a a a a a q=>le_int q
def dS:Ch X (Eb .Gt) (Yq λi j=>.bl$ decide$ j<i):=YJ λa a a a a a a q=>gt_int q
def FL:Ch X (Eb .GtE) (Yq λi j=>.bl$ decide$ j<=i):=YJ λa a a a a a a q=>ge_int q
theorem OR:Ch X (Eb .Is) (λx y H Q=>y=.Lb/\Q (.bl$ decide$ x=.Lb) H):=by
 rintro a s d H x y v u Q I b c ⟨rfl,q⟩;cases c;refine is_none_gen$ YS I q ?_;cases x<;>first
  |(cases b;rfl)
  |(obtain⟨t,rfl⟩:=b;rfl)
theorem kZ:Ch X (Eb .IsNot) (λx y H Q=>y=.Lb/\Q (.bl$ !decide (x=.Lb)) H):=by
 rintro a s d H x y v u Q I b c ⟨rfl,q⟩;cases c;refine isnot_none_gen$ YS I q ?_;cases x<;>first
  |(cases b;rfl)
  |(obtain⟨t,rfl⟩:=b;rfl)
def Gn b{a}(h:a≠.In:=by decide)(e:a≠.NotIn:=by decide):Ud a b=Ŷ:=by
 have c:(a == kR)=Ŷ:=by cases a<;>first|rfl|exact absurd rfl h
 have d:(a == cE)=Ŷ:=by cases a<;>first|rfl|exact absurd rfl e
 cases b<;>simp[Ud,c,d]
def K9(k:Ch X (Eb d) r)(g:PE X a ta)(i:PE X b tb)(j:Ud d b=Ŷ):PE X (.Compare a [d] [b] pos)$ VB r ta tb:=by
 intro c s n H Q I h;exact wpAny_Compare1 (pP g i I h λv u s2 x y e f l m q=>k c s2 n e x y v u Q f l m q) j
noncomputable def K1(t:TE):TT:=λb H Q=>t b H λx a=>∃ k,x=.bl k/\Q k a
def WN(t:Ch X (Eb f) r)(o:PE X a ta)(p:PE X b tb)(q:Ud f b=Ŷ):PT X (.Compare a [f] [b] pos)$ K1$ VB r ta tb:=by
 intro d s g H Q I h;refine Ow (ud (o d s g H _ I h) λv s1 ⟨x,H1,l,C,w⟩=>ud (p d s1 g H1 _ l w) λu s2 ⟨y,i,m,D,A⟩=>
  ud (t d s2 g i x y v u _ m C D A) λc s3 ⟨z,j,n,E,k,e,B⟩=>?_) q
 subst e;cases E;exact Yc ⟨j,n,B⟩
noncomputable def Ē(r f:R2)(ta tb tc:TE):TE:=λa H Q=>ta a H λx c=>tb a c λy d=>r x y d λz b=>∃ k,z=.bl k/\
 (if k=A3 then tc a b λg e=>f y g e Q else Q (.bl Ŷ) b)
def N5(ύ:Ch X (Eb l) r)(j:Ch X (Eb g) p)(D:PE X a ta)(E:PE X b tb)(F:PE X c tc)
  (G:lastMarks [l,g] [b,c]=Ŷ:=by with_unfolding_all rfl):PE X (.Compare a [l,g] [b,c] pos)$ Ē r p ta tb tc:=by
 intro f s i H Q I h;refine Compare_chain (ud (D f s i H _ I h) λv s1 ⟨x,H1,A,N,K⟩=>chain_link (ud (E f s1 i H1 _ A K) λu s2 ⟨y,t,B,q,L⟩=>
  ud (ύ f s2 i t x y v u _ B N q L) λd s3 ⟨z,m,n,O,k,e,o⟩=>?_)) G
 subst e;cases O;refine Yc ?_;cases k with
 |false=>exact ite_ff ⟨.bl Ŷ,m,n,rfl,o⟩
 |true=>exact ite_tt$ chain_last (ud (F f s3 i m _ n o) λR s4 ⟨S,w,C,P,M⟩=>j f s4 i w y S u R Q C q P M)
def kJ: sizeLine <2 ^ 63:=by rw[sizeLine_eq];decide
def į:Ch X (je .Add) (λx y H Q=>∃ i j,x=.str i/\y=.str j/\i.length+j.length<=sizeLine/\Q (.str$ i++j) H):=by
 rintro a s e H x y v u Q I c d ⟨i,j,rfl,rfl,b,q⟩;obtain⟨t,rfl⟩:=c;obtain⟨t',rfl⟩:=d;exact add_str (λt' tk=>⟨.str _,H,I.tok _,⟨_,rfl⟩,q⟩) b
def Nq{a}(r:de [x] a):∃ u,a=[u]/\gd x u:=by
 cases r with
 |cons b c=>cases c;exact⟨_,rfl,b⟩
def aH{a}(r:de [x,y] a):∃ u b,a=[u,b]/\gd x u/\gd y b:=by
 cases r with
 |cons c d=>
  cases d with
  |cons e f=>cases f;exact⟨_,_,rfl,c,e⟩
def VZ(c:X.gc=A3):jm X (.builtin "max") (λxs H Q=>∃ i j,xs=[.int i,.int j]/\Q (.int$ if j > i then j else i) H):=by
 rintro b s f H xs d Q I r ⟨i,j,rfl,q⟩;obtain⟨u,e,rfl,⟨t,rfl⟩,⟨t',rfl⟩⟩:=aH r;refine max_two_ints (I.ok.hd c) λh' tk k=>⟨_,H,I.kept k,?_,q⟩
 by_cases a:j > i
 ·rw[ia a,ia a];exact⟨_,rfl⟩
 ·rw[qa a,qa a];exact⟨_,rfl⟩
end
structure Tq(h:Heap)(x dx C:Addr)(mA:Str->Option Value):Prop where
 obj:h.get? x=BD (W.instObj C dx)
 ns:h.Ns1 dx mA
 ne:dx≠x
set_option tactic.hygienic true in
def Ć{h:Heap}(n:h.Ns1 d f):∃ g,h.get? d=BD g/\∀ b,W.lookIn b g=BD (f b):=by
 obtain⟨o,i,p,l,hd,j,_,k⟩:=n;refine⟨o,l,λb=>?_⟩;have e:=k b;unfold nsFind findBy at e;rw[<-Array.find?_toList]at e;unfold W.lookIn;rw[hd];dsimp only;split
 ·rename_i y q
  rw[q]at e
  grind
 ·rename_i q
  rw[q]at e;have a:i.toList.any (·.refKey)=Ŷ:=by
   rw[Jv];intro y m;obtain⟨z,t,c⟩:=j y (Array.mem_toList_iff.mp m);simp[zaF,c]
  simp_all
def Tq.look(I:Tq h x c C d):∃ b,W.InstAt h x (W.instObj C c) C (BD b)/\∀ a,W.lookIn a b=BD (d a):=
 let ⟨b,f,e⟩:=Ć I.ns
 ⟨b,⟨I.obj,rfl,rfl,f⟩,e⟩
section
variable{prog:xa}{w:Ma}{A:Ia}{E:Value->Shared->Prop}{s:Shared}{K:W.Frag}{x dx C f:Addr}{mA:Str->Option Value}{name:Str}{v:Value}
def zu2(X:K.In s.heap)(I:Tq s.heap x dx C mA)(d:W.plainGet K C name=A3)(e:W.hasDictIn K C=A3)
  (c:W.findIn K (.ref C) name=BD L6) (g:mA name=BD v) (b:W.handedIn v=A3) (h:Q v { s with toks:=s.toks+1 }) :
  wpAny (model prog w) A (getAttr (.ref x) name a) Q E s:=by
 obtain⟨i,ύ,f⟩:=I.look;exact W.get_value X ύ (W.plainGet_of d).1 (W.findObj_own e c rfl$ by simp_all) b h
def j6(X:K.In s.heap)(I:Tq s.heap x dx C mA)(a:W.plainGet K C name=A3)
  (b:W.findIn K (.ref C) name=BD (BD$ .ref f)) (d:W.isFn K (.ref f)=A3) (e:mA name=L6) (h:Q (.ref f,[.ref x]) s) :
  wpAny (model prog w) A (Gh (.ref x) name pl) Q E s:=by
 obtain⟨g,ύ,c⟩:=I.look;exact W.method_fn X ύ (W.plainGet_of a).1 (W.plainGet_of a).2 b (Zg.mp d) (by show (W.lookIn name g).map (·.isSome)=BD Ŷ;rw[c,e];rfl) h
def ī(X:K.In s.heap)(I:Tq s.heap x dx C mA)
  (o:W.findIn K (.ref C) "__setattr__" = BD (BD$ .builtin "object.__setattr__")) (n:W.plainOver K C=A3) (q:W.takerIn K C name=BD L6) (m:W.hasDictIn K C=A3)
  (r:PySem.Within mA i) (p:i.length<=sizeLine)
  (h:∀ h',Tq h' x dx C (λy=>if y=name then BD v else mA y)->md dx s.heap h'->Q () { s with heap:=h',toks:=s.toks+2 }) :
  wpAny (model prog w) A (setAttr (.ref x) name v) Q E s:=by
 obtain⟨D,ύ,z⟩:=I.look;refine W.set_plain X ύ o (W.osa_open X ύ n q λb=>?_);apply b_;intro z_;obtain⟨u,l,e⟩:=W.any_some m;have t:=I.obj;apply z_;refine aa$ ga$ aa$ aa$ wpAny_loadPart t$ aa$ W.Looks.here (W.looks_clsIn X l) ?_;rw[e];refine ga$ aa$ ga$ aa (wpAny_nsSet1 I.ns λh' a c=>?_);obtain⟨B,k,j,g,f,d⟩:=a.count (cK name v r);exact aa$ wpAny_lookBehind g (by rw[f];exact pastItsLine_dict$ ub d ⋯)$ ga$ h _ ⟨(c.2 _$ Jd I.ne).trans I.obj,a,I.ne⟩ c
def x8(X:K.In s.heap)(i:W.makesIn K C=A3)
  (e:W.findIn K (.ref C) "__init__" = BD (BD$ .ref f)) (c:W.typeIn K (.ref f)=BD (.type "function"))
  (h:codeAny (model prog w) (A.under$ .builtin "type.__call__" ⟨.ref C::b,kw⟩) (.call (.ref f) ⟨.ref (s.heap.objs.size+1)::b,kw⟩) (W.InitBack (s.heap.objs.size+1) R)
   { s with heap:=(s.heap.push W.emptyDict).push (W.instObj C s.heap.objs.size) }) :
  codeAny (model prog w) A (.call (.ref C) ⟨b,kw⟩) R s:=by
 obtain⟨j,g,d,t,k⟩:=s;exact W.make_core (W.makes_of X i) (W.looks_findIn X e) (λa=>W.bind_fn X a c) (.inl rfl) h
end
noncomputable def Qm(f:Str)(v:V):List (Str × V)->List (Str × V)
 |[]=>[(f,v)]
 |(g,x)::r=>if g=f then (g,v)::r else (g,x)::Qm f v r
theorem qV(f g:Str)(v:V):∀ c:List$ Str × V,(Qm f v c).lookup g=if g=f then BD v else c.lookup g
 |[]=>by
  show List.lookup g [(f,v)]=_;by_cases h:g=f
  ·have a:(g == f)=A3:=Zg.mpr h;simp only[List.lookup,a,ia h]
  ·have a:(g == f)=Ŷ:=jd.mpr h;simp only[List.lookup,a,qa h]
 |(k,x)::r=>by
  rw[show Qm f v ((k,x)::r)=(if k=f then (k,v)::r else (k,x)::Qm f v r)from rfl];by_cases b:k=f
  ·rw[ia b];by_cases h:g=k
   ·have a:(g == k)=A3:=Zg.mpr h;simp only[List.lookup,a,ia$ h.trans b]
   ·have a:(g == k)=Ŷ:=jd.mpr h;simp[List.lookup,a,qa (λe:g=f=>h$ e.trans b.symm)]
  ·rw[qa b];by_cases h:g=k
   ·have a:=Zg.mpr h;simp only[List.lookup,a,qa (λe:g=f=>b$ h.symm.trans e)]
   ·have a:(g == k)=Ŷ:=jd.mpr h;simp[List.lookup,a];exact(qV f g v r)
theorem RQ(f:Str)(v:V):∀ a:List$ Str × V,f∈(Qm f v a).map (·.1)/\∀ g,g∈a.map (·.1)->g∈(Qm f v a).map (·.1)
 |[]=>⟨by simp[Qm],λg h=>by simp at h⟩
 |(k,x)::r=>by
  obtain⟨c,d⟩:=RQ f v r;rw[show Qm f v _=(if k=f then (k,v)::r else (k,x)::Qm f v r)from rfl];by_cases b:k=f
  ·rw[ia b]
   simp_all
  ·rw[qa b];refine⟨?_,λg h=>?_⟩
   ·rw[gb];exact ra _ c
   ·rw[gb]at h ⊢;rcases Fa.mp h with e|e
    ·exact Fa.mpr$ .inl e
    ·exact ra _$ d g e
theorem SW(f:Str)(v:V):∀ a:List$ Str × V,(Qm f v a).length<=a.length+1
 |[]=>by simp[Qm]
 |(k,x)::r=>by
  have c:=SW f v r;rw[show Qm f v _=(if k=f then (k,v)::r else (k,x)::Qm f v r)from rfl];by_cases b:k=f;all_goals simp_all
def xo.some_of(r:xo (BD v) o):∃ u,o=BD u/\gd v u:=by
 cases o with
 |none=>exact(r).elim
 |some u=>exact⟨u,rfl,r⟩
def xo.none_of(r:xo L6 o):o=L6:=by
 cases o with
 |none=>rfl
 |some u=>exact(r).elim
theorem t9(r:gd v u):W.handedIn u=A3:=by
 cases v with
 |Lb=>cases (r);rfl
 |bl b=>cases (r);rfl
 |int i=>obtain⟨t,e⟩:=(r);cases e;rfl
 |str x=>obtain⟨t,e⟩:=(r);cases e;rfl
 |CI b=>obtain⟨t,e⟩:=(r);cases e;rfl
 |BB b=>obtain⟨t,e⟩:=(r);cases e;rfl
 |ref a=>cases (r);rfl
 |ty n=>cases (r);rfl
section
variable{P:xa}{w:Ma}{H H':Hp}{h h':Heap}{a C dx:Addr}{fs fs':List$ Str × V}
def HH(c:Xh P w H h)(e:H a=BD (.jb C dx fs)):∃ b,Tq h a dx C b/\(∀ f,xo (fs.lookup f) (b f))/\PySem.Within b (fs.map (·.1))/\fs.length<=1000/\H dx=BD (.own a):=by
 obtain⟨d,z,g,ob,b,n,r,q⟩:=(c a _ e)
 exact⟨b,⟨ob,n,g⟩,r,q,z,d⟩
end
structure pr(K:W.Frag)(C:Addr):Prop where
 pg:W.plainGet K C Str.empty=A3
 hd:W.hasDictIn K C=A3
 po:W.plainOver K C=A3
 sa:W.findIn K (.ref C) "__setattr__" = BD (BD (.builtin "object.__setattr__"))
def pr.get{K}(c:pr K C) f:W.plainGet K C f=A3:=c.pg
def ly(K:W.Frag)(C:Addr)(f:Str):Prop:=W.findIn K (.ref C) f=BD L6
theorem ly.MF{K}(n:ly K C f):W.takerIn K C f=BD L6:=by
 unfold W.takerIn;rw[n];rfl
structure Cu(K:W.Frag)(C:Addr)(m:Str)(f:Addr):Prop where
 at_:W.findIn K (.ref C) m=BD (BD (.ref f))
 fn:W.isFn K (.ref f)=A3
 kp:W.keepIn K (.ref f)=A3
section
variable{X:Cx}{pins:List$ Addr × Obj}{σ:St}{H:Hp}{s:Shared}{a C dx:Addr}{fs:List$ Str × V}{f:Str}{v:V}{A:Ia}{E:Value->Shared->Prop}
def SS(I:Ta X pins σ H s)(e:H a=BD (.jb C dx fs))(c:pr X.K C)(n:ly X.K C f)(l:fs.lookup f=BD v)
  (h:∀ u g,Ta X pins σ H g->gd v u->Q u g):wpAny (model X.prog X.w) A (getAttr (.ref a) f b) Q E s:=by
 obtain⟨j,O,r,_,_,_⟩:=HH I.lc e;obtain⟨u,i,d⟩:=xo.some_of (by rw[<-l];exact r f);exact zu2 I.Ri O (c.get f) c.hd n i (t9 d)$ h u _ (I.tok _) d
def CM(I:Ta X pins σ H s)(e:H a=BD (.jb C dx fs))(c:pr X.K C)(k:Cu X.K C m g)(l:fs.lookup m=L6)
  (h:Q (.ref g,[.ref a]) s):wpAny (model X.prog X.w) A (Gh (.ref a) m pl) Q E s:=by
 obtain⟨d,O,r,_,_,_⟩:=HH I.lc e;have b:=xo.none_of (by rw[<-l];exact r m);exact j6 I.Ri O (c.get m) k.at_ k.fn b h
def DZ(I:Ta X pins σ H s)(e:H a=BD (.jb C dx fs))(c:pr X.K C)(n:ly X.K C f)(F:fs.length<1000)(B:gd y u)
  (h:∀ j,Ta X pins σ (Nb H a$ .jb C dx$ Qm f y fs) j->Q () j):wpAny (model X.prog X.w) A (setAttr (.ref a) f u) Q E s:=by
 apply b_;intro z_;obtain⟨v,O,r,k,_,i⟩:=HH I.lc e;have t:(fs.map (·.1)).length<=sizeLine:=by rw[Ra,sizeLine_eq];lia
 apply z_;refine ī I.Ri O c.sa c.po n.MF c.hd k t λh' d D=>h _ ?_;have hd:∃ o,h'.get? dx=BD o:=let ⟨o,_,_,l,_⟩:=d.ns;⟨o,l⟩;refine I.write (x:=a) (e:=dx) (by rw[e];exact True.intro) (.inr i) (λb q m z=>(D.2 b m).trans z) hd ?_;refine⟨by rw[Vd O.ne];exact i,?_,O.ne,d.obj,_,d.ns,λg=>?_,λg p=>?_⟩
 ·have:=SW f y fs;lia
 ·show xo ((Qm f y fs).lookup g) _;rw[qV];by_cases q:g=f
  ·rw[ia q,ia q];exact B
  ·rw[qa q,qa q];exact r g
 ·by_cases q:g=f
  ·rw[q];exact(RQ f y fs).1
  ·refine(RQ f y fs).2 g (k g λz=>p ?_);show (if g=f then BD u else v g)=L6
   simp_all
def Ta.made(I:Ta X pins σ H s):Ta X pins σ (Nb (Nb H s.heap.objs.size$ .own$ s.heap.objs.size+1) (s.heap.objs.size+1)$ .jb C s.heap.objs.size [])
  { s with heap:=(s.heap.push W.emptyDict).push (W.instObj C s.heap.objs.size) }:=by
 have a:(s.heap.push W.emptyDict).get? s.heap.objs.size=BD W.emptyDict:=za s.heap rfl;have d:((s.heap.push W.emptyDict).push$ W.instObj C s.heap.objs.size).get? (s.heap.objs.size+1)=BD (W.instObj C s.heap.objs.size):=by
  have:=za (s.heap.push W.emptyDict) (o:=W.instObj C s.heap.objs.size) rfl
  simp_all
 have f:(s.heap.push W.emptyDict).Ns s.heap.objs.size _:=⟨W.emptyDict,#[],_,a,rfl,(λe g=>absurd g ⋯),λb=>rfl⟩
 refine(I.laid (o:=.own _) (t':=s.toks) (λb u q=>da _ q) (pa _) ⟨_,a⟩).laid (λb u q=>da _ q) (IG$ Tc _ _) ?_;have c:s.heap.objs.size≠s.heap.objs.size+1:=va$ yb _;refine⟨by rw[Vd c,qf],Dh _,c,d,λb=>L6,(Heap.Ns1.of_empty f).at λo q=>da _ q,λb=>True.intro,λy h=>absurd rfl h⟩
def Ĉ{a}(g:Wc e f a (Cb e a)=Cb e a)
  (h:wpAny (model b w) A (Cb e a) (λo c=>wpAny (model b w) A (getAttr o f A3) Q E c) E s):wpAny (model b w) A (Cb (.Attribute e f d) a) Q E s:=
 Attribute_any_ h (by rw[arm_eval_Attribute,g])
end
def j9(K:W.Frag)(e:TE)(f:Str):TE:=λg H Q=>e g H λx b=>∃ a C d c v,x=.ref a/\b a=BD (.jb C d c)/\pr K C/\ly K C f/\c.lookup f=BD v/\Q v b
def N1(K:W.Frag)(h i:TE)(f:Str):TS:=λD c H=>i c H λy g=>h c g λx d=>∃ a C e b,x=.ref a/\d a=BD (.jb C e b)/\pr K C/\ly K C f/\b.length<1000/\
 D.nx c (Nb d a$ .jb C e$ Qm f y b)
def OS(X:Cx)(b:Kk)(rd:V->V->Hp->VK->Prop):Prop:=
 ∀ a s σ H x y u v Q,Ta X a σ H s->gd x u->gd y v->rd x y H Q->wpAny (model X.prog X.w) X.A (OG b u v) (EP X a σ Q) X.xe s
def zzn(K:W.Frag)(k l:TE)(rd:V->V->Hp->VK->Prop)(f:Str):TS:=λD d H=>k d H λx e=>∃ a C j h v,x=.ref a/\e a=BD (.jb C j h)/\pr K C/\ly K C f/\h.lookup f=BD v/\
 l d e λy i=>rd v y i λz g=>∃ c b,g a=BD (.jb C c b)/\b.length<1000/\D.nx d (Nb g a$ .jb C c$ Qm f z b)
section
variable{X:Cx}{o e value:Ja}{f:Str}{pos pos' tpos:Td}{ta tv:TE}
def w8(k:PE X e ta)(j:Wc e f X.env (Cb e X.env)=Cb e X.env):PE X (.Attribute e f pos)$ j9 X.K ta f:=by
 intro b s p H Q I h;refine Ĉ j (ud (k b s p H _ I h) λu s1 ſ=>?_);obtain⟨x,H1,d,o,a,C,r,t,v,ex,i,c,n,l,q⟩:=ſ;subst ex;obtain rfl:u=xb a:=o;exact SS d i c n l λw s2 g m=>⟨v,H1,g,m,q⟩
def O6(k:PE X o ta)(p:PE X value tv)(m:Hg value (BD$ .Attribute o f pos') pos.line X.env=pure Ŷ):PS X (.Assign [.Attribute o f pos'] value pos)$ N1 X.K ta tv f:=by
 intro b s d H D I h;refine plainObj_wpAny_Assign_Attribute (ud (p b s d H _ I h) λu s1 ⟨y,H1,e,w,q⟩=>ud (k b s1 d H1 _ e q) λr s2 ⟨x,z,g,v,a,C,A,B,ex,j,c,n,l,t⟩=>?_) m;subst ex;obtain rfl:r=xb a:=v;exact DZ g j c n l w λE i=>⟨d,_,i,t⟩
def Ŝ(E:PE X o ta)(F:PE X value tv)(g:OS X i rd):PS X (.AugAssign (.Attribute o f tpos) i value pos)$ zzn X.K ta tv rd f:=by
 intro b s d H D I h;refine wpAny_AugAssign_AttributeAny (ud (E b s d H _ I h) λύ s1 ſ=>?_);apply b_;intro z_;obtain⟨x,H1,k,O,a,C,T,ϋ,v,ex,A,c,n,l,q⟩:=ſ;subst ex;obtain rfl:ύ=xb a:=O;apply z_;exact SS k A c n l λu s2 m N=>ud (F b s2 d H1 _ m q) λR s3 ⟨y,j,p,P,L⟩=>ud (g b s3 d j v y u R _ p N P L) λό s4 ⟨z,S,r,Q,w,B,e,G,M⟩=>(DZ r e c n G Q λW t=>⟨d,_,t,M⟩)
def û:V->V->Hp->VK->Prop:=λx y H Q=>∃ i j,x=.int i/\y=.int j/\Q (.int$ i+j) H
def Ο:OS X .Add û:=by
 rintro a s d H x y u v Q I b c ⟨i,j,rfl,rfl,q⟩;obtain⟨t,rfl⟩:=(b)
 obtain⟨t',rfl⟩:=(c)
 exact fK ⟨.int _,H,I.tok _,⟨_,rfl⟩,q⟩
end
section
variable{X:Cx}{pins:List$ Addr × Obj}{σ:St}{H:Hp}{s:Shared}{A:Ia}{E:Value->Shared->Prop}{Q:Value->Shared->Prop}{c:Value}{b:Bool}
inductive sk(K:W.Frag)(H:Hp):V->Value->Prop where
 |Lb:sk K H .Lb (.type "NoneType")
 |bl (x:Bool):sk K H (.bl x) (.type "bool")
 |int (i:Int):sk K H (.int i) (.type "int")
 |str (x:Str):sk K H (.str x) (.type "str")
 |BB (x:UInt64):sk K H (.BB x) (.type "float")
 |na {a:Addr} {xs:gV} (e:H a=BD (.na xs)):sk K H (.ref a) (.type "list")
 |Oc {a:Addr} {o:Obj} {xs:gV} (e:H a=BD (.Oc o (.na xs))):sk K H (.ref a) (.type "list")
 |Ha {a:Addr} {xs:gV} (e:H a=BD (.Ha xs)):sk K H (.ref a) (.type "tuple")
 |dK {a:Addr} {kvs:List (Nc × V)} (e:H a=BD (.dK kvs)):sk K H (.ref a) (.type "dict")
 |dT {a:Addr} {kvs:List (TK × V)} (e:H a=BD (.dT kvs)):sk K H (.ref a) (.type "dict")
 |jb {a C dx:Addr} {fs:List (Str × V)} (e:H a=BD (.jb C dx fs)) (cl:pr K C) (ha:W.findIn K (.ref C) "__class__" = BD (BD (.builtin "object.__class__")))
   (hn:W.specialIn K (.builtin "object.__class__") "__get__" = BD (BD (.builtin "getset_descriptor.__get__"))) (htk:W.takesIn K (.builtin "object.__class__")=BD A3)
   (hm:W.mroIn K C (.type "object")=BD A3):sk K H (.ref a) (.ref C)
def hZ(I:Ta X pins σ H s)(f:gd x u)(ty:sk X.K H x t)(e:W.kitOne X.K t c=BD b)(h:∀ tk,Q (.bool b) { s with toks:=tk }) :
  wpAny (model X.prog X.w) A (call (.builtin "isinstance") [u,c]) Q E s:=by
 cases ty with
 |Lb=>cases (f);exact W.kia_one W.kitx_none I.Ri True.intro e (λz=>nomatch z) h
 |bl y=>cases (f);exact W.kia_one W.kitx_bool I.Ri True.intro e (λz=>nomatch z) h
 |int i=>obtain⟨t,q⟩:=(f);cases q;exact W.kia_one W.kitx_int I.Ri True.intro e (λz=>nomatch z) h
 |str y=>obtain⟨t,q⟩:=(f);cases q;exact W.kia_one W.kitx_str I.Ri True.intro e (λz=>nomatch z) h
 |BB y=>obtain⟨t,q⟩:=(f);cases q;exact W.kia_one W.kitx_float I.Ri True.intro e (λz=>nomatch z) h
 |@na a xs d=>
  apply b_;intro z_;cases (show u=xb a from f);obtain⟨_,_,n,_,g⟩:=(I.lc a _ d)
  apply z_;exact W.kia_one W.kitx_list I.Ri ⟨_,g,rfl⟩ e (λz=>nomatch z) h
 |@Oc a L xs d=>
  cases (f);obtain⟨_,_,_,n,_,g⟩:=(I.lc a _ d)
  exact W.kia_one W.kitx_list I.Ri ⟨_,g,rfl⟩ e (λz=>nomatch z) h
 |@Ha a xs d=>
  apply b_;intro z_;cases (f);obtain⟨_,_,_,p⟩:=(I.lc a _ d)
  apply z_;obtain⟨o,g,j,_⟩:=p;exact W.kia_one W.kitx_tuple I.Ri ⟨o,g,j⟩ e (λz=>nomatch z) h
 |@dK a l d=>
  cases (f);obtain⟨_,_,N,_,p⟩:=(I.lc a _ d)
  obtain⟨o,r,m,g,j,_⟩:=p;exact W.kia_one W.kitx_dict I.Ri ⟨o,g,j.1⟩ e (λz=>nomatch z) h
 |@dT a l d=>
  cases (show u=xb a from f);obtain⟨_,_,xs,_,o,r,m,g,j,_⟩:=(I.lc a _ d)
  exact W.kia_one W.kitx_dict I.Ri ⟨o,g,j.1⟩ e (λz=>nomatch z) h
 |@jb a C D F d cl v B k hm=>
  cases (f);obtain⟨G,O,_⟩:=HH I.lc d;obtain⟨M,ύ,_⟩:=O.look;exact W.kia_one (W.kitx_own (cl.get _) cl.hd v B k hm) I.Ri ύ e (λz=>nomatch z) h
end
structure yd(k:Nat)(A:Ia):Prop where
 hd:A.handled=L6
 dp:A.depth+3 * k+5<recursionLimit
 un:A.units+16 * k+200<cLine
def yd.mono(r:yd k A)(h:j<=k):yd j A:=⟨r.hd,by have:=r.dp;lia,by have:=r.un;lia⟩
def yd.deeper(r:yd (k+1) A) a:yd k$ A.deeper a:=
 ⟨r.hd,by have:=r.dp;show A.depth+1+3 * k+5<_;lia,by have:=r.un;show A.units+3+16 * k+200<_;lia⟩
def yd.in1(r:yd (k+1) A):yd k A.in1:=
 ⟨r.hd,by have:=r.dp;show A.depth+3 * k+5<_;lia,by have:=r.un;show A.units+1+16 * k+200<_;lia⟩
theorem N4{A:Ia}:(A.under$ .builtin "type.__call__" ⟨.ref C::a,kw⟩).depth=A.depth+1:=by
 rfl
theorem O2{A:Ia}:(A.under$ .builtin "type.__call__" ⟨.ref C::a,kw⟩).units=A.units+1:=by
 rfl
def yd.make(r:yd (k+1) A) C a kw:yd k$ A.under$ .builtin "type.__call__" ⟨.ref C::a,kw⟩:=
 ⟨r.hd,by have:=r.dp;rw[N4];lia,by have:=r.un;rw[O2];lia⟩
def yd.depth(r:yd k A):A.depth<recursionLimit:=by have:=r.dp;lia
noncomputable def xaj:TA:=λa H Q=>Q [] H
noncomputable def ysx(d:TE)(e:TA):TA:=λa H Q=>d a H λx b=>e a b λxs c=>Q (x::xs) c
section
variable{X:Cx}{e:Ja}{es:List Ja}{te:TE}{t:TA}{pos:Td}
def Nt:PA X [] xaj:=λa a a a H Q I h=>Calls.spliced_nil ⟨[],H,I,.nil,h⟩
def yr(g:PE X e te)(i:PA X es t)(j:ka (e::es) X.env=(Ŷ,Cb e X.env)::ka es X.env:=by rfl):PA X (e::es)$ ysx te t:=by
 intro pos a s b H Q I h;rw[j];exact Calls.spliced_cons (ud (g a s b H _ I h) λu s1 ⟨x,H1,d,m,k⟩=>(ud (i pos a s1 b H1 _ d k) λus s2 ⟨xs,c,f,n,l⟩=>⟨x::xs,c,f,.cons m n,l⟩))
def Ġ(t:TA):TE:=λb H Q=>t b H λxs a=>xs.length<=sizeLine/\∀ p,a p=L6->Q (.ref p) (Nb a p$ .Ha xs)
def t4(t:TA):TE:=λb H Q=>t b H λxs a=>xs.length<=sizeLine/\∀ p,a p=L6->Q (.ref p) (Nb a p$ .na xs)
def w4{x1}(h:PA X es t):PE X (.Tuple es x1 pos)$ Ġ t:=by
 intro a s g H Q I f;refine wpAny_Tuple_spliced (ud (h pos a s g H _ I f) λus s1 ⟨xs,H1,c,r,z,q⟩=>⟨by rw[<-r.length];exact z,?_⟩);have d:=c.lc.fresh$ pa _;refine⟨.ref s1.heap.objs.size,Nb H1 s1.heap.objs.size _,c.laid (λb u e=>da _ e) (pa _) ?_,rfl,q _ d⟩;exact⟨z,us,r,⟨_,za _ rfl,rfl,_,rfl⟩⟩
def oY(h:PA X es t):PE X (.List es pos)$ t4 t:=by
 intro a s g H Q I f;refine wpAny_List_spliced (ud (h pos a s g H _ I f) λus s1 ⟨xs,H1,c,r,z,q⟩=>⟨by rw[<-r.length];exact z,?_⟩);have d:=c.lc.fresh$ pa _;refine⟨.ref s1.heap.objs.size,Nb H1 s1.heap.objs.size _,c.laid (λb u e=>da _ e) (pa _) ?_,rfl,q _ d⟩;exact⟨z,us,0,r,za _ rfl⟩
end
abbrev Sp:=gV->Hp->VK->XK->Prop
abbrev Aw:=List qg->Hp->Shared->XK->Value->Shared->Prop
structure wr(P:xa)(w:Ma)(K:W.Frag)(mg:Str->Option Value)(base:Heap)(A:Ia)(outer:List qg)(s:Shared)(H:Hp):Prop where
 frames:A.frames=BD outer
 mod:Mod K mg base
 bs:∀ b o,base.get? b=BD o->s.heap.get? b=BD o/\H b=L6
 Wu:base.objs.size<=s.heap.objs.size
 Ak:s.heap.FunFrames base outer
 Ny:∀ b∈dk outer,H b=L6
 lc:Xh P w H s.heap
 bare:Ah s.gens
def CE(a:List qg)(P:xa)(w:Ma)(H:Hp)(s:Shared)(Q:VK)(u:Value)(b:Shared):Prop:=
 ∃ v c,b.os=s.os/\Ah b.gens/\Un (dk a) [] H c s.heap b.heap/\Xh P w c b.heap/\gd v u/\Q v c
def CR(c:Aw)(a:List qg)(P:xa)(w:Ma)(H:Hp)(s:Shared)(Q:VK)(E:XK)(r:No)(b:Shared):Prop:=
 match r with
 | .ok (.ret u)=>CE a P w H s Q u b
 | .ok _=>False
 | .error e=>c a H s E e b
structure qh(P:xa)(w:Ma)(K:W.Frag)(mg:Str->Option Value)(base:Heap)(CX:Aw)(k:Nat)(f:Addr)(fd:df)(ps:ac)(sp:Sp):Prop where
 len:∀ vs H Q E,sp vs H Q E->vs.length=ps.length
 dh:∀ (A:Ia) (outer:List qg) (s:Shared) (H:Hp) (args:Args) (us:b') (vs:gV) (Q:VK) (E:XK),yd k A->wr P w K mg base A outer s H->Me s fd args (ps.zip us)->de vs us->sp vs H Q E->
  codeAny (model P w) A (.call (.ref f) args) (CR CX outer P w H s Q E) s
def qh.mono{K}(F:qh P w K g a d j f e ps i)(h:j<=k) :
  qh P w K g a d k f e ps i:=⟨F.len,λA b s H c m n Q E l=>F.dh A b s H c m n Q E$ l.mono h⟩
def qh.imp{K}(F:qh P w K i base e k f g ps j)
  (h:∀ b H Q E,d b H Q E->j b H Q E):qh P w K i base e k f g ps d:=
 ⟨λb H Q E q=>F.len b H Q E$ h _ _ _ _ q,λA a s H c r b Q E n m l p o=>F.dh A a s H c r b Q E n m l p$ h _ _ _ _ o⟩
def wr.make{K}(e:wr P w K c b A a s H) C d kw :
  wr P w K c b (A.under$ .builtin "type.__call__" ⟨.ref C::d,kw⟩) a s H:=⟨by first|exact e.frames|(simpa using e.frames),e.mod,e.bs,e.Wu,e.Ak,e.Ny,e.lc,e.bare⟩
section
variable{X:Cx}{pins:List$ Addr × Obj}{σ:St}{H:Hp}{s s':Shared}
def Ta.qF(I:Ta X pins σ H s):wr X.prog X.w X.K X.mg X.base X.A X.stack s H:=
 ⟨I.ok.frames,I.ok.mod,I.bs,ub I.ok.Wu I.sz,I.stack,I.Ej,I.lc,I.bare⟩
def Ta.after(I:Ta X pins σ H s)(h:CE X.stack X.prog X.w H s Q u s'):EP X pins σ Q u s':=by
 obtain⟨v,f,i,a,j,c,r,q⟩:=h;obtain⟨k,g,d,t,e⟩:=s';obtain rfl:e=s.os:=i;exact⟨v,f,I.call j c a (λb z=>absurd z ⋯),r,q⟩
end
def Vr(K:W.Frag)(c:df)(b:ac)(a:b'):Prop:=
 ∀ s us,K.In s.heap->(us++a).length=b.length->Me s c ⟨us,[]⟩ (b.zip$ us++a)
def Vr.all{K}(h:∀ a:b',a.length=b.length->bindArgs c ⟨a,[]⟩=pure (b.zip a)):Vr K c b []:=λs a g d=>by
 rw[kf]at d ⊢;exact .of_eq$ h a d
section
variable{X:Cx}{CX:Aw}{k:Nat}{f C:Addr}{fd:df}{ps:ac}{sp:Sp}{dvs:gV}{ds:b'}{E:XK}{x m:Str}{p pos apos:Td}{e o:Ja}{es:List Ja}{ta:TE}{t:TA}
structure Mk(K:W.Frag)(C f:Addr):Prop where
 makes:W.makesIn K C=A3
 init:W.findIn K (.ref C) "__init__" = BD (BD (.ref f))
 fn:W.isFn K (.ref f)=A3
 kp:W.keepIn K (.ref C)=A3
end
structure rc(N P:ac)(sc:Scope):Prop where
 kind:sc.kind=.function
 co:sc.isCoroutine=Ŷ
 gen:sc.isGenerator=Ŷ
 nd:N.Nodup
 pre:N.take P.length=P
 par:∀ x∈P,sc.names.lookup x=BD .local\/sc.names.lookup x=BD .cell
 MA:∀ y∈sc.names,y.2≠.free
theorem HY{b:Str->Option Ae}{x:Str}:∀ {a:List$ Str × Value} {m:Str->Option Value},(∀ v,(x,v) ∉ a)->wu b a m x=m x
 |[],_,_=>rfl
 |(n,v)::r,m,h=>by
  unfold wu;rw[HY λw c=>h w$ ra _ c];split
  ·have:x≠n:=by rintro rfl;exact h v ya
   simp_all
  ·rfl
theorem tV{b:Str->Option Ae}{x:Str}:∀ {a:List$ Str × Value} {m:Str->Option Value},(∀ v,(x,v) ∉ a)->xu b a m x=m x
 |[],_,_=>rfl
 |(n,v)::r,m,h=>by
  unfold xu;rw[tV λw c=>h w$ ra _ c];split
  ·rfl
  ·have:x≠n:=by rintro rfl;exact h v ya
   simp_all
theorem PU{a:Str->Option Ae}{x:Str}{v:Value}:∀ {P:ac} {b:b'} {i:Nat} {m:Str->Option Value},P.Nodup->P[i]?=BD x->b[i]?=BD v->a x=BD .local->
  wu a (P.zip b) m x=BD v
 |[],_,_,_,_,h,_,_=>by simp at h
 |_::_,[],_,_,_,_,h,_=>by simp at h
 |p::P,w::b,0,m,f,c,d,e=>by
  simp at c d;subst c;subst d;show wu a ((p,w)::P.zip b) m p=_;unfold wu;rw[HY λv g=>(lf.mp f).1 (Hm g).1,ia e];simp
 |p::P,w::b,i+1,m,f,c,d,e=>by
  show wu a _ m x=_;unfold wu;exact PU (i:=i) (lf.mp f).2 (by simpa using c) ⋯ e
theorem YV{a:Str->Option Ae}{x:Str}{v:Value}:∀ {P:ac} {b:b'} {i:Nat} {m:Str->Option Value},P.Nodup->P[i]?=BD x->b[i]?=BD v->a x≠BD .local->
  xu a (P.zip b) m x=BD v
 |[],_,_,_,_,h,_,_=>by simp at h
 |_::_,[],_,_,_,_,h,_=>by simp at h
 |p::P,w::b,0,m,f,c,d,e=>by
  simp at c d;subst c;subst d;show xu a ((p,w)::P.zip b) m p=_;unfold xu;rw[tV λv g=>(lf.mp f).1 (Hm g).1,qa e];simp
 |p::P,w::b,i+1,m,f,c,d,e=>by
  show xu a _ m x=_;unfold xu;exact YV (i:=i) (lf.mp f).2 ⋯ ⋯ e
noncomputable def Iw(N:ac)(a:gV):St:=a.map BD++List.replicate (N.length - a.length) L6
noncomputable def Up(g:Aw)(P:xa)(w:Ma)(K:W.Frag)(mg:Str->Option Value)(base:Heap)(N:ac)(b:Str)(a:Scope)(f:Addr)(d:Value)(A:Ia)(outer:List qg)(s:Shared)(H:Hp)(E:XK):Cx where
 prog:=P
 w:=w
 K:=K
 mg:=mg
 base:=base
 A:=A.deeper (eg b a s.heap.objs.size f d)
 N:=N
 s₀:=s
 H₀:=H
 env:=eg b a s.heap.objs.size f d
 outer:=outer
 stack:=eg b a s.heap.objs.size f d::outer
 ex:=[]
 gc:=A3
 fn:=λj=>A3
 pn:=[]
 xe:=λe i=>wpAny (model P w) (A.deeper$ eg b a s.heap.objs.size f d) (leaving (eg b a s.heap.objs.size f d) e) (λj c=>g outer H s E e c) (λh c=>g outer H s E h c) i
def RY{sc:Scope}(h:sc.names.lookup x=BD .cell):∃ c,(RG n sc.names []).lookup x=BD c:=by
 exact ae.mp$ W.cellsFrom_some sc.names n []$ .inl h
def Ŭ{K}
  (S:rc N ps a) (hd:A.handled=L6) (j:wr P w K I base A d s H) (X:t.length=ps.length) (r:de t ύ)
  (x:InCallC s s.heap.objs.size (wu (eg g a s.heap.objs.size f D).kindOf (ps.zip ύ) λJ=>L6) (RG (s.heap.objs.size+1) a.names []) (xu (eg g a s.heap.objs.size f D).kindOf (ps.zip ύ) λJ=>L6) s1) :
  Ta (Up L P w K I base N g a f D A d s H E) [] (Iw N t) H s1:=by
 have R:ps.length<=N.length:=by have:=Ab List.length S.pre;rw[ci]at this;lia
 obtain⟨F,tk,rfl,M⟩:=x.done;have o:∀ b:Addr,b ∉ (Up L P w K I base N g a f D A d s H E).ex:=λb z=>absurd (show b∈([]:ad)from z) ⋯;refine⟨⟨j.mod,S.kind,rfl,rfl,pa _,λy z c F l=>?_,λy m=>?_,λy c J h=>?_,λJ=>hd,Hq j.frames,.inr ⟨rfl,rfl⟩,λb z=>absurd z$ o b,j.bs,j.Wu,λb J J=>o b,λb z=>absurd z$ o b,j.Ak,j.Ny⟩,
  rfl,j.bare,Un.kept M,⟨_,x.toInCall.ns,λi y v F l ϋ=>?_⟩,λy c h=>⟨_,x.cell y c h⟩,j.lc.fresh$ pa _,λy c h=>?_,λp B=>absurd (show p∈([]:em)from B) ⋯,j.lc.kept M,?_⟩
 ·exact name_of_addr x.apart (ee F)$ ee l
 ·have m:a.names.lookup y=BD .cell\/a.names.lookup y=BD .free:=m;rcases m with m|m
  ·exact RY m
  ·exact absurd rfl$ S.MA _$ ee m
 ·exact Ed$ x.above y c$ ee h
 ·have G:i<t.length:=by
   unfold Iw at l;by_cases G:i<t.length
   ·exact G
   ·rw[pc (by simpa using G)]at l;rw[fq]at l
    simp_all
  have Q:t[i]?=BD v:=by
   unfold Iw at l;rw[Xa (by simpa using G),Na]at l
   grind
  obtain⟨u,O,T⟩:=r.get Q;have B:ps[i]?=BD y:=by
   rw[<-S.pre,jp ⋯];exact F
  have C:ps.Nodup:=by rw[<-S.pre];exact S.nd.sublist$ jl _ _
  refine⟨u,T,?_⟩;rcases S.par y (wa B)with k|k
  ·exact .inl ⟨k,PU C B O k⟩
  ·obtain⟨c,e⟩:=RY (n:=s.heap.objs.size+1) k;refine .inr ⟨.inl k,c,e,?_⟩;have q:=x.cell y c e;rw[YV C B O (by show a.names.lookup y≠_;rw[k];decide)]at q;exact q
 ·exact j.lc.fresh$ Ed$ x.above y c$ ee h
 ·unfold Iw;show _=N.length;rw[Ic,Ra,List.length_replicate]
  lia
def yn9{K:W.Frag}{dV kV D pm g ct oc}{an od} (lk:K.lookup f=BD ⟨oc,od,.func$ W.fnOf p d h i a dV kV D pm an g ct,ό⟩) (T:W.codeIn K g d=A3) (S:rc N ps a)
  (M:∀ j H Q E,sp j H Q E->j.length=ps.length)
  (z:∀ A c s H j Q E,yd k (A.deeper$ eg d a s.heap.objs.size f g)->sp j H Q E->
   ∃ t,Bu (Up O P w K R base N d a f g A c s H E) i t/\t { nx:=λJ m=>Q .Lb m,rt:=Q } (Iw N j) H) :
  qh P w K R base O (k+1) f (W.fnOf p d h i a dV kV D pm an g ct) ps sp:=by
 refine⟨M,λA c s H a0 us j Q E ϋ F hb r L=>?_⟩;have KX:K.In s.heap:=F.mod.Cw.keeps λb o e=>(F.bs b o e).1;have X:s.heap.NoLimit:=F.mod.nolimit.keeps λb o e=>(F.bs b o e).1;have B:∀ y∈ps.zip us,a.names.lookup y.1=BD .local\/(a.names.lookup y.1=BD .cell/\((RG (s.heap.objs.size+1) a.names []).lookup y.1).isSome=A3):=λ⟨n,v⟩ hy=>by
  rcases S.par n (Hm hy).1 with q|q
  ·exact .inl q
  ·exact .inr ⟨q,W.cellsFrom_some _ _ _$ .inl q⟩
 refine codeAny_call_function ϋ.depth (KX _ _ lk) rfl S.co S.gen rfl (W.codeRec_of KX T)$ hb _ _ _ _ (wpAny_newFunctionEnv_cells S.kind B λa1 he s1 x=>?_);subst he;refine⟨X.keeps x.toInCall.keep,codeAny_func ?_⟩;obtain⟨t,ht,hq⟩:=z A c s H j Q E (ϋ.deeper _) L;have I:Ta (Up O P w K R base N d a f g A c s H E) [] (Iw N j) H s1:=Ŭ S ϋ.hd F (M _ _ _ _ L) r x;refine dc (ht [] s1 (Iw N j) H _ I hq) (λfl s' C=>?_) λe s' C=>C;have G:∀ {l:St} {m:Hp} {v:V} {u:Value},Ta (Up O P w K R base N d a f g A c s H E) [] l m s'->gd v u->Q v m->CE c P w H s Q u s':=
  fun {l m v u} ύ ϊ q=>⟨v,m,ύ.os,ύ.bare,ύ.base,ύ.lc,ϊ,q⟩
 cases fl with
 |ret u=>
  apply b_;intro z_;obtain⟨v,l,m,ύ,ϊ,q⟩:=C;apply z_;exact G ύ ϊ q
 |next=>
  apply b_;intro z_;obtain⟨l,m,ύ,q⟩:=C;apply z_;exact G (v:=V.Lb) (u:=Yb) ύ rfl q
 |brk=>
  obtain⟨_,_,_,q⟩:=C;exact False.elim q
 |cont=>
  obtain⟨_,_,_,q⟩:=C;exact False.elim q
section
variable{X:Cx}{x:Str}{p pos:Td}{e:Ja}{es:List Ja}{t:TA}{id T:String}{r:gV->Hp->VK->Prop}
def rL(r:gV->Hp->VK->Prop)(t:TA):TE:=λc H Q=>t c H λb a=>r b a Q
def dG(i:jm X (.builtin id) r)(k:Gl X x)(l:X.mg x=L6)(n:bootBuiltins x=BD (.builtin id))(g:PA X (e::es) t)(m:x ≠ "__name__":=by decide)(b:(x == ("__debug__" : Str))=Ŷ:=by decide)
  (j:ka (e::es) X.env=(Ŷ,Cb e X.env)::ka es X.env:=by rfl) (c:(Ub pos$ ka es X.env).any (·.1)=Ŷ:=by rfl):PE X (.Call (.Name x p) (e::es) [] pos)$ rL r t:=by
 intro a s d H Q I h;exact Ke$ Cy I k l n (iK (ud (g pos a s d H _ I h) λus s1 ⟨u,H1,f,q,o⟩=>i a s1 d H1 u us Q f q o) j c) m b
def rE(i:jm X (.type T) r)(k:Gl X x)(l:X.mg x=L6)(n:bootBuiltins x=BD (.type T))(g:PA X (e::es) t)(m:x ≠ "__name__":=by decide)(b:(x == ("__debug__" : Str))=Ŷ:=by decide)
  (j:ka (e::es) X.env=(Ŷ,Cb e X.env)::ka es X.env:=by rfl) (c:(Ub pos$ ka es X.env).any (·.1)=Ŷ:=by rfl):PE X (.Call (.Name x p) (e::es) [] pos)$ rL r t:=by
 intro a s d H Q I h;exact Ke$ Cy I k l n (pe (ud (g pos a s d H _ I h) λus s1 ⟨u,H1,f,q,o⟩=>i a s1 d H1 u us Q f q o) j c) m b
end
end L2
namespace HT
section
open PySem.SeqAt
open PySem.AutoSeq1 (wpAny_loadPart')
open PySem.MeetsSeq PySem.MeetsSeq2 PySem.MeetsSeq3
end
section
variable{prog:xa}{w:Ma}{A:Ia}{E:Value->Shared->Prop}{s:Shared}
def Zw(u:IsTup s.heap t c.toArray)(p:IsTup s.heap b ws.toArray)(v:c≠[])
  (o:ws=[]->Q (.ref t) s) (y:ws≠[]->Q (.ref s.heap.objs.size) { s with heap:=s.heap.push { cls:=.type "tuple",data:=.seq (c++ws).toArray } })
  (r:c.length+ws.length<=sizeLine):wpAny (model prog w) A (je .Add (.ref t)$ .ref b) Q E s:=by
 obtain⟨⟨cls,k,data,m⟩,f,q,n,hd⟩:=id u;obtain⟨⟨j,d,g,e⟩,a,h,l,i⟩:=id p;subst q hd h i;by_cases x:ws=[]
 ·exact Lv ⟨_,f,rfl⟩ ⟨_,a,rfl⟩ Jo At Nh vh (gh _ _)
   (tuple_addW1 t b c.toArray ws.toArray n l k d m e (by simpa using v)$ by grind) ⟨f,a,o x⟩
 ·refine Lv ⟨_,f,rfl⟩ ⟨_,a,rfl⟩ Jo At Nh vh (gh _ _)
   (tuple_addW2 t b c.toArray ws.toArray n l k d m e ⋯ ⋯$ by simp_all) ⟨f,a,?_⟩
  simp_all
noncomputable def Te(n d:Nat):Option Int->Nat
 |none=>d
 |some v=>if v<0 then (v+(n:Int)).toNat else min v.toNat n
def Ρ n d(hd:d<=n) o:Te n d o<=n:=by
 cases o with
 |none=>exact hd
 |some v=>
  show (if v<0 then (v+(n:Int)).toNat else min v.toNat n)<=n;all_goals grind
def tX v(n d:Nat):(if v<0 then max (v+(n:Int)) 0 else min v n)=((Te n d (BD v):Nat):Int):=by
 show (if v<0 then max _ 0 else min v n)=(if v<0 then (v+n).toNat else min v.toNat n)
 grind
def Ċ lo a(n:Nat):fg lo a 1 n =(((Te n 0 lo:Nat):Int),(Te n n a:Int)):=by
 have b:¬ ((1:Int)<0):=by lia
 unfold fg;simp only[b,lp];refine A0 ?_ ?_
 ·cases lo with
  |none=>rfl
  |some v=>exact tX v n 0
 ·cases a with
  |none=>rfl
  |some v=>exact tX v n n
def R3(i j:Nat):gg i j 1=j - i:=by
 unfold gg;simp;split<;>lia
def OZ(p:Lk v o)(h:Q o s):wpAny (model prog w) A (SG v) Q E s:=by
 cases p with
 |none=>exact YQ h
 |int i t=>exact slicePart_int h
def NU{lo c}{n:Nat}(i:s.heap.IsSliceOf d e f .none)(pl:Lk e lo)(j:Lk f c)
  (h:Q (((Te n 0 lo:Nat):Int),1,Te n n c - Te n 0 lo) s):wpAny (model prog w) A (UG (.ref d)$ pure n) Q E s:=by
 obtain⟨k,b,g,a⟩:=id i;refine aa$ aa$ Fk b a rfl$ aa$ Fk b a rfl$ aa$ Fk b a rfl$ ga$ aa$ YQ ?_;refine aa$ OZ pl$ aa$ OZ j$ aa$ ga ?_;show wpAny _ _ (match fg lo c 1 n with|(lo,c)=>pure (lo,_,gg lo c 1)) _ _ s;rw[Ċ lo c n];show wpAny _ _ (pure _) _ _ s;rw[R3];exact ga h
def E4(xs:Array Value)(i k:Nat):((List.range k).filterMap λ(m:Nat)=>xs[(i +(m:Int) * 1).toNat]?).toArray=((xs.toList.drop i).take k).toArray:=by
 have e:(λ(m:Nat)=>xs[(i+(m:Int) * 1).toNat]?)=λm=>xs[i+m]?:=by
  funext m;have:(i+(m:Int) * 1).toNat=i+m:=by lia
  rw[this]
 have:=pick_run xs i k;have a:((λx=>xs[x]?) ∘ λx=>i+x)=λm=>xs[i+m]?:=rfl
 simp_all
def Jj{lo c}(d:IsTup s.heap t a)(k:s.heap.IsSliceOf j l n .none)(pl:Lk l lo)(v:Lk n c)
  (r:¬ (Te a.size 0 lo=0/\Te a.size a.size c=a.size))
  (h:Q (.ref s.heap.objs.size) { s with heap:=s.heap.push { cls:=.type "tuple",data:=.seq ((a.toList.drop$ Te a.size 0 lo).take$ Te a.size a.size c - Te a.size 0 lo).toArray } })
  (p:a.size<=sizeLine):wpAny (model prog w) A (qi (.ref t)$ .ref j) Q E s:=by
 have b:sizeOk$ .seq ((a.toList.drop$ Te a.size 0 lo).take$ Te a.size a.size c - Te a.size 0 lo).toArray:=by
  show ((a.toList.drop$ Te a.size 0 lo).take$ Te a.size a.size c - Te a.size 0 lo).toArray.size<=sizeLine;rw[Ea,ci,Pw,Db]
  lia
 have x:Te a.size a.size c<=a.size:=Ρ _ _ (pa _) c;obtain⟨u,i,f,o⟩:=id k;have e:s.TypeIs (.ref j) "slice":=⟨u,i,f⟩
 unfold qi;try with_reducible refine Xb ?_
 first|refine aa$ ga ?_|skip
 refine aa$ OD d.typeIs ⋯ ?_;refine aa$ Ad (name:=Pi "__getitem__") d.typeIs ec
  (Dc ec d.typeIs Nz ?_$ GB _ _)
 show wpAny _ _ (Sf (.ref t) >>= _) _ _ s;refine aa$ B0 d$ aa$ xj e ?_;rw[ia ⋯];refine aa$ NU k pl v ?_;have g:¬ ((((Te a.size 0 lo:Nat):Int) == 0 && (1:Int) == 1 && (Te a.size a.size c - Te a.size 0 lo) == a.size)=A3):=by
  intro q;rw[Da,Da]at q;have y:((Te a.size 0 lo:Nat):Int)=0:=eq_of_beq q.1.1;have z:Te a.size a.size c - Te a.size 0 lo=a.size:=eq_of_beq q.2;exact r ⟨by lia,by lia⟩
 show wpAny _ _ (if (((Te a.size 0 lo:Nat):Int) == 0 && (1:Int) == 1 && (Te a.size a.size c - Te a.size 0 lo) == a.size)=A3 then _ else _) _ _ s;rw[qa g,E4];first
  |exact aa (m:=rg _)$ Gc (ga _) b
  |exact aa (m:=rg _)$ Gc (aa$ ga$ ga ⟨_,rfl,ga h⟩) b
  |exact aa _
  |exact aa$ aa (m:=rg _) _
end
end HT
namespace L2
open Spec
abbrev TO:=St->Hp->(Option Int->Hp->Prop)->Prop
def PO(X:Cx)(e:Option Ja)(t:TO):Prop:=
 ∀ a s σ H Q,Ta X a σ H s->t σ H Q->
  wpAny (model X.prog X.w) X.A (evalPart e X.env) (λu c=>∃ o b,Ta X a σ b c/\Lk u o/\Q o b) X.xe s
noncomputable def Ă:TO:=λa H Q=>Q L6 H
noncomputable def ys2(t:TE):TO:=λb H Q=>t b H λx a=>∃ i,x=.int i/\Q (BD i) a
def kL:∀ {b},de (a.map V.int) b->Bh b a:=by
 induction a with
 |nil=>intro b r;rw[Df]at r;cases r;exact .nil
 |cons n a c=>
  intro b r;cases r with
  |cons d e=>
   obtain⟨t,rfl⟩:=d;exact .cons n t$ c e
section
variable{X:Cx}{e:Ja}{te:TE}{lo hi:Option Ja}{tl th:TO}{pos p2:Td}
def F4:PO X L6 Ă:=by
 intro a s b H Q I h;exact ga ⟨L6,H,I,.none,h⟩
def ŝ(h:PE X e te):PO X (BD e)$ ys2 te:=by
 intro a s g H Q I c;refine ud (h a s g H _ I c) λu s1 ſ=>?_;obtain⟨x,H1,b,f,d⟩:=ſ;obtain⟨i,rfl,q⟩:=d;obtain⟨t,rfl⟩:=f;exact⟨BD i,H1,b,.int i t,q⟩
def Mw(X:Cx)(r:V->Option Int->Option Int->Hp->VK->Prop):Prop:=
 ∀ a s σ H x v c d lo hi b Q,Ta X a σ H s->gd x v->s.heap.IsSliceOf b c d .none->Lk c lo->Lk d hi->r x lo hi H Q->
  ∃ T e,typeLookup (.type T) "__getitem__" = pure (BD$ .builtin e)/\s.TypeIs v T/\wpAny (model X.prog X.w) X.A (qi v$ .ref b) (EP X a σ Q) X.xe s
def Mw.or(h:Mw X r)(h':Mw X d):Mw X (λx lo hi H Q=>r x lo hi H Q\/d x lo hi H Q):=by
 intro a s j H x v g i lo hi f Q I e b pl c q;rcases q with q|q
 ·exact h a s j H x v g i lo hi f Q I e b pl c q
 ·exact h' a s j H x v g i lo hi f Q I e b pl c q
def p7(r:V->Option Int->Option Int->Hp->VK->Prop)(te:TE)(tl th:TO):TE:=λa H Q=>te a H λx b=>tl a b λl c=>th a c λu d=>r x l u d Q
theorem S7(w:Mw X r)(o:PE X e te)(t:PO X lo tl)(z:PO X hi th):PE X (.Subscript e (.Slice lo hi L6 p2) pos)$ p7 r te tl th:=by
 intro a s σ H Q I h;refine HB (ud (o a s σ H _ I h) λv s1 ⟨x,H1,i,D,A⟩=>(wpAny_Slice$ ud (t a s1 σ H1 _ i A) λc s2 ⟨l,g,j,pl,B⟩=>ud (z a s2 σ g _ j B) λd s3 ⟨u,f,k,pu,C⟩=>?_));refine ga ?_;have m:Ta X a σ f { s3 with heap:=s3.heap.push { cls:=.type "slice",data:=.fields #[c,d,.none] } }:=k.kept (t':=s3.toks) λb ob q=>da _ q;obtain⟨T,E,n,y,p⟩:=w a { s3 with heap:=s3.heap.push { cls:=.type "slice",data:=.fields #[c,d,.none] } } σ f x v c d l u s3.heap.objs.size Q m D (QD ..) pl pu C;exact tail_any y n p (by with_unfolding_all rfl)
def cD(xs:gV)(lo hi:Option Int):gV:=(xs.drop$ HT.Te xs.length 0 lo).take$ HT.Te xs.length xs.length hi - HT.Te xs.length 0 lo
def jT xs lo hi:(cD xs lo hi).length<=xs.length:=by
 unfold cD;rw[ci,Pw]
 lia
def xU(K:W.Frag):V->Option Int->Option Int->Hp->VK->Prop:=λx lo hi H Q=>∃ a xs,x=.ref a/\Jg K H a xs/\
 ¬ (HT.Te xs.length 0 lo=0/\HT.Te xs.length xs.length hi=xs.length)/\∀ p,H p=L6->Q (.ref p) (Nb H p$ .Ha$ cD xs lo hi)
def ï:Mw X$ xU X.K:=by
 rintro f s p H x v n o lo hi m Q I l g pl k ⟨a,xs,rfl,i,h,q⟩;cases l;obtain⟨d,r,e,j⟩:=I.tuple i;have c:d.toArray.size=xs.length:=by rw[Ea];exact r.length.symm
 refine⟨"tuple",_,ec.lookup,e.typeIs,(HT.Jj e g pl k (by rw[c];exact h) ?_$ by simp_all)⟩;rw[c];refine⟨.ref s.heap.objs.size,_,I.laid (λb ob q=>da _ q) (pa _) ?_,rfl,q _$ I.lc.fresh$ pa _⟩;exact⟨ub (jT xs lo hi) j,_,(r.drop _).take _,IsTup.new _ _⟩
def F2(K:W.Frag):R2:=λx y H Q=>∃ a b xs c,x=.ref a/\y=.ref b/\Jg K H a xs/\Jg K H b c/\xs≠[]/\xs.length+c.length<=sizeLine/\
 (c=[]->Q (.ref a) H)/\(c≠[]->∀ p,H p=L6->Q (.ref p) (Nb H p$ .Ha$ xs++c))
def de.oo(r:de xs a):a=[] ↔ xs=[]:=by
 cases r with
 |nil=>simp
 |cons _ _=>simp
def zyg:Ch X (je .Add)$ F2 X.K:=by
 rintro g s t H x y v u Q I o p ⟨a,b,xs,r,rfl,rfl,h,i,j,e,m,n⟩;cases o;cases p;obtain⟨k,d,l,_⟩:=I.tuple h;obtain⟨f,c,p2,_⟩:=I.tuple i;refine HT.Zw l p2 (λz=>j$ d.oo.mp z) (λz=>⟨.ref a,H,I,rfl,m$ c.oo.mp z⟩) (λz=>⟨.ref s.heap.objs.size,_,I.laid (λb ob q=>da _ q) (pa _) ?_,rfl,n (λw=>z$ c.oo.mpr w) _$ I.lc.fresh$ pa _⟩) (by rw[<-d.length,<-c.length];exact e);exact⟨by rw[Ic];exact e,_,d.append c,IsTup.new _ _⟩
end
noncomputable def Qq(n:Nat)(i:Int):Option Nat:=if 0<=i then (if i<n then BD i.toNat else L6)else if -(n:Int)<=i then BD (i+n).toNat else L6
def Mn{a:Type}(xs:List a)(i:Int):Option a:=(Qq xs.length i).bind λj=>xs[j]?
def bZ(h:Qq n i=BD j):seqIndex? i n=BD j/\j<n/\- n <=i/\i<n:=by
 unfold Qq at h;by_cases b:0<=i
 ·rw[ia b]at h;by_cases a:i<n
  ·rw[ia a]at h;have e:i.toNat=j:=Sb h;exact⟨by rw[vy b a,e],by lia,by lia,a⟩
  ·rw[qa a]at h;cases h
 ·rw[qa b]at h;by_cases a:-(n:Int)<=i
  ·rw[ia a]at h;have e:(i+n).toNat=j:=Sb h;exact⟨by rw[Mv ⋯ a,e],by lia,a,by lia⟩
  ·rw[qa a]at h;cases h
def DX{xs}{v:a}(h:Mn xs i=BD v):∃ j,seqIndex? i xs.length=BD j/\xs[j]?=BD v/\j<xs.length/\-(xs.length:Int)<=i/\i<xs.length:=by
 unfold Mn at h;cases e:Qq xs.length i with
 |none=>simp_all
 |some j=>
  rw[e]at h;obtain⟨b,c,d,f⟩:=bZ e;exact⟨j,b,h,c,d,f⟩
def Aq{xs}{j:Nat}{v:a}(h:xs[j]?=BD v):Mn xs j =BD v:=by
 have b:=(ba.mp h).1;have e:Qq xs.length j=BD j:=by
  unfold Qq
  simp_all
 unfold Mn;rw[e];exact h
def vR(b:Ja):Prop:=∀ o i,Ap b Ŷ o i=operate [o,i] (qi o i)
def Qx(X:Cx)(r:R2):Prop:=
 ∀ b a pins s σ H x y v u Q,Ta X pins σ H s->gd x v->gd y u->r x y H Q->
  Ap a Ŷ v u=operate [v,u] (qi v u)->wpAny (model X.prog X.w) X.A (A1 b a v u) (EP X pins σ Q) X.xe s
def qw(X:Cx)(b:String)(r:V->gV->Hp->VK->Prop):Prop:=
 ∀ a s σ H x xs v us Q,Ta X a σ H s->gd x v->de xs us->r x xs H Q->
  wpAny (model X.prog X.w) X.A (call (.builtin b)$ v::us) (EP X a σ Q) X.xe s
section
variable{X:Cx}{a b:Ja}{ta tb:TE}{pos:Td}
def Qx.or(h:Qx X r)(h':Qx X e):Qx X (λx y H Q=>r x y H Q\/e x y H Q):=by
 intro b a c s i H x y v u Q I f g q d;rcases q with q|q
 ·exact h b a c s i H x y v u Q I f g q d
 ·exact h' b a c s i H x y v u Q I f g q d
def yq3(i:Qx X r)(f:PE X a ta)(g:PE X b tb)(j:vR b):PE X (.Subscript a b pos)$ VB r ta tb:=by
 intro c s m H Q I h;exact HB (pP f g I h λv u s2 x y d e k l q=>i a b c s2 m d x y v u Q e k l q$ j _ _)
noncomputable def GM(K:W.Frag):R2:=λx y H Q=>∃ p xs i v,x=.ref p/\y=.int i/\He K H p xs/\Mn xs i=BD v/\Q v H
noncomputable def LP(K:W.Frag):R2:=λx y H Q=>∃ p xs i v,x=.ref p/\y=.int i/\Jg K H p xs/\Mn xs i=BD v/\Q v H
def r8:Qx X$ GM X.K:=by
 intro k g a s σ H x y v u Q I F G h n;apply b_;intro z_;obtain⟨p,xs,i,z,rfl,rfl,E,C,q⟩:=h;cases F;obtain⟨t,rfl⟩:=G;obtain⟨e,r,pl,N⟩:=I.list E;obtain⟨j,c,o,L,A,B⟩:=DX C;obtain⟨w,l,f⟩:=r.get o;have D:=r.length;have M:=kJ;have b:EP X a σ Q w s:=⟨z,H,I,f,q⟩
 apply z_;by_cases m:0<=i
 ·have d:i.toNat=j:=by
   rw[vy m B]at c;exact Sb c
  exact item_listR pl.isList m ⋯ (by rw[d];simpa using l) b n
 ·have d:(i+e.toArray.size).toNat=j:=by
   rw[Mv ⋯ A]at c;rw[Ea,<-D]
   simp_all
  exact Nv pl.isList.typeIs RD.lookup
   (wpAny_getItem_list_neg (Q:=λr ύ=>r=w/\EP X a σ Q r ύ) pl.isList ⋯ (by rw[Ea]<;>lia) ⋯ (by rw[d];simpa using l) ⟨rfl,b⟩) n
def ū:Qx X$ LP X.K:=by
 intro e d a s B H x y v u Q I o A h m;obtain⟨p,xs,i,z,rfl,rfl,l,k,q⟩:=h;cases o;obtain⟨t,rfl⟩:=A;obtain⟨n,r,pl,ύ⟩:=I.tuple l;obtain⟨j,f,g,D,E,F⟩:=DX k;obtain⟨w,C,c⟩:=r.get g;have G:=kJ;have b:EP X a B Q w s:=⟨z,H,I,c,q⟩
 exact Nv pl.typeIs slot_tuple_getitem.lookup
  (getItem_tuple pl ⋯ ⋯ (by rw[Ea,<-r.length];exact f) ⋯ ⟨rfl,b⟩) m
def ų(a:b') n j u:Be (·.setIfInBounds j u) { cls:=.type "list",data:=.seq a.toArray n }={ cls:=.type "list",data:=.seq (a.set j u).toArray n }:=by
 simp[Be]
def Ta.na{b}{c}{H}{s}{p}{xs}(I:Ta X b c H s)(h:H p=BD (.na xs)) :
  ∃ (a:b') (n:Nat),de xs a/\s.heap.get? p=BD { cls:=.type "list",data:=.seq a.toArray n }/\xs.length<=sizeLine:=by
 obtain⟨z,a,n,r,e⟩:=I.lc p _ h;exact⟨a,n,r,e,z⟩
def Ta.XA{a}{c its':b'}(I:Ta X a j H s)(h:H p=BD (.na xs))
  (l:s.heap.get? p=BD { cls:=.type "list",data:=.seq c.toArray n }) (i:f { cls:=.type "list",data:=.seq c.toArray n }={ cls:=.type "list",data:=.seq its'.toArray d }) (r:de g its') (m:g.length<=sizeLine) t :
  Ta X a j (Nb H p$ .na g) { s with heap:=s.heap.update p f,toks:=t }:=by
 have e:(s.heap.update p f).get? p=BD { cls:=.type "list",data:=.seq its'.toArray d }:=by
  rw[Ec f l (by rw[i]<;>rfl),i]
 refine I.write (by rw[h];trivial) (.inl rfl) (λb u k q=>(ye _ _$ Jd k).trans q) ⟨_,e⟩ ?_;exact⟨m,its',d,r,e⟩
def Z4:V->V->V->Hp->(Hp->Prop)->Prop:=λo i v H Q=>∃ p xs k j,o=.ref p/\i=.int k/\H p=BD (.na xs)/\Qq xs.length k=BD j/\Q (Nb H p$ .na$ xs.set j v)
def zqk:OQ X Z4:=by
 rintro h s σ H o i v F E u Q I y x z ⟨p,xs,k,j,rfl,rfl,g,w,q⟩;cases y;obtain⟨t,rfl⟩:=x;obtain⟨a,n,r,c,D⟩:=I.na g;obtain⟨f,A,l,m⟩:=bZ w;have B:=r.length;have C:=kJ;have d:=
  I.XA g c (ų a n j u) (r.set z j) ⋯ s.toks
 by_cases e:0<=k
 ·have b:k.toNat=j:=by
   rw[vy e m]at f
   simp_all
  exact W.ki_setAt c e ⋯ ⋯ (by rw[b];exact⟨_,d,q⟩)
 ·have b:(k+a.toArray.size).toNat=j:=by
   rw[Mv ⋯ l]at f
   simp_all
  exact W.ki_setBack c ⋯ ⋯ ⋯ (by rw[b];exact⟨_,d,q⟩)
def Î lo a n:(ri lo a L6 n).1=((HT.Te n 0 lo:Nat):Int)/\(ri lo a L6 n).2.1=((HT.Te n n a:Nat):Int)/\(ri lo a L6 n).2.2=1:=by
 refine⟨?_,?_,rfl⟩
 ·cases lo with
  |none=>simp[ri,HT.Te]
  |some i=>
   simp[ri,HT.Te,su,show (1:Int) > 0 by decide,dj];by_cases h:i<0
   ·simp only[h,dj]<;>lia
   ·simp[h,lp]<;>lia
 ·cases a with
  |none=>rfl
  |some i=>
   simp[ri,HT.Te,su,show (1:Int) > 0 by decide,dj];by_cases h:i<0
   ·simp only[h,dj]<;>lia
   ·simp only[h,lp]<;>lia
theorem zc0(a:b') lo b:slicePick a.toArray lo b L6=((a.drop$ HT.Te a.length 0 lo).take$ HT.Te a.length a.length b - HT.Te a.length 0 lo).toArray:=by
 obtain⟨c,d,e⟩:=Î lo b a.toArray.size;unfold slicePick;rw[c,d,e];simp only[sliceRange_one,pick_run]<;>rfl
def SU(K:W.Frag):V->Option Int->Option Int->Hp->VK->Prop:=λx lo b H Q=>∃ a xs,x=.ref a/\He K H a xs/\∀ p,H p=L6->Q (.ref p) (Nb H p$ .na$ cD xs lo b)
def l8:Mw X$ SU X.K:=by
 rintro e s p H x v n o lo f m Q I l g pl k ⟨a,xs,rfl,h,q⟩;cases l;obtain⟨j,r,d,i⟩:=I.list h;have c:=r.length;refine⟨"list",_,RD.lookup,d.isList.typeIs,(wpAny_getItem_list_slice d.isList g pl k .none ⋯ ?_$ by simp_all)⟩;rw[zc0,<-c];refine⟨.ref s.heap.objs.size,_,I.laid (λb ob q=>da _ q) (pa _) ?_,rfl,q _$ I.lc.fresh$ pa _⟩;exact⟨ub (jT xs lo f) i,_,0,(r.drop _).take _,za _ rfl⟩
noncomputable def Wi:V->Bool
 | .Lb=>A3
 | .bl _=>A3
 | .int _=>A3
 | .str _=>A3
 |_=>Ŷ
noncomputable def Il:V->V->Bool
 | .Lb,.Lb=>A3
 | .bl a,.bl b=>a == b
 | .bl a,.int b=>(if a then 1 else 0) == b
 | .int a,.bl b=>a == (if b then 1 else 0)
 | .int a,.int b=>a == b
 | .str a,.str b=>a == b
 |_,_=>Ŷ
def xN(f:gd y u)(c:gd x v)(g:Wi y=A3)(e:Wi x=A3):Hc A s u v$ Il y x:=by
 cases y with
 |Lb=>
  cases f;cases x with
  |Lb=>cases c;exact jk _
  |bl b=>cases c;exact C0 b
  |int b=>obtain⟨t,rfl⟩:=c;exact G0 b t
  |str b=>obtain⟨t,rfl⟩:=c;exact I0 b t
  |_=>exact absurd (show Ŷ=A3 from e) Ya
 |bl a=>
  cases f;cases x with
  |Lb=>cases c;exact J0 a
  |bl b=>cases c;exact K0 a b
  |int b=>obtain⟨t,rfl⟩:=c;exact L0 a b t
  |str b=>obtain⟨t,rfl⟩:=c;exact M0 a b t
  |_=>exact absurd (show Ŷ=A3 from e) Ya
 |int a=>
  obtain⟨d,rfl⟩:=f;cases x with
  |Lb=>cases c;exact N0 a d
  |bl b=>cases c;exact O0 a d b
  |int b=>obtain⟨t,rfl⟩:=c;exact P0 a d b t
  |str b=>obtain⟨t,rfl⟩:=c;exact gp a d b t
  |_=>exact absurd (show Ŷ=A3 from e) Ya
 |str a=>
  obtain⟨d,rfl⟩:=f;cases x with
  |Lb=>cases c;exact Q0 a d
  |bl b=>cases c;exact R0 a d b
  |int b=>obtain⟨t,rfl⟩:=c;exact ip a d b t
  |str b=>obtain⟨t,rfl⟩:=c;exact U0 a d b t
  |_=>exact absurd (show Ŷ=A3 from e) Ya
 |_=>exact absurd (show Ŷ=A3 from g) Ya
def yB(x:V)(u:Value):Bool:=match u with
 | .none=>Il .Lb x
 | .bool b=>Il (.bl b) x
 | .int i _=>Il (.int i) x
 | .str z _=>Il (.str z) x
 |_=>Ŷ
def QW(r:gd y u)(f:Wi y=A3):yB x u=Il y x:=by
 cases y with
 |Lb=>cases r;rfl
 |bl b=>cases r;rfl
 |int i=>obtain⟨t,rfl⟩:=r;rfl
 |str z=>obtain⟨t,rfl⟩:=r;rfl
 |_=>trivial
theorem xF{x:V}:∀ {xs:gV} {us:b'},de xs us->xs.all Wi=A3->us.any (yB x)=xs.any λy=>Il y x
 |_,_,.nil,_=>rfl
 |y::xs,u::us,.cons r t,f=>by
  rw[gf,Da]at f;rw[jf,jf,QW r f.1,xF t f.2]
theorem iF{A:Ia}{s:Shared}{x:V}{v:Value}(c:gd x v)(b:Wi x=A3):∀ {xs:gV} {us:b'},de xs us->xs.all Wi=A3->∀ u∈us,Hc A s u v (yB x u)
 |_,_,.nil,_=>λu a=>by cases a
 |y::xs,u::us,.cons r t,f=>λd a=>by
  rw[gf,Da]at f;rcases Fa.mp a with rfl|a
  ·rw[QW r f.1];exact xN r c f.1 b
  ·exact iF c b t f.2 d a
def iC(x:V)(xs:gV):Bool:=xs.any λy=>Il y x
def ZH(K:W.Frag)(a:Bool):R2:=λx y H Q=>∃ p xs,y=.ref p/\(He K H p xs\/Jg K H p xs)/\Wi x=A3/\xs.all Wi=A3/\Q (.bl$ if a then !iC x xs else iC x xs) H
def YM:Ch X (Eb .In)$ ZH X.K Ŷ:=by
 rintro f s j H x y v u Q I g i ⟨p,xs,rfl,b,d,c,q⟩;cases i;rcases b with b|b
 ·obtain⟨a,r,pl,h⟩:=I.list b;refine Qw _ pl.isList (λw e=>iF g d r c w (by simpa using e)) ⟨.bl _,H,I,rfl,?_⟩;rw[show a.toArray.any _=a.any (yB x) by simp,xF r c];exact q
 ·obtain⟨a,r,pl,h⟩:=I.tuple b;refine Ov _ pl (λw e=>iF g d r c w ⋯) ⟨.bl _,H,I,rfl,?_⟩;rw[show a.toArray.any _=a.any (yB x) by simp,xF r c];exact q
def ER:Ch X (Eb .NotIn)$ ZH X.K A3:=by
 rintro f s j H x y v u Q I g i ⟨p,xs,rfl,b,d,c,q⟩;cases i;rcases b with b|b
 ·obtain⟨a,r,pl,h⟩:=I.list b;refine Bt _ pl.isList (λw e=>iF g d r c w (by simpa using e)) ⟨.bl _,H,I,rfl,?_⟩;rw[show a.toArray.any _=a.any (yB x) by simp,xF r c];exact q
 ·obtain⟨a,r,pl,h⟩:=I.tuple b;refine Ds _ pl (λw e=>iF g d r c w ⋯) ⟨.bl _,H,I,rfl,?_⟩;rw[show a.toArray.any _=a.any (yB x) by simp,xF r c];exact q
def ο:jm X (.builtin "len") (λxs H Q=>∃ p b,xs=[.ref p]/\(He X.K H p b\/Jg X.K H p b)/\Q (.int b.length) H):=by
 intro f s k H xs j Q I r h;obtain⟨p,b,rfl,c,q⟩:=h;obtain⟨u,rfl,rfl⟩:=Nq r;have i:=kJ;rcases c with c|c
 ·obtain⟨d,e,pl,g⟩:=I.list c;have a:=e.length;exact Calls.call_len_list pl.isList (by simp only[Ea]<;>lia) ⟨.int b.length,H,I.tok _,⟨s.toks+1,by rw[Ea,a]⟩,q⟩
 ·obtain⟨d,e,pl,g⟩:=I.tuple c;have a:=e.length;exact len_tuple pl (by simp only[Ea]<;>lia) ⟨.int b.length,H,I.tok _,⟨s.toks+1,by rw[Ea,a]⟩,q⟩
def t3:jm X (.type "list") (λxs H Q=>∃ p f,xs=[.ref p]/\(He X.K H p f\/Jg X.K H p f)/\∀ l,H l=L6->Q (.ref l) (Nb H l$ .na f)):=by
 intro t s z H xs A Q I r h;obtain⟨p,f,rfl,j,q⟩:=h;obtain⟨u,rfl,rfl⟩:=Nq r;have g:∀ (a:b'),de f a->f.length<=sizeLine->∀ (h':Heap) (c:Nat),(∀ b y,s.heap.get? b=BD y->h'.get? b=BD y)->
   h'.get? s.heap.objs.size=BD { cls:=.type "list",dict:=L6,data:=.seq a.toArray c,slots:=#[] }->EP X t z Q (.ref s.heap.objs.size) { s with heap:=h' }:=λa d k h' c m e=>
  ⟨.ref s.heap.objs.size,_,I.laid (t':=s.toks) m (pa _) (show Zj X.prog X.w _ h' _ (.na f)from⟨k,a,c,d,e⟩),rfl,q _$ I.lc.fresh$ pa _⟩
 rcases j with j|j
 ·obtain⟨a,d,pl,k⟩:=I.list j;have i:=d.length;obtain⟨o,x,v,n,hd⟩:=pl.isList;exact V0 p (.inl rfl) x v hd (λh' c m e=>g a d k h' c m e) ⋯
 ·obtain⟨a,d,pl,k⟩:=I.tuple j;have i:=d.length;obtain⟨o,x,v,n,hd⟩:=pl;exact V0 p (.inr rfl) x v hd (λh' c m e=>g a d k h' c m e) (by simp only[Ea]<;>lia)
def N2:jm X (.type "tuple") (λxs H Q=>∃ p d,xs=[.ref p]/\((He X.K H p d/\∀ l,H l=L6->Q (.ref l) (Nb H l$ .Ha d))\/(Jg X.K H p d/\Q (.ref p) H))):=by
 intro a s m H xs v Q I r h;obtain⟨p,d,rfl,h⟩:=h;obtain⟨u,rfl,rfl⟩:=Nq r;rcases h with⟨f,q⟩|⟨f,q⟩
 ·obtain⟨c,g,pl,k⟩:=I.list f;have j:=g.length;refine call_tuple_list pl.isList (λh' t=>?_) ⋯;have i:Ta X a m H { s with heap:=h' }:=I.kept t;have n:Ta X a m _ { s with heap:=h'.push { cls:=.type "tuple",data:=.seq c.toArray } }:=
   i.laid (λb o e=>da _ e) (pa _) (show Zj X.prog X.w _ _ _ (.Ha d)from⟨k,c,g,IsTup.new _ _⟩)
  exact⟨.ref h'.objs.size,_,n,rfl,q _$ i.lc.fresh$ pa _⟩
 ·obtain⟨c,g,pl,k⟩:=I.tuple f;exact call_tuple_same pl ⟨.ref p,H,I,rfl,q⟩
def pV(K:W.Frag)(T:String)(x:V)(H:Hp):Prop:=match x with
 | .str _=>T = "str"
 | .int _=>T = "int"
 | .ref p=>(T = "list"/\∃ xs,He K H p xs)\/(T = "tuple"/\∃ o,K.lookup p=BD o/\o.cls=.type "tuple"/\o.dict=L6)\/
   (T = "dict"/\((∃ a,H p=BD (.dK a))\/∃ a,H p=BD (.dT a)))\/(T = "set"/\∃ S n,H p=BD (.set S n))
 |_=>False
def yk7(I:Ta X d l H s)(r:gd x v)(ty:pV X.K T x H) :
  s.TypeIs v T/\∀ a,v=.ref a->∃ ob,s.heap.get? a=BD ob/\ob.dict=L6:=by
 cases x with
 |str z=>
  obtain⟨t,rfl⟩:=r;cases (show T = "str" from ty);exact⟨typeIs_str s z t,λm e=>nomatch e⟩
 |int i=>
  obtain⟨t,rfl⟩:=r;cases (show T = "int" from ty);exact⟨typeIs_int s i t,λm e=>nomatch e⟩
 |ref p=>
  cases r;rcases ty with⟨rfl,xs,j⟩|⟨rfl,o,b,h,hd⟩|⟨rfl,b⟩|⟨rfl,S,n,b⟩
  ·obtain⟨k,_,pl,_⟩:=I.list j;refine⟨pl.isList.typeIs,λa e=>?_⟩;cases e;obtain⟨o,n,e,c,hd,_⟩:=pl;exact⟨o,e,hd⟩
  ·refine⟨⟨o,I.Ri p o b,h⟩,λa e=>?_⟩;cases e;exact⟨o,I.Ri _ o b,hd⟩
  ·have z:∃ o,s.heap.get? p=BD o/\o.ExactDict:=by
    rcases b with⟨g,b⟩|⟨g,b⟩
    ·apply b_;intro z_;obtain⟨_,_,_,_,o,_,_,e,ex,_⟩:=I.lc p _ b;apply z_;exact⟨o,e,ex⟩
    ·obtain⟨_,_,_,_,o,_,_,e,ex,_⟩:=I.lc p _ b
     simp_all
   apply b_;intro z_;obtain⟨o,e,ex⟩:=z;apply z_;refine⟨⟨o,e,ex.1⟩,λa f=>?_⟩;cases f;exact⟨o,e,ex.2.1⟩
  ·apply b_;intro z_;obtain⟨o,_,_,_,e,ex,_⟩:=I.lc p _ b;apply z_;refine⟨⟨o,e,ex.1⟩,λa f=>?_⟩;cases f;exact⟨o,e,ex.2.1⟩
 |_=>exact False.elim ty
def C9(K:W.Frag)(T:String)(r:V->gV->Hp->VK->Prop)(d:TE)(t:TA):TE:=λb H Q=>d b H λx a=>pV K T x a/\t b a λxs c=>r x xs c Q
variable{o e:Ja}{es:List Ja}{to:TE}{t:TA}{name:Str}{apos cpos:Td}{T id:String}{r:V->gV->Hp->VK->Prop}
def B8(B:ym T)(f:lR T name id)(i:Wv (.builtin id)=pure (.type "method_descriptor"))(y:qw X id r)(z:PE X o to)(w:PA X (e::es) t)
  (b:Wc o name X.env (Cb o X.env)=Cb o X.env:=by rfl)
  (d:((Ub cpos$ ka (e::es) X.env).all (λx=>!x.1) && (Pg cpos$ Fe [] X.env).all (λx=>x.1.isSome)
   && decide ((e::es).length+([]:List Aj).length+(if ([]:List Aj).isEmpty then 0 else 1)<30))=A3:=by rfl)
  (c:(apos.endLine == cpos.line)=A3:=by rfl) (A:ka (e::es) X.env=(Ŷ,Cb e X.env)::ka es X.env:=by rfl) (g:(Ub cpos$ ka es X.env).any (·.1)=Ŷ:=by rfl) :
  PE X (.Call (.Attribute o name apos) (e::es) [] cpos)$ C9 X.K T r to t:=by
 intro a s j H Q I h;refine Qv b d c rfl (ud (z a s j H _ I h) λv s1 ſ=>?_);obtain⟨x,H1,k,m,ty,C⟩:=ſ;obtain⟨q,u⟩:=yk7 k m ty;refine⟨T,id,B,f,i,q,u,?_⟩;have l:=w cpos a s1 j H1 _ k C;rw[A]at l ⊢;exact ji ⋯$ ej (ud l λus s2 ⟨F,n,p,E,D⟩=>y a s2 j n x F v us Q p m E D)
end
def GY(X:Cx)(b:String)(r:V->gV->Hp->VK->Prop):Prop:=
 ∀ a s σ H x xs v us Q,Ta X a σ H s->gd x v->de xs us->r x xs H Q->
  wpAny (model X.prog X.w) X.A (call (.builtin b)$ v::us) (EP X a σ Q) X.xe s
theorem de.one{x:V}{us}(h:de [x] us):∃ u,us=[u]/\gd x u:=by
 cases h with|cons r h=>cases h;exact⟨_,rfl,r⟩
theorem de.two{x y:V}{us}(h:de [x,y] us):∃ u v,us=[u,v]/\gd x u/\gd y v:=by
 cases h with|cons r h=>cases h with|cons q h=>cases h;exact⟨_,_,rfl,r,q⟩
section
variable{X:Cx}{pins:List$ Addr × Obj}{σ:St}{H:Hp}{s:Shared}{l b:Addr}{xs ys zs:gV}
def Ta.DF{a its':b'}(I:Ta X pins σ H s)(b:H l=BD (.na xs))
  (e:s.heap.get? l=BD { cls:=.type "list",data:=.seq a.toArray n }) (d:f a.toArray=its'.toArray) (h:de ys its') (i:ys.length<=sizeLine) :
  Ta X pins σ (Nb H l$ .na ys) { s with heap:=s.heap.update l (Be f),toks:=t' }:=by
 have q:=zaA e f;rw[d]at q;refine I.write (by rw[b];exact trivial) (.inl rfl) (λj u c g=>(ye s.heap _$ Jd c).trans g) ⟨_,q⟩ ?_;exact⟨i,its',_,h,q⟩
def Ta.iA(I:Ta X pins σ H s)(b:de ys a)(c:ys.length<=sizeLine) :
  Ta X pins σ (Nb H s.heap.objs.size$ .na ys) { s with heap:=s.heap.push { cls:=.type "list",data:=.seq a.toArray },toks:=t' }:=
 I.laid (λd d q=>da _ q) (pa _) ⟨c,a,0,b,za _ rfl⟩
def Ta.fresh(I:Ta X pins σ H s):H s.heap.objs.size=L6:=I.lc.fresh$ pa _
def Ta.qv(I:Ta X pins σ H s)(b:H l=BD (.na xs)):xs.length<=sizeLine/\∃ (a:b') (n:Nat),de xs a/\xs.length=a.length/\s.heap.get? l=BD { cls:=.type "list",data:=.seq a.toArray n }:=by
 obtain⟨z,a,n,r,e⟩:=I.lc l _ b;exact⟨z,a,n,r,r.length,e⟩
def S3(h:n<=sizeLine):zg n=Ŷ:=by
 unfold zg
 simp_all
end
section
variable{X:Cx}
def ZP:V->gV->Hp->VK->Prop:=λx a H Q=>∃ l xs y,x=.ref l/\a=[y]/\H l=BD (.na xs)/\xs.length<sizeLine/\Q .Lb (Nb H l$ .na$ xs++[y])
def GL:GY X "list.append" ZP:=by
 intro c s σ H x m v k Q I g f h;obtain⟨l,xs,y,rfl,rfl,b,j,q⟩:=h;cases g;obtain⟨u,rfl,d⟩:=f.one;obtain⟨z,a,n,r,i,e⟩:=I.qv b;refine call_meets F.slot_list_append ⟨_,e,rfl⟩ F.entry_list_append (F.args_list_append_2 _ _) (PySem.list_append l a.toArray n u$ by simp_all) ⟨e,⟨.Lb,_,I.DF (its':=a++[u]) b e ⋯ (r.append$ .cons d .nil) ?_,rfl,q⟩⟩;rw[Ic,List.length_singleton]
 lia
def EY:V->gV->Hp->VK->Prop:=λx c H Q=>∃ l b xs a,x=.ref l/\c=[.ref b]/\H l=BD (.na xs)/\H b=BD (.na a)/\xs.length+a.length<=sizeLine/\Q .Lb (Nb H l$ .na$ xs++a)
def ß:GY X "list.extend" EY:=by
 intro i s σ H x D v C Q I y w h;obtain⟨l,b,xs,G,rfl,rfl,g,k,B,q⟩:=h;cases y;obtain⟨u,rfl,t⟩:=w.one;cases t;obtain⟨z,c,n,r,A,e⟩:=I.qv g;obtain⟨E,a,o,p,m,j⟩:=I.qv k;have f:c.toArray.size+a.toArray.size<=sizeLine:=by rw[Ea,Ea];lia
 have d:¬ (!c.toArray.isEmpty && zg (c.toArray.size+a.toArray.size))=A3:=by
  rw[S3 f,Oz];exact Ya
 refine call_meets F.slot_list_extend ⟨_,e,rfl⟩ F.entry_list_extend (F.args_list_extend_2 _ _)
  (AutoSeq1.list_extend_list_list_0 l c.toArray n b a.toArray o d (by rw[Ea];lia)$ by lia) ⟨e,j,?_⟩
 refine⟨.Lb,_,I.DF (its':=c++a) g e ⋯ (r.append p) ?_,rfl,q⟩
 simp_all
def ŕ:R2:=λx y H Q=>∃ l b xs a,x=.ref l/\y=.ref b/\H l=BD (.na xs)/\H b=BD (.na a)/\xs.length+a.length<=sizeLine/\∀ p,H p=L6->Q (.ref p) (Nb H p$ .na$ xs++a)
def nV:Ch X (je .Add) ŕ:=by
 intro d s σ H x y v u Q I o p h;obtain⟨l,b,xs,C,rfl,rfl,j,i,w,q⟩:=h;cases o;cases p;obtain⟨z,c,n,r,t,e⟩:=I.qv j;obtain⟨B,a,A,m,k,f⟩:=I.qv i;refine PySem.P.add_list e f ?_ (by rw[Ea,Ea];lia);have g:c.toArray++a.toArray=(c++a).toArray:=by simp
 rw[g];exact⟨.ref _,_,I.iA (r.append m) (by rw[Ic];lia),rfl,q _ I.fresh⟩
end
section
variable{prog:xa}{w:Ma}{A:Ia}{E:Value->Shared->Prop}{s:Shared}
set_option maxRecDepth 100000 in
end
end L2
namespace Att
open W Calls
def i5:∀ c d,WellAll P h d (c.map vK)->Bh d c:=by
 intro c;induction c with
 |nil=>
  intro d w;cases w;exact .nil
 |cons n c e=>
  intro d w;cases w with
  |cons a b=>
   cases a;exact .cons _ _$ e _ b
def zju{l:OpenLaw}(t:l.most=BD n)
  (b:l.row.toRowW.claim.pre args=A3) (k:WellAll P h e args) :
  ∃ a o c,e=[xb a]/\args=[WData.list$ c.map vK]/\h.get? a=BD { cls:=.type "list",data:=.seq o.toArray }/\Bh o c/\c.length<=n:=by
 have j:=(pre_splitW b).1;have m:l.pre.holds [] { args:=args }=A3:=(pre_splitW b).2;obtain⟨d,r,rfl,p,q⟩:=hasAllW_cons j;obtain rfl:=hasAllW_nil q;obtain⟨xs,rfl,s⟩:=hasW_list p;obtain⟨c,rfl⟩:=items_int s;have g:c.length<=n:=by
  unfold OpenLaw.pre at m;have i:(WTm.not$ .lt (.lit$ .int n)$ .len$ .arg 0).holds [] { args:=[.list$ c.map .int] }=A3:=by
   have i:=(holds_andW m).1
   rwa [t]at i
  have x:=condW_of i$ w_not$ w_lt w_lit$ w_len_list$ w_arg rfl
  simp_all
 cases k with
 |cons v w=>
  cases w;cases v with
  |list u f=>exact⟨_,_,c,rfl,rfl,u,i5 c _ f,g⟩
theorem Ã(l:OpenLaw) a:l.row.toRowW.claim.post a (.bool A3) a=A3:=
 postW_of
  (show WShape.has [] (.bool A3) .bool=A3 by first|rfl|decide|simp)
  (w_eq_bool (w_res rfl) w_lit) rfl
def Lp{l:OpenLaw}
  (R:l.most=BD n) (y:d.params.defaults=[])
  (j:∀ w e b t B fa o C s g a i u,
   Ground q c [] D w e t B b.heap->E w b.heap->
   b.heap.get? fa=BD o->o.data=.func (docDef d.name d.params d.body d.scope C s g)->b.heap.CodeRec s d.name->t d.name=BD (.ref fa)->
   b.heap.get? a=BD { cls:=.type "list",data:=.seq i.toArray }->Bh i u->u.length<=n->b.gens=#[]->
   codeAny (model l.prog w) An (.call (.ref fa) ⟨[.ref a],[]⟩) (λr v=>r=.ok (.ret$ .bool A3)/\OldK b.heap v.heap/\v.os=b.os/\Ah v.gens) b) :
  WalkO q c D E l.row.toRowW d [] (λf i=>PySem.call f i):=by
 intro w e b t B G ό fa o C s g K kV S hd x H z O F ύ V p I ϋ A P;obtain rfl:K=.none:=Dflts.none H y;obtain rfl:kV=.none:=Dflts.noKw H;obtain⟨a,i,u,rfl,rfl,m,h,k⟩:=zju R p A;refine enter_call (mf (j w e b t B fa o C s g a i u G ό S (fd_plain hd) x z m h k O) λr v T=>?_);obtain⟨rfl,L,M,N⟩:=T;exact⟨.inl ⟨.bool A3,.bool A3,[],rfl,λJ=>rfl,.bool A3,Ã l _,λJ=>⟨List.Pairwise.nil,λJ Q=>(nomatch Q)⟩⟩,L,M,N⟩
end Att
namespace L2
open Spec
theorem OF:∀ {a:b'} {ns:dl},Bh a ns->de (ns.map V.int) a
 |_,_,.nil=>.nil
 |_,_,.cons n t h=>.cons ⟨t,rfl⟩ (OF h)
noncomputable abbrev SV{K:W.Frag}{h:Heap}(_:K.In h):W.Frag:=K
noncomputable def Tl(s:Stmt):Arguments:=match s with
 | .FunctionDef _ a _ _ _ _ _ _ _ _=>a
 |_=>{ posonlyargs:=[],args:=[],vararg:=L6,kwonlyargs:=[],kw_defaults:=[],kwarg:=L6,defaults:=[] }
noncomputable def ck(s:Stmt):List Stmt:=match s with
 | .FunctionDef _ _ b _ _ _ _ _ _ _=>b
 |_=>[]
noncomputable def sf(s:Stmt):Scope:=match s with
 | .FunctionDef _ _ _ _ _ _ sc _ _ _=>sc
 |_=>{ kind:=.function,names:=[],isGenerator:=Ŷ,isCoroutine:=Ŷ }
noncomputable abbrev E0:XK:=λa a a=>False
inductive ME(K:W.Frag)(x qual:Str)(st:Stmt)(f:Addr)(fd:df):Prop
 |mk (oc:Value) (od:Option Addr) (kV doc pm:Value) (an:Option Addr) (cdv ct:Value) (osl:Array (Option Value)) (f1:fd=W.fnOf x qual (Tl st) (ck st) (sf st) .none kV doc pm an cdv ct) (f2:K.lookup f=BD ⟨oc,od,.func fd,osl⟩) (f3:W.codeIn K cdv qual=A3):ME K x qual st f fd
structure mJ(K:W.Frag)(x qual:Str)(st:Stmt)(f:Addr)(fd:df):Prop where
 ex:ME K x qual st f fd
 kp:W.keepIn K (.ref f)=A3
section
variable{P:xa}{w:Ma}{K:W.Frag}{mg:Str->Option Value}{base:Heap}
def MZ{st}{kV d h b ct}(l:K.lookup f=BD ⟨i,j,.func$ W.fnOf x a (Tl st) (ck st) (sf st) .none kV d h g b ct,e⟩)
  (c:W.codeIn K b a=A3) (k:W.keepIn K (.ref f)=A3):mJ K x a st f$ W.fnOf x a (Tl st) (ck st) (sf st) .none kV d h g b ct:=⟨⟨i,j,kV,d,h,g,b,ct,e,rfl,l,c⟩,k⟩
end
def yS(h:n<=1000):n<sizeLine:=Rv h ⋯
end L2
namespace L4
open Spec L2
def qZ(a:c):∃ b,b=a:=⟨a,rfl⟩
def Dd{b:Type}(a:b):b:=Classical.choose$ qZ a
@[simp] theorem av(a:b):Dd a=a:=zaB$ qZ a
inductive D where
 |Lb|bl (b:Bool)|int (i:Int)|str (x:Str)|Ha (xs:List D)|Zi (ns:dl)|ref (n:Nat)
 |na (xs:List D)|Aa (ks:List Nc) (xs:List D)|obj (c:Nat) (ns:ac) (xs:List D)|pw (c:Nat)|gt (ss:ac)
abbrev g':=List D
inductive Ob where
 |na (xs:g')
 |Aa (kvs:List (Nc × D))
 |jb (c:Nat) (fs:List (Str × D))
 |Fb (kvs:List (Nc × D))
 |Je (ks:List TK)
abbrev Ca:=List Ob
abbrev St:=L2.St
abbrev Ev:=List$ Option D
structure Xn where
 cls:Nat
inductive Ji(α:Type) where
 |ok (a:α) (σ:Ca)
 |ex (x:Xn) (σ:Ca)
 |pb
abbrev M(a:Type):=Ca->Ji a
noncomputable def ret{b:Type}(a:b):M b:=λc=>.ok a c
noncomputable def pb{a:Type}:M a:=λb=>.pb
noncomputable def Ji.bind{c d:Type}(o:Ji c)(k:c->M d):Ji d:=match o with
 | .ok a b=>k a b
 | .ex x b=>.ex x b
 | .pb=>.pb
def Lc{a b:Type}(m:M a)(k:a->M b):M b:=λc=>(m c).bind k
inductive Fl where
 |nx (ρ:Ev)|rt (d:D)|bk (ρ:Ev)|ct (ρ:Ev)|xc (ρ:Ev) (x:Xn)
structure Tab where
 P:Addr
 line:Int
 col:Int
 qual:Str
structure Tx where
 Ao:List Tab
 bm:Addr
structure Tb where
 K:W.Frag
 ca:Nat->Addr
 tx:Tx
def iv(q:Str)(c:Addr):Heap->Prop:=λh=>∃ o a t,h.get? c=BD o/\o.data=.fields a/\a[1]?=BD (.str q t)
def WY(a:Addr):Heap->Prop:=λh=>∃ o,h.get? a=BD o/\o.cls=.type "module"/\o.dict=BD builtinsNs/\o.data=.plain
def js(T:Tb)(a:ad)(H:Hp):Prop:=∀ t∈T.tx.Ao,(T.tx.bm ∉ a/\∃ b,H T.tx.bm=BD (.Oc b$ .ext$ WY T.tx.bm))/\t.P ∉ a/\∃ ps,H t.P=BD (.El ps)/\(ps=#[]\/∃ c,ps=#[jc t.line,jc t.col,.ref c]/\c ∉ a/\H c=BD (.ext$ iv t.qual c))
def js.grow(h:js T d H)(k:∀ b u,H b=BD u->a b=BD u):js T d a:=λt m=>by
 obtain⟨⟨f,o,g⟩,i,ps,j,l⟩:=h t m;exact⟨⟨f,o,k _ _ g⟩,i,ps,k _ _ j,l.imp id λ⟨c,e,n,z⟩=>⟨c,e,n,k _ _ z⟩⟩
def js.sub(h:js T a H)(k:∀ b∈d,b∈a):js T d H:=λt m=>by
 obtain⟨⟨f,g⟩,i,ps,j,l⟩:=h t m;exact⟨⟨λz=>f$ k _ z,g⟩,λz=>i$ k _ z,ps,j,l.imp id λ⟨c,e,n,z⟩=>⟨c,e,λy=>n$ k _ y,z⟩⟩
def js.more(h:js T a H)(o:H p=L6):js T (a++[p]) H:=λt l=>by
 obtain⟨⟨i,m,f⟩,j,ps,g,k⟩:=h t l;have d:∀ {b:Addr} {u:HO},H b=BD u->b ∉ a->b ∉ a++[p]:=fun {b u} e n z=>(Yd.mp z).elim n λy=>by
  simp_all
 exact⟨⟨d f i,m,f⟩,d g j,ps,g,k.imp id λ⟨c,e,n,z⟩=>⟨c,e,d z n,z⟩⟩
def js.out(h:js T g H)(r:∀ b,b≠a->i b=H b)(q:a∈g\/∃ f,H a=BD (.dK f)):js T g i:=λt s=>by
 obtain⟨⟨k,v,m⟩,l,ps,o,p⟩:=h t s;have j:∀ {b:Addr} {u:HO},H b=BD u->b ∉ g->(∀ f,u≠.dK f)->i b=BD u:=fun {b u} e n d=>by
  rw[r b (λz=>by
   subst z;rcases q with y|⟨f,y⟩
   ·exact n y
   ·rw[e]at y;cases y;exact d f rfl)]
  exact e
 exact⟨⟨k,v,j m k (λw z=>by cases z)⟩,l,ps,j o l (λw z=>by cases z),p.imp id λ⟨c,e,n,z⟩=>⟨c,e,n,j z n (λw y=>by cases y)⟩⟩
noncomputable def Tb.cv(T:Tb)(x:Xn):Value:=.ref$ T.ca x.cls
noncomputable def DG(c:Nat):Option Nat:=if c<100 then L6 else BD (c / 100 - 1)
def yby(C:Addr)(c:Option Addr)(a:Addr):Heap->Prop:=λh=>∃ o,h.get? a=BD o/\o.cls=.ref C/\∀ b,c=BD b->o.dict=BD b/\∃ d,o.data=.fields d
def É(b:Addr)(n:Nat):Heap->Prop:=λh=>∃ o,h.get? b=BD o/\∃ a c t,o.data=.dict a c/\StrKeys a/\nsFind a "pot" = BD (.int n t)
def pH(K:W.Frag)(H:Hp)(a:Addr)(c:dl):Prop:=
 (∃ o,H a=BD (.Oc o$ .na$ c.map V.int))\/
  ∃ (o:Obj) (b:Array Value) (n:Nat),K.lookup a=BD o/\o.cls=.type "list"/\o.dict=L6/\o.data=.seq b n/\b.size<=sizeLine/\de (c.map V.int) b.toList
def pH.seq{K}(h:pH K H a b):He K H a$ b.map V.int:=by
 rcases h with⟨o,h⟩|h
 ·exact .inl$ .inr ⟨o,h⟩
 ·exact .inr h
def LC(K:W.Frag)(a:Addr)(c:ac):Prop:=∃ (o:Obj) (b:Array Value) (n:Nat),K.lookup a=BD o/\o.cls=.type "tuple"/\o.data=.seq b n/\b.size<=sizeLine/\de (c.map V.str) b.toList
mutual
def Ka(T:Tb)(d:ad)(H:Hp):D->V->Prop
 | .Lb,v=>v=.Lb
 | .bl b,v=>v=.bl b
 | .int i,v=>v=.int i
 | .str x,v=>v=.str x
 | .Ha ds,v=>∃ p f,v=.ref p/\H p=BD (.Ha f)/\Za T d H ds f
 | .Zi ns,v=>∃ a,v=.ref a/\pH T.K H a ns
 | .ref n,v=>∃ a,v=.ref a/\d[n]?=BD a
 | .na ds,v=>∃ a f,v=.ref a/\a ∉ d/\H a=BD (.na f)/\Za T d H ds f
 | .Aa ks ds,v=>∃ a e,v=.ref a/\a ∉ d/\Rd H a (.dK e)/\e.map (·.1)=ks/\Za T d H ds (e.map (·.2))
 | .obj c ns ds,v=>∃ a k h,v=.ref a/\a ∉ d/\H a=BD (.jb (T.ca c) k h)/\h.map (·.1)=ns/\Za T d H ds (h.map (·.2))
 | .pw c,v=>∃ a j,v=.ref a/\a ∉ d/\H a=BD (.ext$ yby (T.ca c) j a)/\∀ n,DG c=BD n->∃ g,j=BD g/\g ∉ d/\H g=BD (.ext$ É g n)
 | .gt ss,v=>∃ a,v=.ref a/\LC T.K a ss
def Za(T:Tb)(b:ad)(H:Hp):g'->gV->Prop
 |[],a=>a=[]
 |d::ds,a=>∃ v r,a=v::r/\Ka T b H d v/\Za T b H ds r
end
def Kp(o b:HO):Prop:=b=o\/(∃ d a,o=.dK a/\b=.Oc d (.dK a))\/∃ e c,o=.El e/\b=.El c
def Kp.trans(x:Kp a b)(y:Kp b c):Kp a c:=by
 rcases x with rfl|⟨h,d,rfl,rfl⟩|⟨g,e,rfl,rfl⟩
 ·exact y
 ·rcases y with rfl|⟨_,_,z,_⟩|⟨_,_,z,_⟩
  ·exact .inr$ .inl ⟨h,d,rfl,rfl⟩
  all_goals simp_all
 ·rcases y with rfl|⟨_,_,z,_⟩|⟨_,f,_,rfl⟩
  ·exact .inr$ .inr ⟨g,e,rfl,rfl⟩
  ·cases z
  ·exact .inr$ .inr ⟨g,f,rfl,rfl⟩
structure pd(μ:ad)(H:Hp)(μ':ad)(H':Hp):Prop where
 pre:∃ r,μ'=μ++r
 Ha:∀ p xs,H p=BD (.Ha xs)->H' p=BD (.Ha xs)
 Oc:∀ p o u,H p=BD (.Oc o u)->H' p=BD (.Oc o u)
 keep:∀ p o,H p=BD o->p ∉ μ->(∃ o',H' p=BD o'/\Kp o o')/\p ∉ μ'
def pd.refl a H:pd a H a H:=⟨⟨[],by simp⟩,λb b h=>h,λb b b h=>h,λb b h n=>⟨⟨_,h,.inl rfl⟩,n⟩⟩
def pd.trans(a:pd g H c e)(b:pd c e d f):pd g H d f:=by
 obtain⟨⟨r,rfl⟩,z,k,k1⟩:=a;obtain⟨⟨y,rfl⟩,A,l,s⟩:=b;exact⟨⟨r++y,by simp⟩,λp xs h=>A p xs$ z p xs h,λp o u h=>l p o u$ k p o u h,λp o h n=>let ⟨⟨w,m,i⟩,t⟩:=k1 p o h n;let ⟨⟨x,q,j⟩,v⟩:=s p w m t;⟨⟨x,q,i.trans j⟩,v⟩⟩
def pd.Th(e:pd f H b d) p o(h:H p=BD o)(n:p ∉ f)(hd:(∀ a,o≠.dK a)/\∀ ps,o≠.El ps:=by exact⟨(λk z=>by cases z),(λk z=>by cases z)⟩):d p=BD o/\p ∉ b:=by
 obtain⟨⟨j,g,c⟩,i⟩:=e.keep p o h n;rcases c with rfl|⟨_,a,z,_⟩|⟨ps,_,z,_⟩;all_goals simp_all
def pd.rd(e:pd k H b f) p a(h:Rd H p$ .dK a)(n:p ∉ k):Rd f p (.dK a)/\p ∉ b:=by
 rcases h with h|⟨d,h⟩
 ·obtain⟨⟨l,g,c⟩,j⟩:=e.keep p _ h n;rcases c with rfl|⟨d,i,z,rfl⟩|⟨_,_,z,_⟩
  ·exact⟨.inl g,j⟩
  ·cases z;exact⟨.inr ⟨d,g⟩,j⟩
  ·cases z
 ·exact⟨.inr ⟨d,e.Oc _ _ _ h⟩,(e.keep p _ h n).2⟩
def pd.get(e:pd c H b d){n:Nat}(h:c[n]?=BD a):b[n]?=BD a:=by
 obtain⟨⟨r,rfl⟩,_,_⟩:=e;rw[Xa (ba.mp h).1];exact h
mutual
theorem Ka.mono{T:Tb}{w m:ad}{H s:Hp}(e:pd w H m s):∀ (d:D) (v:V),Ka T w H d v->Ka T m s d v
 | .Lb,v,h=>by simpa [Ka]using h
 | .bl b,v,h=>by simpa [Ka]using h
 | .int i,v,h=>by simpa [Ka]using h
 | .str x,v,h=>by simpa [Ka]using h
 | .Ha ds,v,h=>by
  rw[Ka]at h ⊢;obtain⟨p,k,g,f,j⟩:=h;exact⟨p,k,g,e.Ha _ _ f,Za.mono e ds k j⟩
 | .Zi ns,v,h=>by
  rw[Ka]at h ⊢;obtain⟨a,g,f⟩:=h;refine⟨a,g,?_⟩;rcases f with⟨o,f⟩|f
  ·exact .inl ⟨o,e.Oc _ _ _ f⟩
  ·exact .inr f
 | .ref n,v,h=>by
  rw[Ka]at h ⊢;obtain⟨a,g,f⟩:=h;exact⟨a,g,e.get f⟩
 | .na ds,v,h=>by
  rw[Ka]at h ⊢;obtain⟨a,k,g,f,j,l⟩:=h;exact⟨a,k,g,(e.Th _ _ j f).2,(e.Th _ _ j f).1,Za.mono e ds k l⟩
 | .Aa ks ds,v,h=>by
  rw[Ka]at h ⊢;obtain⟨a,k,g,f,j,r,l⟩:=h;exact⟨a,k,g,(e.rd _ _ j f).2,(e.rd _ _ j f).1,r,Za.mono e ds _ l⟩
 | .obj c ns ds,v,h=>by
  rw[Ka]at h ⊢;obtain⟨a,A,k,g,f,j,r,l⟩:=h;exact⟨a,A,k,g,(e.Th _ _ j f).2,(e.Th _ _ j f).1,r,Za.mono e ds _ l⟩
 | .pw c,v,h=>by
  rw[Ka]at h ⊢;obtain⟨a,z,g,f,j,l⟩:=h;exact⟨a,z,g,(e.Th _ _ j f).2,(e.Th _ _ j f).1,λn q=>let ⟨y,B,t,u⟩:=l n q;⟨y,B,(e.Th _ _ u t).2,(e.Th _ _ u t).1⟩⟩
 | .gt ss,v,h=>by rw[Ka]at h ⊢;exact h
theorem Za.mono{T:Tb}{g a:ad}{H f:Hp}(e:pd g H a f):∀ (b:g') (c:gV),Za T g H b c->Za T a f b c
 |[],c,h=>by simpa [Za]using h
 |d::b,c,h=>by
  rw[Za]at h ⊢;obtain⟨v,r,i,j,k⟩:=h;exact⟨v,r,i,Ka.mono e d v j,Za.mono e b r k⟩
end
def Za.nil:Za T a H [] []:=by rw[Za]
def Za.cons{T}{b}{H}{d}{v}{c}{a}(e:Ka T b H d v)(f:Za T b H c a):Za T b H (d::c)$ v::a:=by
 rw[Za];exact⟨v,a,rfl,e,f⟩
theorem Za.length:∀ {b:g'} {a:gV},Za T e H b a->b.length=a.length
 |[],a,h=>by rw[Za]at h;subst h;rfl
 |d::b,a,h=>by
  obtain⟨v,r,rfl,_,c⟩:=h;simp[Za.length c]
theorem Za.get:∀ {b:g'} {a:gV} {i:Nat} {d:D},Za T f H b a->b[i]?=BD d->∃ v,a[i]?=BD v/\Ka T f H d v
 |[],a,i,d,h,e=>by simp at e
 |d::b,a,0,x,h,e=>by
  obtain⟨v,r,rfl,g,c⟩:=h
  simp_all
 |d::b,a,i+1,x,h,e=>by
  obtain⟨v,r,rfl,g,c⟩:=h;simpa using Za.get c ⋯
theorem Za.append:∀ {e a:g'} {c b:gV},Za T g H e c->Za T g H a b->Za T g H (e++a) (c++b)
 |[],a,c,b,h,f=>by rw[Za]at h;subst h;simpa using f
 |d::e,a,c,b,h,f=>by
  obtain⟨v,r,rfl,i,j⟩:=h;exact Za.cons i$ Za.append j f
theorem Za.set(hd:Ka T e H d v):∀ {b:g'} {a:gV} (i:Nat),Za T e H b a->Za T e H (b.set i d) (a.set i v)
 |[],a,i,h=>by rw[Za]at h;subst h;simpa using Za.nil
 |x::b,a,0,h=>by
  obtain⟨w,r,rfl,f,c⟩:=h;exact Za.cons hd c
 |x::b,a,i+1,h=>by
  obtain⟨w,r,rfl,f,c⟩:=h;exact Za.cons f$ Za.set hd i c
theorem Za.drop:∀ {b:g'} {a:gV} (n:Nat),Za T c H b a->Za T c H (b.drop n) (a.drop n)
 |b,a,0,h=>by simpa using h
 |[],a,n+1,h=>by rw[Za]at h;subst h;simpa using Za.nil
 |x::b,a,n+1,h=>by
  obtain⟨w,r,rfl,e,d⟩:=h;simpa using Za.drop n d
theorem Za.take:∀ {b:g'} {a:gV} (n:Nat),Za T c H b a->Za T c H (b.take n) (a.take n)
 |b,a,0,h=>by simpa using Za.nil
 |[],a,n+1,h=>by rw[Za]at h;subst h;simpa using Za.nil
 |x::b,a,n+1,h=>by
  obtain⟨w,r,rfl,d,e⟩:=h;exact Za.cons d$ Za.take n e
def ot(T:Tb)(a:ad)(H:Hp):List (Str × D)->List (Str × V)->Prop:=Paired λp q=>p.1=q.1/\Ka T a H p.2 q.2
def Wg(T:Tb)(a:ad)(H:Hp):List (Nc × D)->List (Nc × V)->Prop:=Paired λp q=>p.1=q.1/\Ka T a H p.2 q.2
def Ho(T:Tb)(e:ad)(H:Hp)(a:Addr):Ob->Prop
 | .na ds=>∃ b,H a=BD (.na b)/\Za T e H ds b
 | .Aa d=>∃ b,H a=BD (.dK b)/\Wg T e H d b
 | .jb c g=>∃ f b,H a=BD (.jb (T.ca c) f b)/\ot T e H g b
 | .Fb d=>∃ h b,H a=BD (.Oc h$ .dK b)/\Wg T e H d b
 | .Je ks=>∃ b,H a=BD (.dT b)/\b.map (·.1)=ks
structure Xc(T:Tb)(μ:ad)(H:Hp)(σ:Ca):Prop where
 len:μ.length=σ.length
 nd:μ.Nodup
 obs:∀ (n:Nat) (o:Ob),σ[n]?=BD o->∃ a,μ[n]?=BD a/\Ho T μ H a o
 tb:js T μ H
def sh(T:Tb)(b:ad)(H:Hp)(a:Ev)(st:St):Prop:=a.length=st.length/\∀ (i:Nat) (d:D),a[i]?=BD (BD d)->∃ v,st[i]?=BD (BD v)/\Ka T b H d v
def sh.mono{st}(e:pd c H a b)(h:sh T c H ρ st):sh T a b ρ st:=
 ⟨h.1,λi d q=>let ⟨v,f,g⟩:=h.2 i d q;⟨v,f,Ka.mono e d v g⟩⟩
set_option tactic.hygienic true in
def sh.set{st}(h:sh T a H ρ st) i(r:Ka T a H d v):sh T a H (ρ.set i$ BD d)$ st.set i$ BD v:=by
 refine⟨by simpa using h.1,λj x q=>?_⟩;rw[Ef]at q;by_cases b:i=j
 ·subst b;rw[ia rfl]at q;split at q
  ·rename_i c
   cases q;exact⟨v,by rw[Ef,ia rfl,ia (by rw[<-h.1];exact c)],r⟩
  ·cases q
 ·rw[qa b]at q;obtain⟨w,e,f⟩:=h.2 j x q
  simp_all
def M9(e:Addr)(b a0:Value)(h:Heap):Prop:=∃ c a,h.get? e=BD c/\c.cls=b/\c.data=.fields a/\1<a.size/\a[0]?=BD a0/\a[1]?=BD .none
def Wo(B:Heap)(l:List qg)(e:Addr)(a a0:Value)(h:Heap):Prop:=B.StaysIn h/\B.get? e=L6/\h.FunFrames B l/\((∃ b,h.TracedAtW B e a a0 b)\/M9 e a a0 h)
def yub(o:Obj)(n:Nat):Prop:=∃ a b t,o.data=.dict a b/\StrKeys a/\nsFind a "pot" = BD (.int n t)
def oE(f:Option Nat)(e:Addr)(B h g:Heap)(d:Hp):Prop:=∀ n,f=BD n->∃ a b c,h.get? e=BD c/\c.dict=BD a/\B.get? a=BD b/\yub b n/\d a=L6/\g.get? a=L6
inductive HE(outer:List qg)(H:Hp)(s:Shared)(cls:Value)(fd:Option Nat)(H':Hp)(e:Value)(s':Shared):Prop
 |mk (ea:Addr) (a0:Value) (B:Heap) (f1:e=.ref ea) (f2:Wo B outer ea cls a0 s'.heap) (f3:H' ea=L6) (f4:s.heap.get? ea=L6) (f5:(∀ b o,H' b=BD o->∃ ob,B.get? b=BD ob)) (f6:(∀ b o,s.heap.get? b=BD o->H b=L6->b ∉ dk outer->B.get? b=BD o)) (f7:(∀ b o,s.heap.get? b=BD o->b ∉ dk outer->∃ o',B.get? b=BD o')) (f8:oE fd ea B s'.heap s.heap H'):HE outer H s cls fd H' e s'
structure gB(P:xa)(w:Ma)(outer:List qg)(H:Hp)(s:Shared)(cls:Value)(fd:Option Nat)(H':Hp)(e:Value)(s':Shared):Prop where
 ex:HE outer H s cls fd H' e s'
 os:s'.os=s.os
 bare:Ah s'.gens
 un:Un (dk outer) [] H H' s.heap s'.heap
 lc:Xh P w H' s'.heap
noncomputable def wl(P:xa)(w:Ma):Aw:=λa H s E e f=>∃ b d c,gB P w a H s b d c e f/\E b d c
structure aC(X:Cx)(st:St)(cls:Value)(fd:Option Nat)(H':Hp):Prop where
 WG:∀ (pins:em) (H:Hp) (s:Shared) (e:Value) (s':Shared),Ta X pins st H s->gB X.prog X.w X.stack H s cls fd H' e s'->X.xe e s'
noncomputable abbrev XE(X:Cx)(d:St):XK:=λa c b=>aC X d a c b
def Kb{d e:Type}(T:Tb)(E:XK)(R:ad->Hp->d->e->Prop)(f:ad)(H:Hp)(o:Ji d)(Q:e->Hp->Prop):Prop:=match o with
 | .ok a σ=>∀ b g c,pd f H b c->Xc T b c σ->R b c a g->Q g c
 | .ex x σ=>∀ b c,pd f H b c->Xc T b c σ->E (T.cv x) (DG x.cls) c
 | .pb=>False
def Kb.mono{R}{o:Ji j}{Q:k->Hp->Prop}(e:pd l H c i)(h:Kb T E R l H o Q):Kb T E R c i o Q:=by
 cases o with
 |ok a σ=>exact λb g d f r q=>h b g d (e.trans f) r q
 |ex x σ=>exact λb d f r=>h b d (e.trans f) r
 |pb=>exact h
def Kb.imp{R}{o:Ji e}{Q d:f->Hp->Prop}(h:Kb T E R i H o Q)(k:∀ g b,Q g b->d g b):Kb T E R i H o d:=by
 cases o with
 |ok a σ=>exact λc g b j r q=>k _ _$ h c g b j r q
 |ex x σ=>exact h
 |pb=>exact h
def Kb.bind{R:ad->Hp->j->u->Prop}{p}{m}{k:j->M t}{Q:v->Hp->Prop}{o}
  (h:Kb T E p l H (Lc m k i) Q) (f:∀ a b c g d,m i=.ok a b->pd l H c d->Xc T c d b->R c d a g->Kb T E p c d (k a b) Q->o g d):Kb T E R l H (m i) o:=by
 unfold Lc at h;cases e:m i with
 |ok a b=>
  rw[e]at h;exact λn g w s r q=>f a b n g w e s r q$ h.mono s
 |ex x b=>rw[e]at h;exact h
 |pb=>rw[e]at h;exact h
def Kb.here{R}{d:c}{g:b}{Q}(h:Kb T E R a H (.ok d e) Q)(r:Xc T a H e)(p:R a H d g):Q g H:=h a g H (pd.refl _ _) r p
inductive kC(T:Tb)(st:St)(H:Hp)(P:ad->Ev->Ca->Prop):Prop
 |mk (μ:ad) (ρ:Ev) (σ:Ca) (e:sh T μ H ρ st) (r:Xc T μ H σ) (p:P μ ρ σ):kC T st H P
section
variable(T:Tb)(X:Cx)
def tF(f:Ev->M D):TE:=λa H Q=>kC T a H λb c d=>Kb T (XE X a) (Ka T) b H (f c d) Q
def zO:ad->Hp->Bool->Bool->Prop:=λc c a b=>b=a
def tT(f:Ev->M Bool):TT:=λa H Q=>kC T a H λb c d=>Kb T (XE X a) zO b H (f c d) Q
def tL(f:Ev->M (g')):TA:=λa H Q=>kC T a H λb c d=>Kb T (XE X a) (Za T) b H (f c d) Q
inductive Jp where
 |nx (st:St)|rt (v:V)|bk (st:St)|ct (st:St)|xc (st:St) (cls:Value) (fd:Option Nat)
def zq(T:Tb)(b:ad)(H:Hp):Fl->Jp->Prop
 | .nx a,.nx st=>sh T b H a st
 | .rt d,.rt v=>Ka T b H d v
 | .bk a,.bk st=>sh T b H a st
 | .ct a,.ct st=>sh T b H a st
 | .xc a x,.xc st cls fd=>sh T b H a st/\cls=T.cv x/\fd=DG x.cls
 |_,_=>False
def dr(X:Cx)(D:Nl):Jp->Hp->Prop
 | .nx st,H=>D.nx st H
 | .rt v,H=>D.rt v H
 | .bk st,H=>D.bk st H
 | .ct st,H=>D.ct st H
 | .xc st cls fd,H=>aC X st cls fd H
noncomputable abbrev EN:XK:=λa a a=>False
def tS(g:Ev->M Fl):TS:=λD a H=>kC T a H λb c d=>Kb T EN (zq T) b H (g c d)$ dr X D
end
noncomputable def xs{c:Type}(d:Ev)(m:M c)(k:c->M Fl):M Fl:=λe=>match m e with
 | .ok a b=>k a b
 | .ex x b=>.ok (.xc d x) b
 | .pb=>.pb
def Kb.xs{D}{R}{st}{m:M p}{k}{s:t->Hp->Prop}(v:sh T l H u st)
  (h:Kb T EN (zq T) l H (L4.xs u m k n)$ dr X D) (f:∀ a b c g i,m n=.ok a b->pd l H c i->Xc T c i b->R c i a g->Kb T EN (zq T) c i (k a b) (dr X D)->s g i):Kb T (XE X st) R l H (m n) s:=by
 unfold L4.xs at h;cases e:m n with
 |ok a b=>
  rw[e]at h;exact λd g o j r q=>f a b d g o e j r q$ h.mono j
 |ex x b=>
  rw[e]at h;intro d o j r;exact h d (.xc st _ _) o j r ⟨v.mono j,rfl,rfl⟩
 |pb=>rw[e]at h;exact h
abbrev FE(T:Tb)(X:Cx)(e:Ja)(f:Ev->M D):Prop:=PE X e$ tF T X f
abbrev FT(T:Tb)(X:Cx)(e:Ja)(f:Ev->M Bool):Prop:=PT X e$ tT T X f
abbrev FW(T:Tb)(X:Cx)(e:Ja)(f:Ev->M Bool):Prop:=PW X e$ tT T X f
abbrev FA(T:Tb)(X:Cx)(a:List Ja)(f:Ev->M (g')):Prop:=PA X a$ tL T X f
abbrev FS(T:Tb)(X:Cx)(a:Stmt)(g:Ev->M Fl):Prop:=PS X a$ tS T X g
abbrev rl(T:Tb)(X:Cx)(a:List Stmt)(g:Ev->M Fl):Prop:=Bu X a$ tS T X g
noncomputable def Yf:Nat:=1000
def cz(h:n<=Yf):n<=sizeLine:=Ed$ yS h
def RX(h:n<Yf):n<sizeLine:=yS$ Ed h
def WH{l:List g}(h:l.Nodup){i j:Nat}{a:g}(k:l[i]?=BD a)(m:l[j]?=BD a):i=j:=by
 obtain⟨c,d⟩:=ba.mp k;obtain⟨e,f⟩:=ba.mp m;have b:=Ko.mp h;rcases Rw i j with z|z|z
 ·exact absurd (d.trans f.symm)$ b i j c e z
 ·exact z
 ·exact absurd (f.trans d.symm)$ b j i e c z
section
variable{T:Tb}{μ μ':ad}{H H':Hp}{σ:Ca}
def kN(e:pd μ H μ' H'){xs}{b}(h:Paired (λ p q =>p.1=q.1/\Ka T μ H p.2 q.2) xs b) :
  Paired (λ(p:a × D) (q:a × V)=>p.1=q.1/\Ka T μ' H' p.2 q.2) xs b:=L2.Paired.bq h λp q z=>⟨z.1,Ka.mono e _ _ z.2⟩
theorem Ho.mono(e:pd μ H μ' H')(d:H' a=H a):∀ {o:Ob},Ho T μ H a o->Ho T μ' H' a o
 | .na ds,⟨b,h,r⟩=>⟨b,d.trans h,Za.mono e _ _ r⟩
 | .Aa f,⟨b,h,r⟩=>⟨b,d.trans h,kN e r⟩
 | .jb c j,⟨g,b,h,r⟩=>⟨g,b,d.trans h,kN e r⟩
 | .Fb f,⟨i,b,h,r⟩=>⟨i,b,d.trans h,kN e r⟩
 | .Je ks,⟨b,h,r⟩=>⟨b,d.trans h,r⟩
theorem Ho.some:∀ {o:Ob},Ho T μ H a o->∃ u,H a=Option.some u/\(∀ xs,u≠.Ha xs)
 | .na ds,⟨b,h,r⟩=>⟨_,h,(λi z=>by cases z)⟩
 | .Aa d,⟨b,h,r⟩=>⟨_,h,(λi z=>by cases z)⟩
 | .jb c f,⟨e,b,h,r⟩=>⟨_,h,(λi z=>by cases z)⟩
 | .Fb d,⟨g,b,h,r⟩=>⟨_,h,(λi z=>by cases z)⟩
 | .Je ks,⟨b,h,r⟩=>⟨_,h,(λi z=>by cases z)⟩
theorem Ho.eG:∀ {o:Ob},(∀ b,o≠.Fb b)->Ho T μ H a o->∃ u,H a=Option.some u/\(∀ xs,u≠.Ha xs)/\(∀ e w,u≠.Oc e w)
 | .na ds,_,⟨d,h,r⟩=>⟨_,h,(λi z=>by cases z),(λi i z=>by cases z)⟩
 | .Aa b,_,⟨d,h,r⟩=>⟨_,h,(λi z=>by cases z),(λi i z=>by cases z)⟩
 | .jb c g,_,⟨f,d,h,r⟩=>⟨_,h,(λi z=>by cases z),(λi i z=>by cases z)⟩
 | .Fb b,n,_=>absurd rfl (n b)
 | .Je ks,_,⟨d,h,r⟩=>⟨_,h,(λi z=>by cases z),(λi i z=>by cases z)⟩
def Xc.keep(r:Xc T μ H σ)(e:pd μ H μ H')(k:∀ a∈μ,H' a=H a)(t:js T μ H'):Xc T μ H' σ:=
 ⟨r.len,r.nd,λn o h=>let ⟨a,b,c⟩:=r.obs n o h;⟨a,b,c.mono e$ k a$ wa b⟩,t⟩
def Xc.mem(r:Xc T μ H σ)(h:a∈μ):∃ u,H a=BD u/\(∀ xs,u≠.Ha xs):=by
 obtain⟨n,c⟩:=Es h;have f:n<σ.length:=by rw[<-r.len];exact(ba.mp c).1
 obtain⟨e,b,d⟩:=r.obs n σ[n] ⋯;rw[c]at b;cases b;exact d.some
def qj(a:H p=L6):pd μ H μ$ Nb H p o:=
 ⟨⟨[],by simp⟩,λq xs h=>by rw[Vd$ Cm h a];exact h,λq b u h=>by rw[Vd$ Cm h a];exact h,λq b h n=>⟨⟨b,by rw[Vd$ Cm h a];exact h,.inl rfl⟩,n⟩⟩
def Xc.fresh(r:Xc T μ H σ)(c:H p=L6):Xc T μ (Nb H p o) σ:=
 r.keep (qj c) (λa d=>by obtain⟨u,h,_⟩:=r.mem d;rw[Vd$ Cm h c]) (r.tb.grow λb u h=>by rw[Vd$ Cm h c];exact h)
def iw(a:H p=L6):pd μ H (μ++[p])$ Nb H p o:=
 ⟨⟨[p],rfl⟩,(qj (μ:=μ) a).Ha,(qj (μ:=μ) a).Oc,λq b h n=>⟨((qj a).keep q b h n).1,λz=>(Yd.mp z).elim n λz=>Cm h a ⋯⟩⟩
def Xc.push(r:Xc T μ H σ)(c:H p=L6)(s:Ho T (μ++[p]) (Nb H p o) p ob):Xc T (μ++[p]) (Nb H p o)$ σ++[ob]:=by
 refine⟨by simp[r.len],?_,λn x h=>?_,(r.tb.more c).grow λb u h=>by rw[Vd$ Cm h c];exact h⟩
 ·rw[Uc];refine⟨r.nd,by simp,λa l b m e=>?_⟩;have i:b=p:=by simpa using m
  subst i;subst e;obtain⟨u,h,_⟩:=r.mem l
  simp_all
 ·by_cases f:n<σ.length
  ·rw[Xa f]at h;obtain⟨a,k,d⟩:=r.obs n x h;obtain⟨u,q,_⟩:=d.some;exact⟨a,by rw[Xa (by rw[r.len];exact f)];exact k,d.mono (iw c)$ Vd$ Cm q c⟩
  ·rw[pc ⋯]at h;have g:n - σ.length=0:=by
    have:=(ba.mp h).1;simp at this;lia
   rw[g]at h;simp at h;subst h;have j:n=μ.length:=by rw[r.len];lia
   subst j
   grind
def KC(r:Xc T μ H σ):Ka T (μ++[p]) (Nb H p o) (.ref σ.length)$ .ref p:=by
 rw[Ka];exact⟨p,rfl,by rw[<-r.len];simp⟩
def Js(f:a∈μ)(c:H a=BD u)(d:∀ xs,u≠.Ha xs)(e:∀ b w,u≠.Oc b w):pd μ H μ$ Nb H a o:=
 ⟨⟨[],by simp⟩,λq xs h=>by rw[Vd$ aO h c (λz=>d xs z.symm)];exact h,λq b w h=>by rw[Vd$ aO h c (λz=>e b w z.symm)];exact h,λq b h n=>⟨⟨b,by rw[Vd (λz=>n ⋯)];exact h,.inl rfl⟩,n⟩⟩
def Xc.write(r:Xc T μ H σ)(d:μ[n]?=BD a)(v:Ho T μ (Nb H a o) a ob)(q:∀ c,σ[n]?≠BD (.Fb c):=by intro c z;simp_all [af]):pd μ H μ (Nb H a o)/\Xc T μ (Nb H a o) (σ.set n ob):=by
 obtain⟨u,p,f,g⟩:∃ u,H a=BD u/\(∀ xs,u≠.Ha xs)/\(∀ ob w,u≠.Oc ob w):=by
  have t:n<σ.length:=by rw[<-r.len];exact(ba.mp d).1
  obtain⟨s,f,g⟩:=r.obs n σ[n] ⋯;rw[d]at f;cases f;exact g.eG λc z=>q c ⋯
 have e:pd μ H μ$ Nb H a o:=Js (wa d) p f g;refine⟨e,by simp[r.len],r.nd,λm x h=>?_,r.tb.out (λb l=>Vd l)$ .inl$ wa d⟩;rw[Ef]at h;by_cases i:n=m
 ·subst i
  simp_all
 ·rw[qa i]at h;obtain⟨b,j,k⟩:=r.obs m x h;refine⟨b,j,k.mono e (Vd λz=>i ?_)⟩;subst z;exact WH r.nd d j
def Xc.at(r:Xc T μ H σ)(h:Ka T μ H (.ref n) v)(e:σ[n]?=BD o):∃ a,v=.ref a/\μ[n]?=BD a/\Ho T μ H a o:=by
 obtain⟨a,rfl,f⟩:=h;obtain⟨b,c,d⟩:=r.obs n o e
 simp_all
end
noncomputable def ja(i:Nat):Ev->M D:=λa b=>match a[i]? with
 |some (BD d)=>.ok d b
 |_=>.pb
noncomputable def eC(d:D):Ev->M D:=λa=>ret d
noncomputable def EO(o:D->D->M D)(m:M D)(x:D):M D:=Lc m$ o x
def Sa(o:D->D->M D)(a b:Ev->M D):Ev->M D:=λc=>Lc (a c)$ EO o$ b c
noncomputable def Vc(o:D->M D)(a:Ev->M D):Ev->M D:=λb=>Lc (a b) o
noncomputable def XC(d:D):M Bool:=match d with
 | .bl b=>ret b
 |_=>pb
noncomputable def Ij{a:Type}(p q:M a)(c:Bool):M a:=if c=A3 then p else q
noncomputable def IL(c:Bool):M Bool:=ret$ !c
def jz{a:Type}(k:Bool->M a)(d:D):M a:=Lc (XC d) k
def eT(f:Ev->M D):Ev->M Bool:=λa=>Lc (f a) XC
noncomputable def Pq(a b:Ev->M Bool):Ev->M Bool:=λc=>Lc (a c)$ Ij (b c)$ ret Ŷ
noncomputable def IA(a b:Ev->M Bool):Ev->M Bool:=λc=>Lc (a c)$ Ij (ret A3)$ b c
def Ks(a:Ev->M Bool):Ev->M Bool:=λb=>Lc (a b) IL
noncomputable def EJ(a b:Ev->M D):Ev->M D:=λc=>Lc (a c)$ jz$ Ij (b c)$ ret$ .bl Ŷ
noncomputable def cZ(a b:Ev->M D):Ev->M D:=λc=>Lc (a c)$ jz$ Ij (ret$ .bl A3)$ b c
noncomputable def qN(c:Bool):M D:=ret$ .bl$ !c
def sT(a:Ev->M D):Ev->M D:=λb=>Lc (a b)$ jz qN
noncomputable def uw(t:Ev->M Bool)(a b:Ev->M D):Ev->M D:=λc=>Lc (t c)$ Ij (a c)$ b c
noncomputable def Ua:Ev->M (g'):=λa=>ret []
noncomputable def sO(x:D)(xs:g'):M$ g':=ret$ x::xs
def YO(m:M$ g')(x:D):M$ g':=Lc m$ sO x
def Ba(e:Ev->M D)(r:Ev->M (g')):Ev->M (g'):=λa=>Lc (e a)$ YO$ r a
def Fy(a:g'):M D:=if a.length<=Yf then ret (.Ha a)else pb
def Ng(a:Ev->M (g')):Ev->M D:=λb=>Lc (a b) Fy
noncomputable def yA(b:g'):M D:=λa=>.ok (.ref a.length)$ a++[.na b]
def xD(a:g'):M D:=if a.length<=Yf then yA a else pb
def Nr(a:Ev->M (g')):Ev->M D:=λb=>Lc (a b) xD
def Yx(a:g'):M D:=if a.length<=Yf then ret (.na a)else pb
def Em(a:Ev->M (g')):Ev->M D:=λb=>Lc (a b) Yx
def zk(T:Tb)(r:R2)(o:D->D->M D):Prop:=∀ (E:XK) a H b x y v u Q,Xc T a H b->Ka T a H x v->Ka T a H y u->Kb T E (Ka T) a H (o x y b) Q->r v u H Q
def AY(T:Tb)(r:V->Hp->VK->Prop)(o:D->M D):Prop:=∀ (E:XK) a H b x v Q,Xc T a H b->Ka T a H x v->Kb T E (Ka T) a H (o x b) Q->r v H Q
def br(T:Tb)(r:gV->Hp->VK->Prop)(o:g'->M D):Prop:=∀ (E:XK) a H c xs b Q,Xc T a H c->Za T a H xs b->Kb T E (Ka T) a H (o xs c) Q->r b H Q
end L4
open L4.D renaming int->Z,ref->U,na->ώ,Ha->Ϗ,str->ϐ,bl->ϒ,Lb->Ϛ,Aa->Ϭ,obj->Ϲ
open L4.Ji renaming ok->Y,pb->ϗ
open L4.Ob renaming Aa->J,na->ϑ,jb->ϓ,Fb->Ϡ
open PySem.W renaming Frag->ϔ,kitOne->Ϫ,fnOf->Ϯ,kla_obj->ϳ,keepIn->Ϻ,callWith_K->ϻ
open L2.V renaming ref->ϕ,int->ϣ,bl->ϫ
open Or renaming inl->ϖ,inr->ϙ
open L4.Fl renaming nx->Ϙ
open PySem.Expr renaming Name->ϛ,Attribute->ϝ,Call->ϟ,Subscript->Ϣ,Tuple->ϰ,ListComp->ϴ,BoolOp->Ϸ
open L2.HO renaming dK->Ϝ,ext->Ϧ,Oc->ϧ,na->ϯ
open PySem.Value renaming builtin->Ϟ
open PySem.Paired renaming cons->ϡ,nil->Ϥ
open PySem.ScopeKind renaming function->ϥ
open PySem.Data renaming seq->Ϩ,fields->ϩ
open L4.pd renaming refl->ϭ
open False renaming elim->ϱ
open HT renaming Te->ϲ
open True renaming intro->ϵ
open L4.Jp renaming nx->ϸ
variable{T:L4.Tb}{X:L2.Cx}
namespace L4
open Spec L2
section
variable{a b c:Ja}{fa fb:Ev->M D}{ta tb:Ev->M Bool}{pos:Td}
def Bj i(h:X.N[i]?=BD x:=by rfl)(l:HJ X.env.scope x:=by first|exact Or.inl rfl|exact Or.inr$ Or.inl rfl|exact Or.inr$ Or.inr rfl)(hd:(x == ("__debug__" : Str))=Ŷ:=by decide)
  (c:(x == ("__classdict__" : Str))=Ŷ:=by decide):FE T X (ϛ x pos)$ ja i:=by
 rintro b s st H Q I ⟨n,m,p,j,k,a⟩;refine V4 h l hd c b s st H Q I ?_;unfold ja at a;cases e:m[i]? with
 |none=>rw[e]at a;exact a.elim
 |some o=>
  cases o with
  |none=>rw[e]at a;exact a.elim
  |some d=>
   rw[e]at a;obtain⟨v,f,g⟩:=j.2 i d e;exact⟨v,f,a.here k g⟩
def uC(h:PE X e$ tC v)(r:∀ b H,Ka T b H d v):FE T X e$ eC d:=by
 rintro a s g H Q I ⟨b,ρ,j,i,f,c⟩;exact h a s g H Q I$ Kb.here c f$ r _ _
def mF{j}:FE T X (.Constant (.int i) j pos)$ eC$ Z i:=uC ā λa a=>by rw[Ka]
def ĩ{j}:FE T X (.Constant (.bool i) j pos)$ eC$ ϒ i:=uC Ε λa a=>by rw[Ka]
def yei{j}:FE T X (.Constant .none j pos)$ eC Ϛ:=uC E8 λa a=>by rw[Ka]
def mP{j}:FE T X (.Constant (.str i) j pos)$ eC$ ϐ i:=uC Y2 λa a=>by rw[Ka]
def B3(a:Gl X x)(b:X.mg x=BD u)(r:gd (ϣ i) u)(hd:(x == ("__debug__" : Str))=Ŷ:=by decide):FE T X (ϛ x pos)$ eC$ Z i:=uC (qI a b r hd) λc c=>by rw[Ka]
def two(m:zk T r o)(h:tF T X (Sa o fa fb) e H Q):VB r (tF T X fa) (tF T X fb) e H Q:=by
 obtain⟨z,f,A,d,l,k⟩:=h;exact⟨z,f,A,d,l,k.bind λx c a v B C i t n q=>⟨a,f,c,d.mono i,t,q.bind λy σ2 b u g C j w p s=>m _ b g σ2 x y v u Q w (Ka.mono j _ _ n) p s⟩⟩
def Pt(g:Ch X (je d) r)(i:zk T r o)(e:FE T X a fa)(f:FE T X b fb):FE T X (.BinOp a d b pos)$ Sa o fa fb:=
 λc s j H Q I h=>o8 g e f c s j H Q I$ two i h
def Dp(i:Ch X (Eb d) r)(j:zk T r o)(e:FE T X a fa)(f:FE T X b fb)(g:Ud d b=Ŷ):FE T X (.Compare a [d] [b] pos)$ Sa o fa fb:=
 λc s k H Q I h=>K9 i e f g c s k H Q I$ two j h
def rN(f:Qx X r)(i:zk T r o)(d:FE T X a fa)(e:FE T X b fb)(g:vR b):FE T X (Ϣ a b pos)$ Sa o fa fb:=
 λc s j H Q I h=>yq3 f d e g c s j H Q I$ two i h
def yn2(j:lJ X (unaryOp e) r)(m:AY T r o)(g:FE T X a fa):FE T X (.UnaryOp e a pos)$ Vc o fa:=by
 intro b s t H Q I h;refine D3 j g b s t H Q I ?_;obtain⟨u,w,y,i,l,k⟩:=h;exact⟨u,w,y,i,l,k.bind λx d c v f A z q n p=>m _ c f d x v Q q n p⟩
def KI{a}{b}{k:Bool->M e}{Q:f->Hp->Prop}(r:Ka T a H d v)(h:Kb T E b a H (Lc (XC d) k g) Q):∃ c,d=ϒ c/\v=ϫ c/\Kb T E b a H (k c g) Q:=by
 cases d with
 |bl c=>rw[Ka]at r;exact⟨c,rfl,r,h⟩
 |_=>exact h.elim
def RM{b}{a}(r:Ka T a H d v)(h:Kb T E zO a H (XC d b) Q):∃ c,v=ϫ c/\Kb T E zO a H (Y c b) Q:=by
 cases d with
 |bl c=>rw[Ka]at r;exact⟨c,r,h⟩
 |_=>exact h.elim
def Rq(m:Ch X (Eb e) r)(t:zk T r o)(g:FE T X a fa)(i:FE T X b fb)(l:Ud e b=Ŷ):FT T X (.Compare a [e] [b] pos)$ eT$ Sa o fa fb:=by
 intro c s st H Q I h;refine WN m g i l c s st H Q I$ two t ?_;obtain⟨y,ρ,A,j,p,n⟩:=h;refine⟨y,ρ,A,j,p,n.bind λd B z v C d E x u w=>?_⟩;obtain⟨k,f,q⟩:=RM u w;exact⟨k,f,q.here x rfl⟩
def JO(h:FE T X e f)(i:∀ a,QB e X.env a=(do let v <-a;Kg e.pos;Od [v] (truthy v)):=by intro _;rfl):FT T X e$ eT f:=by
 intro b s st H Q I m;refine X2 h i b s st H Q I ?_;obtain⟨r,ρ,u,g,l,j⟩:=m;refine⟨r,ρ,u,g,l,j.bind λd w t v x d y p n o=>?_⟩;obtain⟨k,c,q⟩:=RM n o;exact⟨k,c,q.here p rfl⟩
def WR(h:FT T X a ta):FT T X (.UnaryOp .Not a pos)$ Ks ta:=by
 intro b s l H Q I g;refine ð h b s l H Q I ?_;obtain⟨m,o,p,d,f,e⟩:=g;exact⟨m,o,p,d,f,e.bind λc q n v r c t k i j=>by cases i;exact j.here k rfl⟩
variable{rest:List Ja}
def EZ(h:FT T X a ta):FW T X (Ϸ .And [a] pos) ta:=zy7 h
def XZ(h:FT T X a ta):FW T X (Ϸ .Or [a] pos) ta:=Í h
theorem YY(h:FT T X a ta)(m:FW T X (Ϸ .And (b::rest) pos) tb):FW T X (Ϸ .And (a::b::rest) pos)$ Pq ta tb:=by
 intro t e s r H Q I p;refine j3 h m t e s r H Q I ?_;obtain⟨u,k,w,i,o,n⟩:=p;refine⟨u,k,w,i,o,n.bind λc g f v x y l j q d=>?_⟩;cases q;cases c with
 |true=>unfold Ij at d;rw[ia rfl]at d ⊢;exact⟨f,k,g,i.mono l,j,d⟩
 |false=>unfold Ij at d;rw[qa Ya]at d ⊢;exact d.here j rfl
def OU(h:FT T X a ta)(m:FW T X (Ϸ .Or (b::rest) pos) tb):FW T X (Ϸ .Or (a::b::rest) pos)$ IA ta tb:=by
 intro t e s r H Q I p;refine O7 h m t e s r H Q I ?_;obtain⟨u,k,w,i,o,n⟩:=p;refine⟨u,k,w,i,o,n.bind λc g f v x y l j q d=>?_⟩;cases q;cases c with
 |true=>unfold Ij at d;rw[ia rfl]at d ⊢;exact d.here j rfl
 |false=>unfold Ij at d;rw[qa Ya]at d ⊢;exact⟨f,k,g,i.mono l,j,d⟩
def hH{op}(h:FE T X a fa):FE T X (Ϸ op [a] pos) fa:=yio h
def XF(h:FE T X a fa)(m:FE T X (Ϸ .And (b::rest) pos) fb):FE T X (Ϸ .And (a::b::rest) pos)$ EJ fa fb:=by
 intro e s u H Q I p;refine Χ h m e s u H Q I ?_;obtain⟨w,ρ,x,i,o,n⟩:=p;refine⟨w,ρ,x,i,o,n.bind λd g f v y d k j r t=>?_⟩;obtain⟨c,rfl,l,q⟩:=KI r t;refine⟨c,l,?_⟩;cases c with
 |true=>unfold Ij at q;rw[ia rfl]at q ⊢;exact⟨f,ρ,g,i.mono k,j,q⟩
 |false=>unfold Ij at q;rw[qa Ya]at q ⊢;exact Kb.here q j (by rw[Ka])
def ĉ(h:FE T X a fa)(m:FE T X (Ϸ .Or (b::rest) pos) fb):FE T X (Ϸ .Or (a::b::rest) pos)$ cZ fa fb:=by
 intro e s u H Q I p;refine U5 h m e s u H Q I ?_;obtain⟨w,ρ,x,i,o,n⟩:=p;refine⟨w,ρ,x,i,o,n.bind λd g f v y d k j r t=>?_⟩;obtain⟨c,rfl,l,q⟩:=KI r t;refine⟨c,l,?_⟩;cases c with
 |true=>unfold Ij at q;rw[ia rfl]at q ⊢;exact Kb.here q j (by rw[Ka])
 |false=>unfold Ij at q;rw[qa Ya]at q ⊢;exact⟨f,ρ,g,i.mono k,j,q⟩
def yej(h:FE T X a fa):FE T X (.UnaryOp .Not a pos)$ sT fa:=by
 intro b s n H Q I j;refine yin h b s n H Q I ?_;obtain⟨o,ρ,r,f,i,g⟩:=j;refine⟨o,ρ,r,f,i,g.bind λd t p v u d w m k l=>?_⟩;obtain⟨c,rfl,e,q⟩:=KI k l;exact⟨c,e,Kb.here q m (by rw[Ka])⟩
def o7(n:FT T X c ta)(l:FE T X a fa)(m:FE T X b fb):FE T X (.IfExp c a b pos)$ uw ta fa fb:=by
 intro f s t H Q I q;refine é n l m f s t H Q I ?_;obtain⟨u,ρ,w,i,p,o⟩:=q;refine⟨u,ρ,w,i,p,o.bind λd h g v x y j k r e=>?_⟩;cases r;cases d with
 |true=>unfold Ij at e;rw[ia rfl]at e ⊢;exact⟨g,ρ,h,i.mono j,k,e⟩
 |false=>unfold Ij at e;rw[qa Ya]at e ⊢;exact⟨g,ρ,h,i.mono j,k,e⟩
variable{e:Ja}{es:List Ja}{fe:Ev->M D}{fs:Ev->M (g')}
def Ru:FA T X [] Ua:=by
 intro pos a s e H Q I d;refine Nt pos a s e H Q I ?_;obtain⟨g,h,i,f,c,b⟩:=d;exact Kb.here b c Za.nil
def Vp(j:FE T X e fe)(b:FA T X es fs)(l:ka (e::es) X.env=(Ŷ,Cb e X.env)::ka es X.env:=by rfl):FA T X (e::es)$ Ba fe fs:=by
 intro pos a s u H Q I m;refine yr j b l pos a s u H Q I ?_;obtain⟨w,ρ,y,g,b,k⟩:=m;exact⟨w,ρ,y,g,b,k.bind λd f c v A d h r n p=>⟨c,ρ,f,g.mono h,r,p.bind λC z x D B d i t o q=>Kb.here q t$ Za.cons (Ka.mono i _ _ n) o⟩⟩
def DD{a}{e}{c}(h:Kb T E (Ka T) a H (Y (Ϗ d) e) Q)(r:Xc T a H e)(q:Za T a H d c)(b:H p=L6):Q (ϕ p)$ Nb H p$ .Ha c:=
 h a _ _ (qj b) (r.fresh b) (by rw[Ka];exact⟨p,c,rfl,qf,Za.mono (qj b) _ _ q⟩)
def dC{c}{e}{b}(h:Kb T E (Ka T) c H (yA d e) Q)(r:Xc T c H e)(q:Za T c H d b)(a:H p=L6):Q (ϕ p)$ Nb H p$ ϯ b:=
 h _ _ _ (iw a) (r.push a ⟨b,qf,Za.mono (iw a) _ _ q⟩)$ KC r
def bS{x1}(h:FA T X es fs):FE T X (ϰ es x1 pos)$ Ng fs:=by
 intro a s l H Q I j;refine w4 h a s l H Q I ?_;obtain⟨m,o,σ,g,i,d⟩:=j;refine⟨m,o,σ,g,i,d.bind λf q n u r p t k e b=>?_⟩;unfold Fy at b;by_cases c:f.length<=Yf
 ·rw[ia c]at b;exact⟨by rw[<-e.length];exact cz c,λp d=>DD b k e d⟩
 ·rw[qa c]at b;exact b.elim
def yeg(h:FA T X es fs):FE T X (.List es pos)$ Nr fs:=by
 intro a s l H Q I j;refine oY h a s l H Q I ?_;obtain⟨m,o,σ,g,i,d⟩:=j;refine⟨m,o,σ,g,i,d.bind λf q n u r p t k e b=>?_⟩;unfold xD at b;by_cases c:f.length<=Yf
 ·rw[ia c]at b;exact⟨by rw[<-e.length];exact cz c,λp d=>dC b k e d⟩
 ·rw[qa c]at b;exact b.elim
def jE{b}{c}(h:Kb T E (Ka T) b H (Y (ώ d) f) Q)(r:Xc T b H f)(q:Za T b H d c)(a:H p=L6):Q (ϕ p)$ Nb H p$ ϯ c:=
 h b _ _ (qj a) (r.fresh a) (by rw[Ka];exact⟨p,c,rfl,λg=>(by obtain⟨u,e,_⟩:=r.mem g;rw[a]at e;cases e),qf,Za.mono (qj a) _ _ q⟩)
def ļ(h:FA T X es fs):FE T X (.List es pos)$ Em fs:=by
 intro a s l H Q I j;refine oY h a s l H Q I ?_;obtain⟨m,o,σ,g,i,d⟩:=j;refine⟨m,o,σ,g,i,d.bind λf q n u r p t k e b=>?_⟩;unfold Yx at b;by_cases c:f.length<=Yf
 ·rw[ia c]at b;exact⟨by rw[<-e.length];exact cz c,λp d=>jE b k e d⟩
 ·rw[qa c]at b;exact b.elim
end
noncomputable def oI(g:Int->Int->Int):D->D->M D
 | Z i,Z j=>ret (Z$ g i j)
 |_,_=>pb
noncomputable def oB(g:Int->Int->Bool):D->D->M D
 | Z i,Z j=>ret (ϒ$ g i j)
 |_,_=>pb
noncomputable def dz(C:Int->Int->Bool)(g:Int->Int->Int):D->D->M D
 | Z i,Z j=>if C i j=A3 then ret (Z$ g i j)else pb
 |_,_=>pb
def iM(i j:Int):Bool:=Dd$ (decide (-(2 ^ 64)<i) && decide (i<2 ^ 64)) || (decide (-(2 ^ 64)<j) && decide (j<2 ^ 64))
def WK(_ j:Int):Bool:=Dd$ decide (0<j) && decide (j<1073741824)
def bO(_ j:Int):Bool:=Dd$ decide$ 0<j
def jF(i j:Int):Bool:=Dd$ decide (0<=j) && decide (j<=1000000) && decide (i.natAbs<2 ^ 64)
abbrev Op:=oI (λi j=>i - j)
abbrev bH:=dz iM (λi j=>i * j)
abbrev au:=dz WK (λi j=>i / j)
abbrev km:=dz bO (λi j=>i % j)
abbrev Sy:=dz jF (λi j=>i ^ j.toNat)
abbrev oLt:=oB (λi j=>decide$ i<j)
abbrev oLe:=oB (λi j=>decide$ i<=j)
abbrev EG:=oB (λi j=>decide$ j<i)
abbrev vS:=oB (λi j=>decide$ j<=i)
noncomputable def GH:D->M D
 | Z i=>ret (Z$ -i)
 |_=>pb
noncomputable def rD(T:Tb)(o:D->D->M D):R2:=λv u H Q=>∃ (E:XK) (a:ad) (σ:Ca) (x y:D),Xc T a H σ/\Ka T a H x v/\Ka T a H y u/\Kb T E (Ka T) a H (o x y σ) Q
def Rs:zk T (rD T o) o:=λE a H b x y v u Q r p q h=>⟨E,a,b,x,y,r,p,q,h⟩
def bn(h:Ka T a H (Z i) v):v=ϣ i:=by simpa [Ka]using h
def ysn:zk T (Yq λi j=>ϣ$ g i j)$ oI g:=by
 intro E a H b x y v u Q r p q h;cases x with
 |int i=>
  cases y with
  |int j=>exact⟨i,j,bn p,bn q,Kb.here h r (by rw[Ka])⟩
  |_=>exact h.elim
 |_=>exact h.elim
def nI:zk T (Yq λi j=>ϫ$ g i j)$ oB g:=by
 intro E a H b x y v u Q r p q h;cases x with
 |int i=>
  cases y with
  |int j=>exact⟨i,j,bn p,bn q,Kb.here h r (by rw[Ka])⟩
  |_=>exact h.elim
 |_=>exact h.elim
def EH(d:∀ i j,C i j=A3->b i j):zk T (rI b λi j=>ϣ$ g i j)$ dz C g:=by
 intro E f H k x y v u Q r p q h;cases x with
 |int i=>
  cases y with
  |int j=>
   by_cases a:C i j=A3
   ·have c:Kb T E (Ka T) f H (ret (Z$ g i j) k) Q:=by
     have e:dz C g (Z i) (Z j)=ret (Z$ g i j):=by show (if C i j=A3 then _ else _)=_;rw[ia a]
     simp_all
    exact⟨i,j,bn p,bn q,d i j a,Kb.here c r (by rw[Ka])⟩
   ·have e:dz C g (Z i) (Z j)=pb:=by show (if C i j=A3 then _ else _)=_;rw[qa a]
    rw[e]at h;exact h.elim
  |_=>exact h.elim
 |_=>exact h.elim
def yau:zk T (Yq λi j=>ϣ$ i - j) Op:=ysn
def Ï:zk T (rI OH λi j=>ϣ$ i * j) bH:=EH λi j h=>by
 simp[iM]at h;exact h
def ś:zk T (rI QZ λi j=>ϣ$ i / j) au:=EH λi j h=>by
 simp[WK]at h;exact h
def yN:zk T (rI (λa j=>0<j) λi j=>ϣ$ i % j) km:=EH λi j h=>by
 simp[bO]at h;exact h
def ŵ:zk T (rI mW λi j=>ϣ$ i ^ j.toNat) Sy:=EH λi j h=>by
 simp[jF]at h;exact⟨h.1.1,h.1.2,h.2⟩
def BH:zk T (Yq λi j=>ϫ$ decide$ i<j) oLt:=nI
def IE:zk T (Yq λi j=>ϫ$ decide$ i<=j) oLe:=nI
def QR:zk T (Yq λi j=>ϫ$ decide$ j<i) EG:=nI
def MP:zk T (Yq λi j=>ϫ$ decide$ j<=i) vS:=nI
def N3:AY T (rU λi=>ϣ$ -i) GH:=by
 intro E a H b x v Q r p h;cases x with
 |int i=>exact⟨i,bn p,Kb.here h r (by rw[Ka])⟩
 |_=>exact h.elim
noncomputable def sc:D->Option V
 | Ϛ=>BD .Lb
 | ϒ b=>BD (ϫ b)
 | Z i=>BD (ϣ i)
 | ϐ x=>BD (.str x)
 |_=>L6
noncomputable def af(a:Ca)(n:Nat):Option$ g':=match a[n]? with
 |some (ϑ xs)=>BD xs
 |_=>L6
theorem vW{xs}(h:af a n=BD xs):a[n]?=BD (ϑ xs):=by
 unfold af at h;cases e:a[n]? with
 |none=>simp_all
 |some o=>rw[e]at h;cases o<;>simp at h;subst h;rfl
inductive Kd where
 |s (v:V)|t (xs:g')|l (xs:g')|o
def kd(a:Ca):D->Kd
 | Ϛ=>.s .Lb
 | ϒ b=>.s (ϫ b)
 | Z i=>.s (ϣ i)
 | ϐ x=>.s (.str x)
 | Ϗ xs=>.t xs
 | ώ xs=>.l xs
 | U n=>match af a n with
  |some xs=>.l xs
  |none=>.o
 |_=>.o
noncomputable def um(f:D->D->Option Bool):g'->g'->Option Bool
 |[],[]=>BD A3
 |[],_::_=>BD Ŷ
 |_::_,[]=>BD Ŷ
 |x::xs,y::a=>match f x y,um f xs a with
  |some b,BD c=>BD (b && c)
  |_,_=>L6
def wt(f:D->D->Option Bool):Kd->Kd->Option Bool
 | .s a,.s b=>BD (Il a b)
 | .t xs,.t c=>um f xs c
 | .l xs,.l c=>um f xs c
 | .s _,.t _=>BD Ŷ
 | .t _,.s _=>BD Ŷ
 | .s _,.l _=>BD Ŷ
 | .l _,.s _=>BD Ŷ
 | .t _,.l _=>BD Ŷ
 | .l _,.t _=>BD Ŷ
 |_,_=>L6
def Uj(a:Ca):Nat->D->D->Option Bool
 |0,x,y=>wt (λb b=>L6) (kd a x) (kd a y)
 |n+1,x,y=>wt (Uj a n) (kd a x) (kd a y)
noncomputable def Os(f:D->D->Option Bool)(xs c:g')(j:Nat):Bool:=match xs[j]?,c[j]? with
 |some a,BD b=>(f a b).getD Ŷ
 |_,_=>Ŷ
theorem uY(f:D->D->Option Bool):∀ (xs d:g') (b:Bool),um f xs d=BD b->
  (∀ (j:Nat) (a c:D),xs[j]?=BD a->d[j]?=BD c->∃ k,f a c=BD k)/\b=((List.range$ min xs.length d.length).all (Os f xs d) && xs.length == d.length)
 |[],[],b,h=>by simp[um]at h;subst h;simp
 |[],y::d,b,h=>by simp[um]at h;subst h;simp
 |x::xs,[],b,h=>by simp[um]at h;subst h;simp
 |x::xs,y::d,b,h=>by
  unfold um at h;cases e:f x y with
  |none=>simp_all
  |some i=>
   cases g:um f xs d with
   |none=>rw[e,g]at h;cases h
   |some l=>
    rw[e,g]at h;cases h;obtain⟨r,s⟩:=uY f xs d l g;refine⟨λj a c t u=>?_,?_⟩
    ·cases j with
     |zero=>simp_all
     |succ j=>exact r j a c (by simpa using t) (by assumption)
    ·have m:min (x::xs).length (y::d).length=min xs.length d.length+1:=by simp
     have n:∀ j,Os f (x::xs) (y::d) (j+1)=Os f xs d j:=λj=>by simp[Os]
     have o:Os f (x::xs) (y::d) 0=i:=by simp[Os,e]
     rw[m,Iq,gf,UD,o,s];have p:(Os f _ _ ∘ Nat.succ)=Os f xs d:=funext λj=>n j;have q:((x::xs).length == (y::d).length)=(xs.length == d.length):=by simp
     rw[p,q,Pz]
section
variable{T:Tb}{μ:ad}{H:Hp}{σ:Ca}
def Xc.na(r:Xc T μ H σ){n}{v}{xs}(h:Ka T μ H (U n) v)(e:af σ n=BD xs):∃ a b,v=ϕ a/\μ[n]?=BD a/\H a=BD (ϯ b)/\Za T μ H xs b:=by
 obtain⟨a,rfl,c,b,d,f⟩:=r.at h (vW e);exact⟨a,b,rfl,c,d,f⟩
def AH(h:Ka T μ H d v)(e:sc d=BD a):v=a:=by
 cases d<;>simp[sc]at e<;>subst e<;>simpa [Ka]using h
theorem WS(e:sc d=BD a):Wi a=A3:=by
 cases d<;>simp[sc]at e<;>subst e<;>rfl
def zl0(h:Wi a=A3):Il a a=A3:=by cases a<;>simp[Wi,Il]at h ⊢
def iz(r:Xc T μ H σ){d:D}{v:V}(h:Ka T μ H d v):match kd σ d with
  | .s a=>v=a/\Wi a=A3
  | .t xs=>∃ p c,v=ϕ p/\H p=BD (.Ha c)/\Za T μ H xs c
  | .l xs=>∃ p c,v=ϕ p/\H p=BD (ϯ c)/\Za T μ H xs c
  | .o=>True:=by
 cases d with
 |Lb=>exact⟨by simpa [Ka]using h,rfl⟩
 |bl b=>exact⟨by simpa [Ka]using h,rfl⟩
 |int b=>exact⟨by simpa [Ka]using h,rfl⟩
 |str b=>exact⟨by simpa [Ka]using h,rfl⟩
 |Ha xs=>rw[Ka]at h;exact h
 |na xs=>rw[Ka]at h;obtain⟨a,c,f,_,g,i⟩:=h;exact⟨a,c,f,g,i⟩
 |ref n=>
  unfold kd;dsimp only;cases e:af σ n with
  |none=>trivial
  |some xs=>obtain⟨a,c,f,_,g,i⟩:=r.na h e;exact⟨a,c,f,g,i⟩
 |_=>trivial
theorem pM{f:D->D->Option Bool}(j:∀ (x y:D) (v:V) (b:Bool),Ka T μ H x v->Ka T μ H y v->f x y=BD b->b=A3):∀ (xs a:g') (e:gV) (b:Bool),Za T μ H xs e->Za T μ H a e->um f xs a=BD b->b=A3
 |[],a,e,b,d,c,h=>by
  rw[Za]at d;subst d;cases a with
  |nil=>simp[um]at h;exact h
  |cons y a=>rw[Za]at c;obtain⟨_,_,z,_⟩:=c;cases z
 |x::xs,a,e,b,d,c,h=>by
  rw[Za]at d;obtain⟨v,r,rfl,m,o⟩:=d;cases a with
  |nil=>rw[Za]at c;cases c
  |cons y a=>
   rw[Za]at c;obtain⟨s,q,z,n,p⟩:=c;cases z;unfold um at h;cases g:f x y with
   |none=>simp_all
   |some k=>
    cases i:um f xs a with
    |none=>simp_all
    |some l=>
     rw[g,i]at h;cases h;rw[j x y v k m n g,pM j xs a r l o p i];rfl
def ML(r:Xc T μ H σ)(z:∀ x y v b,Ka T μ H x v->Ka T μ H y v->f x y=BD b->b=A3)(A:Ka T μ H x v)(B:Ka T μ H y v)(h:wt f (kd σ x) (kd σ y)=BD b):b=A3:=by
 have k:=iz r A;have d:=iz r B;generalize kd σ x=k1 at h k;generalize kd σ y=n at h d;cases k1 with
 |s a=>
  obtain⟨rfl,fa⟩:=k;cases n with
  |s c=>obtain⟨rfl,_⟩:=d;cases h;exact zl0 fa
  |t xs=>obtain⟨p,i,rfl,_⟩:=d;simp[Wi]at fa
  |l xs=>obtain⟨p,i,rfl,_⟩:=d;simp[Wi]at fa
  |o=>cases h
 |t xs=>
  obtain⟨p,i,rfl,m,u⟩:=k;cases n with
  |s c=>obtain⟨e,fa⟩:=d;rw[<-e]at fa;simp[Wi]at fa
  |t j=>
   obtain⟨q,ws,e,g,w⟩:=d;cases e;rw[m]at g;cases g;exact pM z xs j i b u w h
  |l j=>simp_all
  |o=>cases h
 |l xs=>
  obtain⟨p,i,rfl,m,u⟩:=k;cases n with
  |s c=>obtain⟨e,fa⟩:=d;rw[<-e]at fa;simp[Wi]at fa
  |t j=>simp_all
  |l j=>
   obtain⟨q,ws,e,g,w⟩:=d;cases e;rw[m]at g;cases g;exact pM z xs j i b u w h
  |o=>cases h
 |o=>cases h
theorem jW(r:Xc T μ H σ):∀ (n:Nat) (x y:D) (v:V) (b:Bool),Ka T μ H x v->Ka T μ H y v->Uj σ n x y=BD b->b=A3
 |0,x,y,v,b,a,c,h=>ML r (λg g g g g g z=>by cases z) a c h
 |n+1,x,y,v,b,a,c,h=>ML r (λx y v b d e f=>jW r n x y v b d e f) a c h
end
section
variable{pins:List$ Addr × Obj}{st:St}{μ:ad}{H:Hp}{s:Shared}{σ:Ca}
def PJ(fa:Wi a=A3)(r:gd a u)(c:s.heap.IsTuple p e)(d:A.units<cLine):Hc A s u (xb p) Ŷ/\Hc A s (xb p) u Ŷ/\Qg A s u (xb p) Ŷ/\Qg A s (xb p) u Ŷ/\Ig A s u (xb p) A3/\Ig A s (xb p) u A3:=by
 cases a with
 |Lb=>cases r;exact⟨.none_tuple c d,.tuple_none c d,.none_tuple c d,.tuple_none c d,.none_tuple c d,.tuple_none c d⟩
 |bl b=>cases r;exact⟨.bool_tuple b c d,.tuple_bool b c d,.bool_tuple b c d,.tuple_bool b c d,.bool_tuple b c d,.tuple_bool b c d⟩
 |int b=>obtain⟨t,rfl⟩:=r;exact⟨.int_tuple b t c d,.tuple_int b t c d,.int_tuple b t c d,.tuple_int b t c d,.int_tuple b t c d,.tuple_int b t c d⟩
 |str b=>obtain⟨t,rfl⟩:=r;exact⟨.str_tuple b t c d,.tuple_str b t c d,.str_tuple b t c d,.tuple_str b t c d,.str_tuple b t c d,.tuple_str b t c d⟩
 |_=>simp[Wi]at fa
def AV(fa:Wi a=A3)(r:gd a u)(c:s.heap.IsList p e)(d:A.units<cLine):Qg A s u (xb p) Ŷ/\Qg A s (xb p) u Ŷ/\Ig A s u (xb p) A3/\Ig A s (xb p) u A3:=by
 cases a with
 |Lb=>cases r;exact⟨.none_list c d,.list_none c d,.none_list c d,.list_none c d⟩
 |bl b=>cases r;exact⟨.bool_list b c d,.list_bool b c d,.bool_list b c d,.list_bool b c d⟩
 |int b=>obtain⟨t,rfl⟩:=r;exact⟨.int_list b t c d,.list_int b t c d,.int_list b t c d,.list_int b t c d⟩
 |str b=>obtain⟨t,rfl⟩:=r;exact⟨.str_list b t c d,.list_str b t c d,.str_list b t c d,.list_str b t c d⟩
 |_=>simp[Wi]at fa
def y8(fa:Wi a=A3)(r:gd a u)(c:s.heap.IsList p e)(d:A.units<cLine):Hc A s u (xb p) Ŷ:=by
 cases a with
 |Lb=>cases r;exact .none_list c d
 |bl b=>cases r;exact .bool_list b c d
 |int b=>obtain⟨t,rfl⟩:=r;exact .int_list b t c d
 |str b=>obtain⟨t,rfl⟩:=r;exact .str_list b t c d
 |_=>trivial
def K5(fa:Wi a=A3)(r:gd a u)(c:s.heap.IsList p e)(d:A.units<cLine):Hc A s (xb p) u Ŷ:=by
 cases a with
 |Lb=>cases r;exact .list_none c d
 |bl b=>cases r;exact .list_bool b c d
 |int b=>obtain⟨t,rfl⟩:=r;exact .list_int b t c d
 |str b=>obtain⟨t,rfl⟩:=r;exact .list_str b t c d
 |_=>trivial
def yrt(f:gd a u)(d:gd b w)(fa:Wi a=A3)(e:Wi b=A3):Qg A s u w (Il a b)/\Ig A s u w (!Il a b):=by
 cases a with
 |Lb=>
  cases f;cases b with
  |Lb=>cases d;exact⟨.none_none,.none_none⟩
  |bl y=>cases d;exact⟨.none_bool y,.none_bool y⟩
  |int y=>obtain⟨t,rfl⟩:=d;exact⟨.none_int y t,.none_int y t⟩
  |str y=>obtain⟨t,rfl⟩:=d;exact⟨.none_str y t,.none_str y t⟩
  |_=>simp[Wi]at e
 |bl x=>
  cases f;cases b with
  |Lb=>cases d;exact⟨.bool_none x,.bool_none x⟩
  |bl y=>cases d;exact⟨.bool_bool x y,.bool_bool x y⟩
  |int y=>obtain⟨t,rfl⟩:=d;exact⟨.bool_int x y t,.bool_int x y t⟩
  |str y=>obtain⟨t,rfl⟩:=d;exact⟨.bool_str x y t,.bool_str x y t⟩
  |_=>simp[Wi]at e
 |int x=>
  obtain⟨c,rfl⟩:=f;cases b with
  |Lb=>cases d;exact⟨.int_none x c,.int_none x c⟩
  |bl y=>cases d;exact⟨.int_bool x c y,.int_bool x c y⟩
  |int y=>obtain⟨t,rfl⟩:=d;exact⟨.int_int x c y t,.int_int x c y t⟩
  |str y=>obtain⟨t,rfl⟩:=d;exact⟨.int_str x c y t,.int_str x c y t⟩
  |_=>simp[Wi]at e
 |str x=>
  obtain⟨c,rfl⟩:=f;cases b with
  |Lb=>cases d;exact⟨.str_none x c,.str_none x c⟩
  |bl y=>cases d;exact⟨.str_bool x c y,.str_bool x c y⟩
  |int y=>obtain⟨t,rfl⟩:=d;exact⟨.str_int x c y t,.str_int x c y t⟩
  |str y=>obtain⟨t,rfl⟩:=d;exact⟨.str_str x c y t,.str_str x c y t⟩
  |_=>simp[Wi]at e
 |_=>simp[Wi]at fa
def dI{xs}{i:Nat}(r:de xs a)(h:a[i]?=BD u):∃ x,xs[i]?=BD x/\gd x u:=by
 have e:=r.length;have d:=(ba.mp h).1;obtain⟨f,b,c⟩:=r.get (i:=i) (x:=xs[i]'⋯) ⋯
 simp_all
def mO{i:Nat}(r:Za T μ H a b)(h:b[i]?=BD v):∃ d,a[i]?=BD d/\Ka T μ H d v:=by
 have g:=r.length;have f:=(ba.mp h).1;obtain⟨j,c,e⟩:=r.get (i:=i) (d:=a[i]'⋯) ⋯
 simp_all
def wQ(I:∀ x y v w z C b,Ka T μ H x v->Ka T μ H y w->gd v z->gd w C->f x y=BD b->Hc A s z C b)
  {xs c} (r:Za T μ H xs B) (t:Za T μ H c ws) (p:de B a) (q:de ws d) (h:um f xs c=BD b) :
  (∀ j (n:j<a.toArray.size) (o:j<d.toArray.size),Hc A s a.toArray[j] d.toArray[j] (Os f xs c j))/\b=((List.range$ min a.toArray.size d.toArray.size).all (Os f xs c) && a.toArray.size == d.toArray.size):=by
 obtain⟨n,o⟩:=uY f xs c b h;refine⟨λj L M=>?_,?_⟩
 ·obtain⟨v,E,K⟩:=dI (i:=j) (u:=a.toArray[j]) p ⋯;obtain⟨w,F,e⟩:=dI (i:=j) (u:=d.toArray[j]) q ⋯;obtain⟨x,g,ύ⟩:=mO r E;obtain⟨y,l,p4⟩:=mO t F;obtain⟨k,m⟩:=n j x y g l;have G:Os f xs c j=k:=by simp[Os,g,l,m]
  rw[G];exact I x y v w _ _ k ύ p4 K e m
 ·simp;rw[o,r.length,t.length,p.length,q.length]
abbrev ES(A:Ia)(s:Shared)(v w:Value)(b:Bool):Prop:=Qg A s v w b/\Ig A s v w (!b)
def SK(I:Ta X pins st H s)(r:Xc T μ H σ)(hu:A.units+1<cLine)
  (hf:∀ x y v w O P b,Ka T μ H x v->Ka T μ H y w->gd v O->gd w P->f x y=BD b->Hc A.in1 s O P b) (hx:Ka T μ H x v) (hy:Ka T μ H y w) (N:gd v O) (d:gd w P) (h:wt f (kd σ x) (kd σ y)=BD b):ES A s O P b:=by
 have g:A.units<cLine:=by lia
 have R:=iz r hx;have m:=iz r hy;generalize kd σ x=k1 at h R;generalize kd σ y=ϋ at h m;cases k1 with
 |o=>cases h
 |s a=>
  obtain⟨rfl,fa⟩:=R;cases ϋ with
  |o=>cases h
  |s c=>obtain⟨rfl,K⟩:=m;cases h;exact yrt N d fa K
  |t C=>
   obtain⟨q,ws,rfl,j,z⟩:=m;cases h;cases d;obtain⟨k,_,u,_⟩:=L2.Ta.tuple I (Jg.of j);obtain⟨_,_,E,F,G,ύ⟩:=PJ fa N u g;exact⟨E,G⟩
  |l C=>
   obtain⟨q,ws,rfl,j,z⟩:=m;cases h;cases d;obtain⟨k,_,pl,_⟩:=L2.Ta.list I (He.of j);obtain⟨E,F,G,ύ⟩:=AV fa N pl.isList g;exact⟨E,G⟩
 |t xs=>
  obtain⟨p,vs,rfl,S,ϊ⟩:=R;cases N;obtain⟨k,W,M,_⟩:=L2.Ta.tuple I (Jg.of S);cases ϋ with
  |o=>cases h
  |s c=>
   obtain⟨rfl,K⟩:=m;cases h;obtain⟨_,_,E,F,G,ύ⟩:=PJ K d M g;exact⟨F,ύ⟩
  |t C=>
   apply b_;intro z_;obtain⟨q,ws,rfl,j,z⟩:=m;cases d;obtain⟨i,ό,u,_⟩:=L2.Ta.tuple I (Jg.of j);obtain⟨L,Q⟩:=wQ hf ϊ z W ό h;apply z_;rw[Q];exact⟨.tuples M u ⋯ L,.tuples M u ⋯ L⟩
  |l C=>
   obtain⟨q,ws,rfl,j,z⟩:=m;cases h;cases d;obtain⟨i,_,pl,_⟩:=L2.Ta.list I (He.of j);exact⟨.tuple_list M pl.isList g,.tuple_list M pl.isList g⟩
 |l xs=>
  obtain⟨p,vs,rfl,S,ϊ⟩:=R;cases N;obtain⟨k,W,pl,_⟩:=L2.Ta.list I (He.of S);cases ϋ with
  |o=>cases h
  |s c=>
   obtain⟨rfl,K⟩:=m;cases h;obtain⟨E,F,G,ύ⟩:=AV K d pl.isList g;exact⟨F,ύ⟩
  |t C=>
   obtain⟨q,ws,rfl,j,z⟩:=m;cases h;cases d;obtain⟨i,_,u,_⟩:=L2.Ta.tuple I (Jg.of j);exact⟨.list_tuple pl.isList u g,.list_tuple pl.isList u g⟩
  |l C=>
   obtain⟨q,ws,rfl,j,z⟩:=m;cases d;obtain⟨i,ό,n,_⟩:=L2.Ta.list I (He.of j);obtain⟨L,Q⟩:=wQ hf ϊ z W ό h;by_cases B:k.toArray.size=i.toArray.size
   ·have e:b=(List.range k.toArray.size).all (Os f xs C):=by rw[Q,<-B];simp
    rw[e];exact⟨.lists pl.isList n.isList B ⋯ L,.lists pl.isList n.isList B ⋯ L⟩
   ·have e:b=Ŷ:=by rw[Q,jd.mpr B,Oz]
    rw[e];exact⟨.lists_lengths pl.isList n.isList (by simpa using B) ⋯,.lists_lengths pl.isList n.isList (by simpa using B) ⋯⟩
def GU(I:Ta X pins st H s)(r:Xc T μ H σ)(S:A.units+1<cLine)
  (O:∀ x y v w C E b,Ka T μ H x v->Ka T μ H y w->gd v C->gd w E->f x y=BD b->Hc A.in1 s C E b)
  (R:∀ x y v b,Ka T μ H x v->Ka T μ H y v->f x y=BD b->b=A3) (F:Ka T μ H x v) (G:Ka T μ H y w) (m:gd v C) (d:gd w E) (h:wt f (kd σ x) (kd σ y)=BD b):Hc A s C E b:=by
 have j:A.units<cLine:=by lia
 have ύ:=(SK I r S O F G m d h).1;by_cases i:v=w
 ·subst i;have N:=ML r R F G h;have k:=iz r F;have g:=iz r G;generalize kd σ x=k1 at h k;generalize kd σ y=B at h g;cases k1 with
  |o=>cases h
  |s a=>
   obtain⟨rfl,fa⟩:=k;cases B with
   |o=>cases h
   |s c=>obtain⟨rfl,n⟩:=g;cases h;exact xN m d fa n
   |t z=>obtain⟨q,ws,e,_⟩:=g;rw[e]at fa;simp[Wi]at fa
   |l z=>obtain⟨q,ws,e,_⟩:=g;rw[e]at fa;simp[Wi]at fa
  |t xs=>
   obtain⟨p,M,rfl,_⟩:=k;cases m;cases d;rw[N];exact jk _
  |l xs=>
   obtain⟨p,M,rfl,_⟩:=k;cases m;cases d;rw[N];exact jk _
 ·have k:=iz r F;have g:=iz r G;generalize kd σ x=k1 at h k;generalize kd σ y=B at h g;cases k1 with
  |o=>cases h
  |s a=>
   obtain⟨rfl,fa⟩:=k;cases B with
   |o=>cases h
   |s c=>obtain⟨rfl,n⟩:=g;cases h;exact xN m d fa n
   |t z=>
    obtain⟨q,ws,rfl,L,W⟩:=g;cases h;cases d;obtain⟨u,_,Q,_⟩:=L2.Ta.tuple I (Jg.of L);exact(PJ fa m Q j).1
   |l z=>
    obtain⟨q,ws,rfl,L,W⟩:=g;cases h;cases d;obtain⟨u,_,pl,_⟩:=L2.Ta.list I (He.of L);exact y8 fa m pl.isList j
  |t xs=>
   obtain⟨p,M,rfl,K,ϋ⟩:=k;cases m;cases B with
   |o=>cases h
   |s c=>
    obtain⟨rfl,n⟩:=g;cases h;obtain⟨u,_,P,_⟩:=L2.Ta.tuple I (Jg.of K);exact(PJ n d P j).2.1
   |t z=>obtain⟨q,ws,rfl,_⟩:=g;cases d;exact .of_refs (λe=>i (by rw[e])) ύ
   |l z=>obtain⟨q,ws,rfl,_⟩:=g;cases d;exact .of_refs (λe=>i (by rw[e])) ύ
  |l xs=>
   obtain⟨p,M,rfl,K,ϋ⟩:=k;cases m;cases B with
   |o=>cases h
   |s c=>
    obtain⟨rfl,n⟩:=g;cases h;obtain⟨u,_,pl,_⟩:=L2.Ta.list I (He.of K);exact K5 n d pl.isList j
   |t z=>obtain⟨q,ws,rfl,_⟩:=g;cases d;exact .of_refs (λe=>i (by rw[e])) ύ
   |l z=>obtain⟨q,ws,rfl,_⟩:=g;cases d;exact .of_refs (λe=>i (by rw[e])) ύ
theorem jH(I:Ta X pins st H s)(r:Xc T μ H σ):∀ (n:Nat) (A:Ia) (x y:D) (v w:V) (c d:Value) (b:Bool),A.units+n+1<cLine->Ka T μ H x v->Ka T μ H y w->gd v c->gd w d->Uj σ n x y=BD b->Hc A s c d b
 |0,A,x,y,v,w,c,d,b,o,i,j,k,a,h=>GU I r ⋯ (λp p p p p p p p p p p z=>by cases z) (λp p p p p p z=>by cases z) i j k a h
 |n+1,A,x,y,v,w,c,d,b,o,i,j,k,a,h=>GU I r ⋯ (λx y v w c d b e f g l m=>jH I r n A.in1 x y v w c d b (by show A.units+1+n+1<cLine;lia) e f g l m) (λx y v b e f g=>jW r n x y v b e f g) i j k a h
def HR(I:Ta X pins st H s)(r:Xc T μ H σ) n(o:A.units+n+1<cLine)(e:Ka T μ H x v)(f:Ka T μ H y w)(g:gd v c)(a:gd w d)(h:Uj σ n x y=BD b):ES A s c d b:=by
 cases n with
 |zero=>exact SK I r ⋯ (λp p p p p p p p p p p z=>by cases z) e f g a h
 |succ n=>exact SK I r ⋯ (λx y v w c d b i j k l m=>jH I r n A.in1 x y v w c d b (by show A.units+1+n+1<cLine;lia) i j k l m) e f g a h
end
section
variable{pins:List$ Addr × Obj}{st:St}{μ:ad}{H:Hp}{s:Shared}{σ:Ca}
def Zh(x y:D):M D:=λσ=>match Uj σ 8 x y with
 |some b=>Y (ϒ b) σ
 |none=>ϗ
def rh(x y:D):M D:=λσ=>match Uj σ 8 x y with
 |some b=>Y (ϒ$ !b) σ
 |none=>ϗ
def jY(h:X.A.units+9<cLine):Ch X (Eb .Eq)$ rD T Zh:=by
 rintro pins s st H v u j i Q I g f ⟨E,μ,σ,x,y,r,c,d,a⟩;unfold Zh at a;cases e:Uj σ 8 x y with
 |none=>rw[e]at a;exact a.elim
 |some b=>
  rw[e]at a;have:=(HR I r 8 ⋯ c d g f e).1 X.prog X.w X.xe (EP X pins st Q) ⟨ϫ b,H,I,rfl,Kb.here a r (by rw[Ka])⟩;exact this
def AN(h:X.A.units+9<cLine):Ch X (Eb .NotEq)$ rD T rh:=by
 rintro pins s st H v u j i Q I g f ⟨E,μ,σ,x,y,r,c,d,a⟩;unfold rh at a;cases e:Uj σ 8 x y with
 |none=>rw[e]at a;exact a.elim
 |some b=>
  rw[e]at a;have:=(HR I r 8 ⋯ c d g f e).2 X.prog X.w X.xe (EP X pins st Q) ⟨ϫ _,H,I,rfl,Kb.here a r (by rw[Ka])⟩;exact this
noncomputable def Ys(x y:D):M D:=λσ=>match y with
 | Ϛ=>(match x with
  | Ϛ=>Y (ϒ A3) σ
  |_=>Y (ϒ Ŷ) σ)
 |_=>ϗ
noncomputable def OX(x y:D):M D:=λσ=>match y with
 | Ϛ=>(match x with
  | Ϛ=>Y (ϒ Ŷ) σ
  |_=>Y (ϒ A3) σ)
 |_=>ϗ
def kS(h:Ka T μ H x v):decide (v=.Lb)=(match x with | Ϛ=>A3|_=>Ŷ):=by
 cases x with
 |Lb=>rw[Ka]at h;subst h;rfl
 |Ha ds=>rw[Ka]at h;obtain⟨p,_,rfl,_⟩:=h;simp
 |Zi ds=>rw[Ka]at h;obtain⟨p,rfl,_⟩:=h;simp
 |ref ds=>rw[Ka]at h;obtain⟨p,rfl,_⟩:=h;simp
 |na ds=>rw[Ka]at h;obtain⟨p,_,rfl,_⟩:=h;simp
 |Aa ks ds=>rw[Ka]at h;obtain⟨p,_,rfl,_⟩:=h;simp
 |obj c ks ds=>rw[Ka]at h;obtain⟨p,_,_,rfl,_⟩:=h;simp
 |pw c=>rw[Ka]at h;obtain⟨p,_,rfl,_⟩:=h;simp
 |gt ds=>rw[Ka]at h;obtain⟨p,rfl,_⟩:=h;simp
 |_=>rw[Ka]at h;subst h;simp
def SY:zk T (λx y H Q=>y=.Lb/\Q (ϫ$ decide$ x=.Lb) H) Ys:=by
 intro E μ H σ x y v u Q r p q h;cases y with
 |Lb=>
  refine⟨by rw[Ka]at q;exact q,?_⟩;rw[kS p];cases x<;>exact Kb.here h r (by rw[Ka])
 |_=>exact h.elim
def yT:zk T (λx y H Q=>y=.Lb/\Q (ϫ$ !decide (x=.Lb)) H) OX:=by
 intro E μ H σ x y v u Q r p q h;cases y with
 |Lb=>
  refine⟨by rw[Ka]at q;exact q,?_⟩;rw[kS p];cases x<;>exact Kb.here h r (by rw[Ka]<;>rfl)
 |_=>exact h.elim
def zsb(r:Za T μ H a b)(h:Mn a k=BD d):∃ v,Mn b k=BD v/\Ka T μ H d v:=by
 unfold Mn at h ⊢;rw[<-r.length];cases e:Qq a.length k with
 |none=>simp_all
 |some j=>rw[e]at h;exact r.get h
theorem pD:∀ (a:dl),Za T μ H (a.map Z) (a.map ϣ)
 |[]=>Za.nil
 |n::a=>Za.cons (by rw[Ka]) (pD a)
def zi(σ:Ca):D->Option (g')
 | Ϗ xs=>BD xs
 | .Zi ns=>BD (ns.map Z)
 | U n=>af σ n
 | ώ xs=>BD xs
 | .gt ss=>BD (ss.map ϐ)
 |_=>L6
def ib(x i:D):M D:=λσ=>match i with
 | Z k=>(match zi σ x with
  |some xs=>(match Mn xs k with
   |some d=>Y d σ
   |none=>ϗ)
  |none=>ϗ)
 |_=>ϗ
theorem HP:∀ (a:ac),Za T μ H (a.map ϐ) (a.map V.str)
 |[]=>Za.nil
 |n::ns=>Za.cons (by rw[Ka]) (HP ns)
def iB(r:Xc T μ H σ){xs}(h:Ka T μ H x v)(e:zi σ x=BD xs):∃ p c,v=ϕ p/\Za T μ H xs c/\(He T.K H p c\/Jg T.K H p c):=by
 cases x with
 |Ha ds=>cases e;rw[Ka]at h;obtain⟨p,c,rfl,b,d⟩:=h;exact⟨p,c,rfl,d,ϙ$ Jg.of b⟩
 |Zi ns=>cases e;rw[Ka]at h;obtain⟨p,rfl,b⟩:=h;exact⟨p,_,rfl,pD ns,ϖ b.seq⟩
 |ref n=>obtain⟨a,c,rfl,_,b,d⟩:=r.na h e;exact⟨a,c,rfl,d,ϖ$ He.of b⟩
 |na ds=>cases e;rw[Ka]at h;obtain⟨p,c,rfl,_,b,d⟩:=h;exact⟨p,c,rfl,d,ϖ$ He.of b⟩
 |gt ss=>cases e;rw[Ka]at h;obtain⟨p,rfl,b⟩:=h;exact⟨p,_,rfl,HP ss,ϙ$ ϙ b⟩
 |_=>cases e
def QN(l:T.K=X.K):zk T (λx y H Q=>GM X.K x y H Q\/LP X.K x y H Q) ib:=by
 intro E μ H σ x y v u Q r p q h;cases y with
 |int k=>
  unfold ib at h;cases e:zi σ x with
  |none=>simp[e]at h;exact h.elim
  |some xs=>
   simp[e]at h;cases c:Mn xs k with
   |none=>rw[c]at h;exact h.elim
   |some d=>
    rw[c]at h;obtain⟨a,i,rfl,j,b⟩:=iB r p e;obtain⟨w,f,g⟩:=zsb j c;rw[l]at b;rcases b with b|b
    ·exact ϖ ⟨a,i,k,w,rfl,bn q,b,f,Kb.here h r g⟩
    ·exact ϙ ⟨a,i,k,w,rfl,bn q,b,f,Kb.here h r g⟩
 |_=>trivial
def lP:Qx X (λx y H Q=>GM X.K x y H Q\/LP X.K x y H Q):=r8.or ū
def fx(d:D):Bool:=(sc d).isSome
def Ry(x y:D):Bool:=match sc x,sc y with
 |some a,BD b=>Il a b
 |_,_=>Ŷ
def ay(a:Bool)(x y:D):M D:=λσ=>match zi σ y with
 |some xs=>if (fx x && xs.all fx)=A3 then Y (ϒ$ if a then !(xs.any λz=>Ry z x)else xs.any λz=>Ry z x) σ else ϗ
 |none=>ϗ
theorem TR:∀ {c:g'} {b:gV},Za T μ H c b->c.all fx=A3->b.all Wi=A3
 |[],b,h,_=>by rw[Za]at h;subst h;rfl
 |d::c,b,h,e=>by
  obtain⟨v,r,rfl,g,i⟩:=h;rw[gf,Da]at e ⊢;obtain⟨a,f⟩:=ae.mp e.1;exact⟨by rw[AH g f];exact WS f,TR i e.2⟩
theorem MT{x:D}{a:V}(ex:sc x=BD a):∀ {b:g'} {f:gV},Za T μ H b f->b.all fx=A3->(b.any λz=>Ry z x)=f.any λy=>Il y a
 |[],f,h,_=>by rw[Za]at h;subst h;rfl
 |d::b,f,h,e=>by
  obtain⟨v,r,rfl,i,j⟩:=h;rw[gf,Da]at e;obtain⟨c,g⟩:=ae.mp e.1;rw[jf,jf,MT ex j e.2];have:Ry d x=Il v a:=by unfold Ry;rw[g,ex,AH i g]
  grind
def SH(l:T.K=X.K) d:zk T (ZH X.K d)$ ay d:=by
 intro E μ H σ x y v u Q r p q h;unfold ay at h;cases e:zi σ y with
 |none=>rw[e]at h;exact h.elim
 |some xs=>
  rw[e]at h;by_cases c:(fx x && xs.all fx)=A3
  ·simp[c]at h;rw[Da]at c;obtain⟨a,f⟩:=ae.mp c.1;obtain⟨b,j,rfl,g,i⟩:=iB r q e;rw[l]at i;refine⟨b,j,rfl,i,by rw[AH p f];exact WS f,TR g c.2,?_⟩;have k:iC v j=xs.any λz=>Ry z x:=by unfold iC;rw[MT f g c.2,AH p f]
   rw[k];exact Kb.here h r (by rw[Ka])
  ·simp[c]at h;exact h.elim
def wk(xs:g'):M D:=λσ=>match xs with
 |[x]=>(match zi σ x with
  |some a=>Y (Z a.length) σ
  |none=>ϗ)
 |_=>ϗ
def ŋ(i:T.K=X.K):br T (λxs H Q=>∃ p a,xs=[ϕ p]/\(He X.K H p a\/Jg X.K H p a)/\Q (ϣ a.length) H) wk:=by
 intro E μ H σ xs f Q r p h
 match xs with
 |[]=>exact h.elim
 |[x]=>
  obtain⟨v,w,rfl,j,d⟩:=p;rw[Za]at d;subst d;unfold wk at h;cases e:zi σ x with
  |none=>simp[e]at h;exact h.elim
  |some a=>
   simp[e]at h;obtain⟨b,f,rfl,g,c⟩:=iB r j e;rw[i]at c;exact⟨b,f,rfl,c,by rw[<-g.length];exact Kb.here h r (by rw[Ka])⟩
 |_::_::_=>exact h.elim
def Zo(xs:g'):M D:=λσ=>match xs with
 |[x]=>(match zi σ x with
  |some a=>yA a σ
  |none=>ϗ)
 |_=>ϗ
def Υ(i:T.K=X.K):br T (λxs H Q=>∃ p a,xs=[ϕ p]/\(He X.K H p a\/Jg X.K H p a)/\∀ l,H l=L6->Q (ϕ l) (Nb H l$ ϯ a)) Zo:=by
 intro E μ H σ xs f Q r p h
 match xs with
 |[]=>exact h.elim
 |[x]=>
  obtain⟨v,w,rfl,k,d⟩:=p;rw[Za]at d;subst d;unfold Zo at h;cases e:zi σ x with
  |none=>simp[e]at h;exact h.elim
  |some a=>
   simp only[e]at h;obtain⟨b,f,rfl,g,c⟩:=iB r k e;rw[i]at c;exact⟨b,f,rfl,c,λl j=>dC h r g j⟩
 |_::_::_=>exact h.elim
noncomputable def JV:D->Bool
 | .gt _=>A3
 |_=>Ŷ
def oA(xs:g'):M D:=λσ=>match xs with
 |[x]=>(match zi σ x with
  |some a=>if JV x=A3 then ϗ else Y (Ϗ a) σ
  |none=>ϗ)
 |_=>ϗ
def K7(m:T.K=X.K):br T (λxs H Q=>∃ p i,xs=[ϕ p]/\((He X.K H p i/\∀ l,H l=L6->Q (ϕ l) (Nb H l$ .Ha i))\/(Jg X.K H p i/\Q (ϕ p) H))) oA:=by
 intro E μ H σ xs f Q r p h
 match xs with
 |[]=>exact h.elim
 |[x]=>
  obtain⟨v,w,rfl,c,k⟩:=p;rw[Za]at k;subst k;have h:Kb T E _ μ H (match zi σ x with|some i=>if JV x=A3 then ϗ else Y _ σ|none=>ϗ) Q:=h;cases e:zi σ x with
  |none=>simp[e]at h;exact h.elim
  |some i=>
   simp[e]at h;cases x with
   |gt ss=>exact h.elim
   |Ha ds=>
    cases e;have o:=c;rw[Ka]at c;obtain⟨b,f,rfl,d,j⟩:=c;exact⟨b,f,rfl,ϙ ⟨Jg.of d,Kb.here h r o⟩⟩
   |Zi ns=>
    cases e;rw[Ka]at c;obtain⟨b,rfl,d⟩:=c;exact⟨b,_,rfl,ϖ ⟨by rw[<-m];exact d.seq,λl g=>DD h r (pD ns) g⟩⟩
   |ref n=>
    obtain⟨a,f,rfl,_,d,j⟩:=r.na c e;exact⟨a,f,rfl,ϖ ⟨He.of d,λl g=>DD h r j g⟩⟩
   |na ds=>
    cases e;rw[Ka]at c;obtain⟨b,f,rfl,_,d,j⟩:=c;exact⟨b,f,rfl,ϖ ⟨He.of d,λl g=>DD h r j g⟩⟩
   |_=>cases e
 |_::_::_=>exact h.elim
end
noncomputable def ak(o:g'->M D)(a:Ev->M (g')):Ev->M D:=λb=>Lc (a b) o
section
variable{x:Str}{p pos:Td}{e:Ja}{es:List Ja}{fs:Ev->M (g')}{id ty:String}{r:gV->Hp->VK->Prop}{o:g'->M D}
def MW(j:br T r o)(h:tF T X (ak o fs) c H Q):rL r (tL T X fs) c H Q:=by
 obtain⟨p,q,s,f,i,g⟩:=h;exact⟨p,q,s,f,i,g.bind λe b a n d u t m k l=>j _ a d b e n Q m k l⟩
def jx(f:jm X (Ϟ id) r)(l:br T r o)(i:Gl X x)(j:X.mg x=L6)(m:bootBuiltins x=BD (Ϟ id))(d:FA T X (e::es) fs)(k:x ≠ "__name__":=by decide)(b:(x == ("__debug__" : Str))=Ŷ:=by decide)
  (g:ka (e::es) X.env=(Ŷ,Cb e X.env)::ka es X.env:=by rfl) (c:(Ub pos$ ka es X.env).any (·.1)=Ŷ:=by rfl):FE T X (ϟ (ϛ x p) (e::es) [] pos)$ ak o fs:=
 λa s n H Q I h=>dG f i j m d k b g c a s n H Q I$ MW l h
def cH(f:jm X (ki ty) r)(l:br T r o)(i:Gl X x)(j:X.mg x=L6)(m:bootBuiltins x=BD (ki ty))(d:FA T X (e::es) fs)(k:x ≠ "__name__":=by decide)(b:(x == ("__debug__" : Str))=Ŷ:=by decide)
  (g:ka (e::es) X.env=(Ŷ,Cb e X.env)::ka es X.env:=by rfl) (c:(Ub pos$ ka es X.env).any (·.1)=Ŷ:=by rfl):FE T X (ϟ (ϛ x p) (e::es) [] pos)$ ak o fs:=
 λa s n H Q I h=>rE f i j m d k b g c a s n H Q I$ MW l h
end
def Bf(a:Ca):D->Option (g')
 | U n=>af a n
 | ώ xs=>BD xs
 |_=>L6
def Xc.ls(r:Xc T g H i){xs}(h:Ka T g H x v)(e:Bf i x=BD xs):∃ a b,v=ϕ a/\H a=BD (ϯ b)/\Za T g H xs b:=by
 cases x with
 |ref n=>obtain⟨a,b,c,_,d,f⟩:=r.na h e;exact⟨a,b,c,d,f⟩
 |na j=>cases e;rw[Ka]at h;obtain⟨a,b,c,_,d,f⟩:=h;exact⟨a,b,c,d,f⟩
 |_=>cases e
def jv(o:D->g'->M D)(m:M$ g')(x:D):M D:=λa=>match Bf a x with
 |some _=>Lc m (o x) a
 |none=>ϗ
def Eu(o:D->g'->M D)(f:Ev->M D)(b:Ev->M (g')):Ev->M D:=λa=>Lc (f a)$ jv o$ b a
def lB(T:Tb)(r:V->gV->Hp->VK->Prop)(o:D->g'->M D):Prop:=∀ (E:XK) a H c x xs v b Q,Xc T a H c->Ka T a H x v->Za T a H xs b->Kb T E (Ka T) a H (o x xs c) Q->r v b H Q
def lj(x:D)(xs:g'):M D:=λb=>match x,xs with
 | U n,[y]=>(match af b n with
  |some a=>if a.length<Yf then Y Ϛ (b.set n$ ϑ$ a++[y])else ϗ
  |none=>ϗ)
 |_,_=>ϗ
section
variable{o e:Ja}{es:List Ja}{f:Ev->M D}{fs:Ev->M (g')}{name:Str}{apos cpos:Td}{id:String}{r:V->gV->Hp->VK->Prop}{g:D->g'->M D}
def yO(P:ym "list")(l:lR "list" name id)(q:Wv (Ϟ id)=pure (ki "method_descriptor"))(ύ:qw X id r)(N:lB T r g)(K:FE T X o f)(G:FA T X (e::es) fs)
  (c:Wc o name X.env (Cb o X.env)=Cb o X.env:=by rfl)
  (i:((Ub cpos$ ka (e::es) X.env).all (λx=>!x.1) && (Pg cpos$ Fe [] X.env).all (λx=>x.1.isSome)
   && decide ((e::es).length+([]:List Aj).length+(if ([]:List Aj).isEmpty then 0 else 1)<30))=A3:=by rfl)
  (d:(apos.endLine == cpos.line)=A3:=by rfl) (p:ka (e::es) X.env=(Ŷ,Cb e X.env)::ka es X.env:=by rfl) (b:(Ub cpos$ ka es X.env).any (·.1)=Ŷ:=by rfl) :
  FE T X (ϟ (ϝ o name apos) (e::es) [] cpos)$ Eu g f fs:=by
 intro j s ϋ H Q I h;refine B8 P l q ύ K G c i d p b j s ϋ H Q I ?_;obtain⟨W,A,ό,w,M,L⟩:=h;refine⟨W,A,ό,w,M,L.bind λx m t v ϊ J D z y k=>?_⟩;unfold jv at k;cases n:Bf m x with
 |none=>rw[n]at k;exact k.elim
 |some xs=>
  rw[n]at k;obtain⟨a,V,rfl,F,h2⟩:=z.ls y n;exact⟨ϖ ⟨rfl,V,He.of F⟩,t,A,m,w.mono D,z,k.bind λC σ2 u ws B J E S O R=>(N _ u B σ2 x C _ ws Q S (Ka.mono E _ _ y) O R)⟩
def jN:lB T ZP lj:=by
 intro E k H o x xs v d Q r p q h;cases x with
 |ref n=>
  match xs with
  |[]=>exact h.elim
  |[y]=>
   obtain⟨w,z,rfl,l,i⟩:=q;rw[Za]at i;subst i;unfold lj at h;cases b:af o n with
   |none=>simp[b]at h;exact h.elim
   |some m=>
    simp only[b]at h;by_cases c:m.length<Yf
    ·rw[ia c]at h;obtain⟨a,d,rfl,g,e,f⟩:=r.na p b;have j:=r.write (ob:=ϑ _) g ⟨_,qf,by
      have ex:pd k H k$ Nb H a$ ϯ$ d++[w]:=Js (wa g) e (λs z=>by cases z) (λs s z=>by cases z);exact Za.append (Za.mono ex _ _ f)$ Za.cons (Ka.mono ex _ _ l) Za.nil⟩
     exact⟨a,d,w,rfl,rfl,e,by rw[<-f.length];exact RX c,h _ _ _ j.1 j.2 (by rw[Ka])⟩
    ·rw[qa c]at h;exact h.elim
  |_::_::_=>exact h.elim
 |_=>exact h.elim
end
inductive BT where
 |int|bool|str|tuple|list|dict
noncomputable def BT.nm:BT->String
 | .int=>"int" | .bool=>"bool" | .str=>"str" | .tuple=>"tuple" | .list=>"list" | .dict=>"dict"
noncomputable def rH(a:Ca)(c:BT):D->Option Bool
 | Ϛ=>BD Ŷ
 | ϒ _=>BD (match c with | .int=>A3 | .bool=>A3|_=>Ŷ)
 | Z _=>BD (match c with | .int=>A3|_=>Ŷ)
 | ϐ _=>BD (match c with | .str=>A3|_=>Ŷ)
 | Ϗ _=>BD (match c with | .tuple=>A3|_=>Ŷ)
 | .Zi _=>L6
 | ώ _=>BD (match c with | .list=>A3|_=>Ŷ)
 | Ϭ _ _=>BD (match c with | .dict=>A3|_=>Ŷ)
 | Ϲ _ _ _=>L6
 | .pw _=>L6
 | .gt _=>L6
 | U n=>match a[n]? with
  |some (ϑ _)=>BD (match c with | .list=>A3|_=>Ŷ)
  |some (J _)=>BD (match c with | .dict=>A3|_=>Ŷ)
  |_=>L6
def mz(c:BT)(x:D):M D:=λa=>match rH a c x with
 |some b=>Y (ϒ b) a
 |none=>ϗ
def fV(K:ϔ)(H:Hp)(x:V)(t:Value):Prop:=sk K H x t\/∃ a b,x=ϕ a/\Rd H a (Ϝ b)/\t=ki "dict"
def ě(K:ϔ)(c:String):gV->Hp->VK->Prop:=λxs H Q=>∃ x t b,xs=[x,.ty c]/\fV K H x t/\Ϫ K t (ki c)=BD b/\Q (ϫ b) H
def k6 c:jm X (Ϟ "isinstance")$ ě X.K c:=by
 rintro d s st H xs l Q I r ⟨x,t,b,rfl,ty,e,q⟩;obtain⟨u,u2,rfl,f,rfl⟩:=aH r;rcases ty with ty|⟨a,i,rfl,rd,rfl⟩
 ·exact hZ I f ty e λtk=>⟨ϫ b,H,I.tok _,rfl,q⟩
 ·cases (f);obtain⟨_,_,m,_,p⟩:=(rd.ok I.lc)
  obtain⟨o,k,j,g,h,_⟩:=p;exact W.kia_one W.kitx_dict I.Ri ⟨o,g,h.1⟩ e (λz=>nomatch z) λtk=>⟨ϫ b,H,I.tok _,rfl,q⟩
def N6(r:Xc T m H j)(p:Ka T m H x v)(h:rH j c x=BD b):∃ t,fV X.K H v t/\Ϫ X.K t (ki c.nm)=BD b:=by
 cases x with
 |Lb=>rw[Ka]at p;subst p;refine⟨_,ϖ$ .Lb,?_⟩;cases c<;>cases h<;>rfl
 |bl i=>rw[Ka]at p;subst p;refine⟨_,ϖ$ .bl i,?_⟩;cases c<;>cases h<;>rfl
 |int i=>rw[Ka]at p;subst p;refine⟨_,ϖ$ .int i,?_⟩;cases c<;>cases h<;>rfl
 |str i=>rw[Ka]at p;subst p;refine⟨_,ϖ$ .str i,?_⟩;cases c<;>cases h<;>rfl
 |Ha ds=>rw[Ka]at p;obtain⟨q,f,rfl,d,_⟩:=p;refine⟨_,ϖ$ .Ha d,?_⟩;cases c<;>cases h<;>rfl
 |Zi ns=>cases h
 |na ds=>rw[Ka]at p;obtain⟨q,f,rfl,_,d,_⟩:=p;refine⟨_,ϖ$ .na d,?_⟩;cases c<;>cases h<;>rfl
 |Aa ks ds=>rw[Ka]at p;obtain⟨q,f,rfl,_,d,_⟩:=p;refine⟨_,ϙ ⟨q,_,rfl,d,rfl⟩,?_⟩;cases c<;>cases h<;>rfl
 |obj k ks ds=>cases h
 |pw k=>cases h
 |gt ss=>cases h
 |ref n=>
  unfold rH at h;dsimp only at h;cases e:j[n]? with
  |none=>rw[e]at h;cases h
  |some o=>
   rw[e]at h;obtain⟨a,rfl,_,l⟩:=r.at p e;cases o with
   |na xs=>obtain⟨f,g,_⟩:=l;refine⟨_,ϖ$ .na g,?_⟩;cases c<;>cases h<;>rfl
   |Aa xs=>obtain⟨f,g,_⟩:=l;refine⟨_,ϖ$ .dK g,?_⟩;cases c<;>cases h<;>rfl
   |jb k s=>cases h
   |Fb xs=>cases h
   |Je _=>cases h
def BI c(C:FE T X e f)(E:Gl X "isinstance")(F:X.mg "isinstance" = L6)(m:Gl X a)(n:X.mg a=L6)(r:bootBuiltins a=BD (ki c.nm))(o:a ≠ "__name__":=by decide)(l:(a == ("__debug__" : Str))=Ŷ:=by decide)
  (w:ka [e,ϛ a j] X.env=(Ŷ,Cb e X.env)::ka [ϛ a j] X.env:=by rfl) (q:(Ub g$ ka [ϛ a j] X.env).any (·.1)=Ŷ:=by rfl) :
  FE T X (ϟ (ϛ "isinstance" p) [e,ϛ a j] [] g)$ Vc (mz c) f:=by
 intro d s st H Q I h;refine dG (k6 c.nm) E F jK (yr C (yr (Â m n r (v:=.ty c.nm) rfl o l) Nt) w) ⋯ ⋯ w q d s st H Q I ?_;obtain⟨L,O,P,B,ύ,G⟩:=h;refine⟨L,O,P,B,ύ,G.bind λx u N v R D S y K i=>?_⟩;unfold mz at i;cases k:rH u c x with
 |none=>rw[k]at i;exact i.elim
 |some b=>
  rw[k]at i;obtain⟨t,z,A⟩:=N6 y K k;exact⟨v,t,b,rfl,z,A,Kb.here i y (by rw[Ka])⟩
noncomputable def Sh:Ev->M Fl:=λa=>ret$ Ϙ a
noncomputable def rG(h:Ev->M Fl):Fl->M Fl
 | Ϙ a=>h a
 | .rt d=>ret (.rt d)
 | .bk a=>ret (.bk a)
 | .ct a=>ret (.ct a)
 | .xc a x=>ret (.xc a x)
def zb(g h:Ev->M Fl):Ev->M Fl:=λa=>Lc (g a)$ rG h
noncomputable def iN:D->M Fl:=λd=>ret$ .rt d
def Ui(f:Ev->M D):Ev->M Fl:=λa=>xs a (f a) iN
noncomputable def nP(a:Ev):D->M Fl:=λb=>ret$ Ϙ a
def Vh(f:Ev->M D):Ev->M Fl:=λa=>xs a (f a)$ nP a
noncomputable def CN(i:Nat)(ρ:Ev):D->M Fl:=λd=>ret$ Ϙ$ ρ.set i$ BD d
def Ce(i:Nat)(f:Ev->M D):Ev->M Fl:=λa=>xs a (f a)$ CN i a
noncomputable def Ug(t:Ev->M Bool)(a b:Ev->M Fl):Ev->M Fl:=λc=>xs c (t c)$ Ij (a c)$ b c
section
variable{st':Stmt}{rest:List Stmt}{g h:Ev->M Fl}{e:Ja}{f:Ev->M D}{pos:Td}
def Wx:rl T X [] Sh:=by
 rintro a s b H D I ⟨f,h,i,c,e,d⟩;exact xZ a s b H D I$ Kb.here (g:=ϸ b) d e c
def zz2{f}{g}{D}(r:Xc T f H g)(q:zq T f H b a)(k:Fl->M Fl)
  (h:∀ ρ,b=Ϙ ρ->∀ st,a=ϸ st->sh T f H ρ st->N st H) (e:(∀ ρ,b≠ Ϙ ρ)->Kb T EN (zq T) f H (Y b g) (dr X D)):dr X { D with nx:=N } a H:=by
 cases b with
 |nx ρ=>cases a with
  |nx st=>exact h ρ rfl st rfl q
  |_=>exact q.elim
 |rt d=>cases a with
  |rt v=>have z:=Kb.here (e λi z=>by cases z) r q;exact z
  |_=>exact q.elim
 |bk ρ=>cases a with
  |bk v=>have z:=Kb.here (e λi z=>by cases z) r q;exact z
  |_=>exact q.elim
 |ct ρ=>cases a with
  |ct v=>have z:=Kb.here (e λi z=>by cases z) r q;exact z
  |_=>exact q.elim
 |xc ρ x=>cases a with
  |xc v c fd=>have z:=Kb.here (e λi z=>by cases z) r q;exact z
  |_=>exact q.elim
def Mc(k:FS T X st' g)(l:rl T X rest h):rl T X (st'::rest)$ zb g h:=by
 intro a s t H D I q;refine xR k l a s t H D I ?_;obtain⟨v,w,x,m,p,o⟩:=q;refine⟨v,w,x,m,p,o.bind λj d c B y C z f r e=>(zz2 f r (λC=>pb) (λb i u A n=>?_)$ λC=>?_)⟩
 ·subst i;exact⟨c,b,d,n,f,e⟩
 ·cases j with
  |nx b=>simp_all
  |_=>exact e
def gi(a:FS T X st' g):rl T X [st'] g:=zy1 a
def Fq(c:FE T X e f):FS T X (.Return (BD e) pos)$ Ui f:=by
 intro a s n H D I j;refine ľ c a s n H D I ?_;obtain⟨o,ρ,q,b,i,h⟩:=j;exact⟨o,ρ,q,b,i,h.xs b λd r p v t d u m l k=>Kb.here (g:=Jp.rt v) k m l⟩
def Gu(i:FE T X e f)(l:Hg e L6 pos.line X.env=pure Ŷ:=by rfl):FS T X (.Expr e pos)$ Vh f:=by
 intro a s c H D I m;refine E3 i l a s c H D I ?_;obtain⟨p,ρ,r,b,k,j⟩:=m;exact⟨p,ρ,r,b,k,j.xs b λd t q v u d h o w n=>Kb.here (g:=ϸ c) n o$ b.mono h⟩
def dw(j:X.N.Nodup)(m:X.N[i]?=BD x)(r:Loc X.env.scope x)(k:FE T X e f)(p:Hg e (BD$ ϛ x a) pos.line X.env=pure Ŷ:=by rfl)(l:X.fn x=A3\/X.env.scope.names.lookup x=BD .local:=by first|exact .inl rfl|exact .inr rfl|assumption) :
  FS T X (.Assign [ϛ x a] e pos)$ Ce i f:=by
 intro b s st H D I q;refine yi7 j m r k p l b s st H D I ?_;obtain⟨y,ρ,A,c,o,n⟩:=q;exact⟨y,ρ,A,c,o,n.xs c λd B z v C d h w u t=>Kb.here (g:=ϸ _) t w$ (c.mono h).set i u⟩
def ju(p:FT T X c tc)(n:rl T X a k)(o:rl T X b l):FS T X (.If c a b pos)$ Ug tc k l:=by
 intro e s w H D I t;refine uX p n o e s w H D I ?_;obtain⟨x,i,y,h,r,q⟩:=t;refine⟨x,i,y,h,r,q.xs h λc g f v z A j m u d=>?_⟩;cases u;cases c with
 |true=>unfold Ij at d;rw[ia rfl]at d ⊢;exact⟨f,i,g,h.mono j,m,d⟩
 |false=>unfold Ij at d;rw[qa Ya]at d ⊢;exact⟨f,i,g,h.mono j,m,d⟩
noncomputable def gD(T:Tb)(e:D->Ev->Option Ev):TG:=λv c H Q=>∃ b f ρ d a,sh T b H ρ c/\Xc T b H f/\Ka T b H d v/\e d ρ=BD a/\∀ st',sh T b H a st'->Q st' H
noncomputable def gsD(T:Tb)(f:g'->Ev->Option Ev):gz:=λg e H Q=>∃ b h d c a,sh T b H d e/\Xc T b H h/\Za T b H c g/\f c d=BD a/\∀ st',sh T b H a st'->Q st' H
abbrev FG(T:Tb)(X:Cx)(t:Ja)(a:D->Ev->Option Ev):Prop:=PG X t$ gD T a
abbrev iD(T:Tb)(X:Cx)(b:List Ja)(a:g'->Ev->Option Ev):Prop:=mG X b$ gsD T a
noncomputable def wc(i:Nat):D->Ev->Option Ev:=λd ρ=>BD$ ρ.set i$ BD d
noncomputable def Qi:g'->Ev->Option Ev
 |[],a=>BD a
 |_::_,_=>L6
noncomputable def Oe(t:D->Ev->Option Ev)(u:g'->Ev->Option Ev):g'->Ev->Option Ev
 |[],_=>L6
 |d::ds,b=>(t d b).bind λa=>u ds a
noncomputable def Hi(n:Nat)(t:g'->Ev->Option Ev):D->Ev->Option Ev
 | Ϗ ds,a=>if ds.length=n then t ds a else L6
 |_,_=>L6
def i6(c:X.N.Nodup)(f:X.N[i]?=BD x)(j:Loc X.env.scope x)(e:X.fn x=A3\/X.env.scope.names.lookup x=BD .local:=by first|exact .inl rfl|exact .inr rfl|assumption):FG T X (ϛ x pos)$ wc i:=by
 rintro a s st H v u Q I r ⟨m,n,ρ,d,k,b,l,hd,h,g⟩;cases h;exact U1 c f j e a s st H v u Q I r$ g _$ b.set i hd
def ŀ:iD T X [] Qi:=by
 rintro a s g H k h Q I r ⟨l,n,m,b,i,e,j,hd,c,f⟩;cases b with
 |nil=>cases c;rw[Za]at hd;subst hd;exact J9 a s g H [] h Q I r ⟨rfl,f _ e⟩
 |cons d b=>cases c
def q8(q:FG T X e t)(x:iD T X c u)
  (A:(Gd (e::c) X.env).map (·.2)=Mi e X.env::(Gd c X.env).map (·.2):=by rfl):iD T X (e::c)$ Oe t u:=by
 rintro a s st H F C Q I r ⟨m,n,E,f,j,y,k,hd,l,z⟩;cases f with
 |nil=>cases l
 |cons d f=>
  obtain⟨v,w,rfl,h,i⟩:=hd;obtain⟨b,o,p⟩:=pf.mp l;exact N8 q x A a s st H _ C Q I r ⟨v,w,rfl,m,n,E,d,b,y,k,h,o,λB g=>⟨m,n,b,f,j,g,k,i,p,z⟩⟩
def AL(m:X.gc=A3)(h:iD T X c t)
  (o:(Gd c X.env).length=n:=by rfl) (e:(Gd c X.env).findIdx? (·.1)=L6:=by rfl):FG T X (ϰ c k pos)$ Hi n t:=by
 rintro b s st H v u Q I r ⟨y,σ,ρ,d,f,l,w,hd,a,q⟩;cases d with
 |Ha ds=>
  obtain⟨p,x,rfl,j,g⟩:=hd;unfold Hi at a;dsimp only at a;by_cases i:ds.length=n
  ·rw[ia i]at a;exact ċ m h o e b s st H _ u Q I r ⟨p,x,rfl,Jg.of j,by rw[<-g.length];exact i,y,σ,ρ,ds,f,l,w,g,a,q⟩
  simp_all
 |_=>cases a
noncomputable def nE(b:D->Ev->Option Ev)(ρ:Ev)(d:D):M Fl:=match b d ρ with
 |some a=>ret (Ϙ a)
 |none=>pb
def SQ(f:Ev->M D)(b:D->Ev->Option Ev):Ev->M Fl:=λa=>xs a (f a)$ nE b a
def O3(r:FE T X e f)(u:FG T X a t)(z:Ni [a] e pos.line X.env=pure Ŷ:=by rfl)(A:Oi [a] e X.env=pure L6:=by rfl)
  (q:(Gd [a] X.env).map (·.2)=[Mi a X.env]:=by rfl):FS T X (.Assign [a] e pos)$ SQ f t:=by
 intro c s st H D I x;refine qH r u z A q c s st H D I ?_;obtain⟨C,ρ,E,h,y,w⟩:=x;refine⟨C,ρ,E,h,y,w.xs h λd n l v F G p o B b=>?_⟩;unfold nE at b;cases j:t d ρ with
 |none=>simp[j]at b;exact b.elim
 |some m=>simp[j]at b;exact⟨l,n,ρ,d,m,h.mono p,o,B,j,λk i=>Kb.here (g:=ϸ k) b o i⟩
def Dz(x i d:D):M Unit:=λa=>match x,i with
 | U n,Z k=>(match af a n with
  |some xs=>(match Qq xs.length k with
   |some j=>Y () (a.set n$ ϑ$ xs.set j d)
   |none=>ϗ)
  |none=>ϗ)
 |_,_=>ϗ
def kx(ρ:Ev)(d x i:D):M Fl:=λb=>match Dz x i d b with
 | Y _ a=>Y (Ϙ ρ) a
 |_=>ϗ
def DN(ρ:Ev)(a:Ev->M D)(d x:D):M Fl:=xs ρ (a ρ)$ kx ρ d x
def mM(ρ:Ev)(b a:Ev->M D)(d:D):M Fl:=xs ρ (b ρ)$ DN ρ a d
def bx(f c b:Ev->M D):Ev->M Fl:=λa=>xs a (f a)$ mM a c b
def zup{K fi}(R:FE T X e f)(ϋ:FE T X o K)(S:FE T X i fi)
  (Q:∀ v,Mi (Ϣ o i b) X.env v=(do
   let r <-Od [v] (Cb o X.env);let y <-Od [v,r] (Cb i X.env)
   Kg b
   Od [v,r,y] (Kq r y v)
   dE [v,r,y] []):=by intro _;rfl)
  (ϊ:Ni [Ϣ o i b] e pos.line X.env=pure Ŷ:=by rfl) (hw:Oi [Ϣ o i b] e X.env=pure L6:=by rfl)
  (q:(Gd [Ϣ o i b] X.env).map (·.2)=[Mi (Ϣ o i b) X.env]:=by rfl):FS T X (.Assign [Ϣ o i b] e pos)$ bx f K fi:=by
 intro l s st H D I W;refine qH R (KO ϋ S zqk Q) ϊ hw q l s st H D I ?_;obtain⟨μ,ρ,σ,g,ό,V⟩:=W;refine⟨μ,ρ,σ,g,ό,V.xs g λd E B v H1 d h r1 q1 p1=>⟨B,ρ,E,g.mono h,r1,p1.xs (g.mono h) λx F C vo H2 d p r2 q2 p2=>⟨C,ρ,F,(g.mono h).mono p,r2,p2.xs ((g.mono h).mono p) λk G m vi ύ d t O q3 c=>?_⟩⟩⟩;have hx:=Ka.mono t _ _ q2;unfold kx Dz at c;cases x with
 |ref n=>
  cases k with
  |int k=>
   dsimp only at c;cases w:af G n with
   |none=>rw[w]at c;exact c.elim
   |some xs=>
    rw[w]at c;dsimp only at c;cases u:Qq xs.length k with
    |none=>rw[u]at c;exact c.elim
    |some j=>
     rw[u]at c;obtain⟨a,P,rfl,N,q,L⟩:=O.na hx w;have A:=O.write (ob:=ϑ _) N ⟨_,qf,by
      have ex:pd m ύ m$ Nb ύ a$ ϯ$ P.set j v:=Js (wa N) q (λd z=>by cases z) (λd d z=>by cases z);exact Za.set (Ka.mono ex _ _$ Ka.mono t _ _$ Ka.mono p _ _ q1) j$ Za.mono ex _ _ L⟩
     exact⟨a,P,k,j,rfl,bn q3,q,by rw[<-L.length];exact u,c _ (ϸ st) _ A.1 A.2$ ((g.mono h).mono p).mono t |>.mono A.1⟩
  |_=>exact c.elim
 |_=>exact c.elim
end
inductive Lj where
 |seq (ds:g')
 |Fo (n:Nat)
def Lj.nx:Lj->Nat->Ca->Option (Option D)
 | .seq ds,i,_=>BD ds[i]?
 | .Fo n,i,σ=>(af σ n).map λxs=>xs[i]?
def YI(T:Tb)(c:ad)(g:Hp)(a:Lj)(ύ:It):Prop:=∀ b H f i,pd c g b H->Xc T b H f->match a.nx i f with
 |none=>True
 |some L6=>ύ.stop i H
 |some (BD d)=>ύ.go i H/\∀ x e,ύ.RC i H x e->e=H/\Ka T b H d x
def tI(T:Tb)(X:Cx)(f:Ev->M Lj):TI:=λa H R=>kC T a H λb c d=>Kb T (XE X a) (YI T) b H (f c d) R
abbrev FI(T:Tb)(X:Cx)(b a:Ja)(f:Ev->M Lj):Prop:=PI X b a$ tI T X f
noncomputable def Oq(n:Nat):g':=(List.range n).map λ(i:Nat)=>Z (i:Int)
def Fw(d:D):M Lj:=λa=>match d with
 | Ϗ ds=>Y (.seq ds) a
 | ώ ds=>Y (.seq ds) a
 | .Zi ns=>Y (.seq$ ns.map Z) a
 | U n=>(match af a n with
  |some _=>Y (.Fo n) a
  |none=>ϗ)
 |_=>ϗ
def kh(f:Ev->M D):Ev->M Lj:=λa=>Lc (f a) Fw
def zH(j:Int):Bool:=Dd$ decide (-(2 ^ 62)<=j) && decide (j<2 ^ 62)
def dB(d:D):M Lj:=λa=>match d with
 | Z j=>if zH j=A3 then Y (.seq$ Oq j.toNat) a else ϗ
 |_=>ϗ
def Gv(f:Ev->M D):Ev->M Lj:=λa=>Lc (f a) dB
section
variable{tg iter:Ja}{f:Ev->M D}
def ł(K:ϔ)(c:TE):TI:=λd H R=>c d H λx b=>∃ a,x=ϕ a/\(((∃ xs,He K b a xs)/\R (QQ K a) b)\/((∃ xs,Jg K b a xs)/\R (tQ K a) b))
def yiu(m:PE X l k):PI X tg l$ ł X.K k:=by
 intro d s σ H R I h;refine ud (m d s σ H _ I h) λv s1 ſ=>?_;obtain⟨x,H1,c,r,j⟩:=ſ;obtain⟨a,rfl,j⟩:=j;cases r;rcases j with⟨⟨xs,g⟩,q⟩|⟨⟨xs,g⟩,q⟩
 ·obtain⟨i,t,p,n⟩:=c.list g;refine pi p.isList ⟨s1.heap.objs.size,[s1.heap.objs.size],_,_,H1,rfl,c.kept λb o e=>da _ e,zke a _,⟨_,za _ rfl,rfl,rfl⟩,λb f=>?_,q⟩;have e:b=s1.heap.objs.size:=by simpa using f
  subst e;exact c.Vm (pa _)$ c.lc.fresh$ pa _
 ·obtain⟨i,t,p,n⟩:=c.tuple g;refine IB (p) ⟨s1.heap.objs.size,[s1.heap.objs.size],_,_,H1,rfl,c.kept λb o e=>da _ e,D4 a _,⟨_,za _ rfl,rfl,rfl⟩,λb f=>?_,q⟩;have e:b=s1.heap.objs.size:=by simpa using f
  subst e;exact c.Vm (pa _)$ c.lc.fresh$ pa _
def IW{K}(h:∀ b c,pd g l b c->∃ f,He K c a f/\Za T b c j f):YI T g l (.seq j)$ QQ K a:=by
 intro b c σ2 i ex q;obtain⟨f,m,n⟩:=h b c ex;show match BD j[i]? with|none=>True|some L6=>_|some (BD d)=>_
 cases e:j[i]? with
 |none=>exact⟨f,m,by rw[<-n.length];exact yc.mp e⟩
 |some d=>
  obtain⟨v,k,o⟩:=n.get e;refine⟨⟨f,v,m,k⟩,λx p y=>?_⟩;obtain⟨rfl,y⟩:=y
  simp_all
def t5{K}(h:∀ b c,pd g l b c->∃ f,Jg K c a f/\Za T b c j f):YI T g l (.seq j)$ tQ K a:=by
 intro b c σ2 i ex q;obtain⟨f,m,n⟩:=h b c ex;show match BD j[i]? with|none=>True|some L6=>_|some (BD d)=>_
 cases e:j[i]? with
 |none=>exact⟨f,m,by rw[<-n.length];exact yc.mp e⟩
 |some d=>
  obtain⟨v,k,o⟩:=n.get e;refine⟨⟨f,v,m,k⟩,λx p y=>?_⟩;obtain⟨rfl,y⟩:=y
  simp_all
def kP(L:T.K=X.K)(h:FE T X iter f):FI T X tg iter$ kh f:=by
 intro r s st H R I Q;refine yiu h r s st H R I ?_;obtain⟨ϋ,ρ,V,ύ,O,N⟩:=Q;refine⟨ϋ,ρ,V,ύ,O,N.bind λd A z v D x ϊ u t j=>?_⟩;cases d with
 |Ha ds=>
  obtain⟨p,l,rfl,g,m⟩:=t;exact⟨p,rfl,ϙ ⟨⟨l,Jg.of g⟩,Kb.here j u (t5 λb c ex=>⟨l,Jg.of$ ex.Ha _ _ g,Za.mono ex _ _ m⟩)⟩⟩
 |na ds=>
  obtain⟨p,l,rfl,M,g,m⟩:=t;exact⟨p,rfl,ϖ ⟨⟨l,He.of g⟩,Kb.here j u (IW λb c ex=>⟨l,He.of (ex.Th _ _ g M).1,Za.mono ex _ _ m⟩)⟩⟩
 |Zi ns=>
  obtain⟨p,rfl,g⟩:=t;have q:∀ b c,pd z D b c->He X.K c p _:=λb c ex=>by
   have m:Ka T b c (.Zi ns) _:=Ka.mono ex _ _ (by rw[Ka];exact⟨p,rfl,g⟩);obtain⟨p',E,o⟩:=m;cases E;rw[<-L];exact o.seq
  exact⟨p,rfl,ϖ ⟨⟨_,q _ _$ ϭ _ _⟩,Kb.here j u (IW λb c ex=>⟨_,q b c ex,pD ns⟩)⟩⟩
 |ref n=>
  unfold Fw at j;dsimp only at j;cases k:af A n with
  |none=>rw[k]at j;exact j.elim
  |some xs=>
   rw[k]at j;obtain⟨a,l,rfl,_,g,m⟩:=u.na t k;refine⟨a,rfl,ϖ ⟨⟨l,He.of g⟩,Kb.here j u λb c σ2 i ex S=>?_⟩⟩;show match (af σ2 n).map (λxs=>xs[i]?)with|none=>True|some L6=>_|some (BD d)=>_
   cases G:af σ2 n with
   |none=>trivial
   |some C=>
    apply b_;intro z_;obtain⟨ό,ws,F,_,o,B⟩:=S.na (Ka.mono ex _ _ t) G;cases F;apply z_;show match BD (C[i]?)with|none=>True|some L6=>_|some (BD d)=>_
    cases e:C[i]? with
    |none=>exact⟨ws,He.of o,by rw[<-B.length];exact yc.mp e⟩
    |some d=>
     obtain⟨v,w,P⟩:=B.get e;refine⟨⟨ws,v,He.of o,w⟩,λx W y=>?_⟩;obtain⟨rfl,y⟩:=y;have:=y ws$ He.of o
     simp_all
 |_=>trivial
def zfz(h:i<n):(Oq n)[i]?=BD (Z i):=by simp[Oq,h]
def ĥ n:(Oq n).length=n:=by simp[Oq]
def zmm(h:Gl X "range")(o:X.mg "range" = L6)(n:FE T X a f)(e:ka [a] X.env=[(Ŷ,Cb a X.env)]:=by rfl):FI T X tg (ϟ (ϛ "range" p) [a] [] l)$ Gv f:=by
 intro g s st H R I t;refine zje h o (yr n Nt e) e g s st H R I ?_;obtain⟨z,ρ,C,m,r,q⟩:=t;refine⟨z,ρ,C,m,r,q.bind λd D A v G x K w u b=>?_⟩;cases d with
 |int j=>
  subst u;unfold dB at b;dsimp only at b;by_cases c:zH j=A3
  ·rw[ia c]at b;simp[zH]at c;refine⟨j,rfl,c.1,c.2,Kb.here b w λB ύ E i ex L=>?_⟩;show match BD (Oq j.toNat)[i]? with|none=>True|some L6=>_|some (BD d)=>_
   by_cases k:i<j.toNat
   ·rw[zfz k];refine⟨k,λx F y=>?_⟩;obtain⟨rfl,rfl⟩:=y;exact⟨rfl,by rw[Ka,Int.zero_add]⟩
   ·rw[yc.mpr (by rw[ĥ];lia)];exact ZQ.mp k
  ·rw[qa c]at b;exact b.elim
 |_=>exact b.elim
end
noncomputable def Kt(k:Ev->M Fl):Fl->M Fl
 | Ϙ a=>k a
 | .ct a=>k a
 | .bk a=>ret (Ϙ a)
 | .rt d=>ret (.rt d)
 | .xc b x=>ret (.xc b x)
def Qj(e:D->Ev->Option Ev)(a:Ev->M Fl):g'->Ev->M Fl
 |[],b=>ret (Ϙ b)
 |d::ds,b=>match e d b with
  |none=>pb
  |some c=>Lc (a c) (Kt$ Qj e a ds)
def Dr(e:D->Ev->Option Ev)(a:Ev->M Fl)(n:Nat):Nat->Nat->Ev->M Fl
 |0,_,_=>pb
 |k+1,i,f=>λc=>match af c n with
  |none=>ϗ
  |some xs=>match xs[i]? with
   |none=>Y (Ϙ f) c
   |some d=>match e d f with
    |none=>ϗ
    |some b=>Lc (a b) (Kt$ Dr e a n k$ i+1) c
def zE(b:D->Ev->Option Ev)(a:Ev->M Fl)(c:Ev):Lj->M Fl
 | .seq ds=>Qj b a ds c
 | .Fo n=>Dr b a n 1001 0 c
def Yj(b:Ev->M Lj)(d:D->Ev->Option Ev)(a:Ev->M Fl):Ev->M Fl:=λc=>xs c (b c)$ zE d a c
section
def ZI{D}(l:Xc T d e g)(h:zq T d e j f)(i:Kb T EN (zq T) d e (Kt k j g)$ dr X D)
  (m:∀ b a,sh T d e b a->Kb T EN (zq T) d e (k b g) (dr X D)->N a e):dr X { D with nx:=N,ct:=N,bk:=D.nx } f e:=by
 cases j with
 |nx b=>cases f with
  |nx a=>exact m b a h i
  |_=>trivial
 |ct b=>cases f with
  |ct a=>exact m b a h i
  |_=>trivial
 |bk b=>cases f with
  |bk a=>have z:dr X D (ϸ a) e:=Kb.here i l h;exact z
  |_=>exact h.elim
 |rt o=>cases f with
  |rt v2=>have z:=Kb.here i l h;exact z
  |_=>trivial
 |xc b x=>cases f with
  |xc a c n=>have z:=Kb.here i l h;exact z
  |_=>trivial
variable{tgt iter:Ja}{body:List Stmt}{src:Ev->M Lj}{t:D->Ev->Option Ev}{g:Ev->M Fl}{pos:Td}
def xA(ϋ:ij (model X.prog X.w) X.A X.env X.xe)(hc:X.gc=A3)(hi:FI T X tgt iter src)(hg:FG T X tgt t)(hb:rl T X body g)
  (hs:∀ x,ie iter X.env x=pure x:=by intro _;rfl):FS T X (.For tgt iter body [] pos)$ Yj src t g:=by
 intro P s st H D I hq;refine ZR ϋ hc hi hg hb hs P s st H D I ?_;obtain⟨e,k,σ,R,hr,ϋ⟩:=hq;refine⟨e,k,σ,R,hr,ϋ.xs R λsrc z j ύ N J e1 r1 q1 p1=>?_⟩;cases src with
 |seq ds=>
  have G:Kb T EN (zq T) j N (Qj t g ds k z) _:=p1;refine⟨λi m o b=>m=ds.length - i/\∃ e k σ,pd j N e b/\sh T e b k o/\Xc T e b σ/\Kb T EN _ e b (Qj t g (ds.drop i) k σ) _,⟨ds.length,by simp,j,k,z,ϭ _ _,R.mono e1,r1,by simpa using G⟩,?_⟩;rintro i m o b ⟨rfl,f,r,σ2,ex,q,v,c⟩;have a:match (BD ds[i]?)with|none=>True|some L6=>ύ.stop i b|some (BD d)=>ύ.go i b/\∀ x O,ύ.RC i b x O->O=b/\Ka T f b d x:=(q1 f b σ2 i ex v)
  cases B:ds[i]? with
  |none=>
   rw[B]at a;rw[Jq$ yc.mp B]at c;exact ϖ ⟨a,Kb.here (g:=ϸ o) c v q⟩
  |some d=>
   apply b_;intro z_;rw[B]at a;obtain⟨hl,ed⟩:=ba.mp B;have hd:ds.drop i=d::ds.drop (i+1):=by rw[<-ed];exact(oh hl)
   apply z_;rw[hd]at c;unfold Qj at c;refine ϙ ⟨a.1,λp l=>∃ e k σ,pd j N e l/\sh T e l k p/\Xc T e l σ/\Kb T EN (zq T) e l _ _,λp l h=>⟨ds.length - (i+1),by omega,rfl,h⟩,λx l y=>?_⟩;obtain⟨rfl,V⟩:=a.2 x l y;cases F:t d r with
   |none=>rw[F]at c;exact c.elim
   |some u=>
    rw[F]at c;exact⟨f,σ2,r,d,u,q,v,V,F,λp C=>⟨f,u,σ2,C,v,c.bind λfl M K gl H4 J S Q ό p4=>ZI Q ό p4 λL ϊ E W=>⟨K,L,M,ex.trans S,E,Q,W⟩⟩⟩
 |Fo n=>
  have G:Kb T EN (zq T) j N (Dr t g n 1001 0 k z)$ dr X D:=p1;refine⟨λi m o b=>∃ e k σ,pd j N e b/\sh T e b k o/\Xc T e b σ/\Kb T EN (zq T) e b (Dr t g n m i k σ) (dr X D),⟨1001,j,k,z,ϭ _ _,R.mono e1,r1,G⟩,?_⟩;rintro i m o b ⟨f,r,σ2,ex,q,v,c⟩;cases m with
  |zero=>exact c.elim
  |succ m=>
   unfold Dr at c;have a:match ((af σ2 n).map λxs=>xs[i]?)with|none=>True|some L6=>ύ.stop i b|some (BD d)=>ύ.go i b/\∀ x O,ύ.RC i b x O->O=b/\Ka T f b d x:=(q1 f b σ2 i ex v)
   cases el:af σ2 n with
   |none=>simp only[el]at c;exact c.elim
   |some xs=>
    simp only[el]at c a;cases B:xs[i]? with
    |none=>
     simp only[B,Option.map_some]at c a;exact ϖ ⟨a,Kb.here (g:=ϸ o) c v q⟩
    |some d=>
     simp only[B,Option.map_some]at c a;refine ϙ ⟨a.1,λp l=>∃ e k σ,pd j N e l/\sh T e l k p/\Xc T e l σ/\Kb T EN (zq T) e l (Dr t g n m (i+1) k σ) _,λp l h=>⟨m,yb _,h⟩,λx l y=>?_⟩;obtain⟨rfl,V⟩:=a.2 x l y;cases F:t d r with
     |none=>simp only[F]at c;exact c.elim
     |some u=>
      simp only[F]at c;exact⟨f,σ2,r,d,u,q,v,V,F,λp C=>⟨f,u,σ2,C,v,c.bind λfl M K gl H4 J S Q ό p4=>ZI Q ό p4 λL ϊ E W=>⟨K,L,M,ex.trans S,E,Q,W⟩⟩⟩
end
mutual
noncomputable def cl:D->Bool
 | Ϗ xs=>vf xs
 | ώ xs=>vf xs
 | Ϭ _ xs=>vf xs
 | Ϲ _ _ xs=>vf xs
 | U _=>Ŷ
 | Ϛ=>A3
 | ϒ _=>A3
 | Z _=>A3
 | ϐ _=>A3
 | .Zi _=>A3
 | .pw _=>A3
 | .gt _=>A3
noncomputable def vf:g'->Bool
 |[]=>A3
 |d::ds=>cl d && vf ds
end
noncomputable def Rl(f:D->Option D):g'->Option (g')
 |[]=>BD []
 |d::ds=>match f d,Rl f ds with
  |some x,BD xs=>BD (x::xs)
  |_,_=>L6
def fz(k:Nat)(a:Ca):Nat->D->Option D
 |0,d=>if cl d=A3 then BD d else match d with
  | U n=>if n<k then BD (U n)else L6
  |_=>L6
 |m+1,d=>if cl d=A3 then BD d else match d with
  | U n=>if n<k then BD (U n)else match a[n]? with
   |some (ϑ xs)=>(Rl (fz k a m) xs).map ώ
   |some (J b)=>(Rl (fz k a m) (b.map (·.2))).map (Ϭ (b.map (·.1)))
   |some (ϓ c e)=>(Rl (fz k a m) (e.map (·.2))).map (Ϲ c (e.map (·.1)))
   |some (Ϡ _)=>L6
   |some (.Je _)=>L6
   |none=>L6
  | Ϗ xs=>(Rl (fz k a m) xs).map Ϗ
  | ώ xs=>(Rl (fz k a m) xs).map ώ
  | Ϭ ks xs=>(Rl (fz k a m) xs).map (Ϭ ks)
  | Ϲ c ns xs=>(Rl (fz k a m) xs).map (Ϲ c ns)
  |_=>L6
open Classical in
def lg(b:Ca):Ji D->Ji D
 | Y d a=>if a.take b.length=b then (match fz b.length a 6 d with
  |some c=>Y c b
  |none=>ϗ)else ϗ
 | .ex x a=>if a.take b.length=b then .ex x b else ϗ
 | ϗ=>ϗ
def Oc(f:M D):M D:=λa=>lg a$ f a
section
variable{T:Tb}{μ μ':ad}{H H':Hp}{σ σ':Ca}
mutual
theorem dM(e:∃ r,μ'=μ++r):∀ (d:D) (v:V),cl d=A3->Ka T μ' H d v->Ka T μ H d v
 | Ϛ,v,_,h=>by simpa [Ka]using h
 | ϒ b,v,_,h=>by simpa [Ka]using h
 | Z i,v,_,h=>by simpa [Ka]using h
 | ϐ x,v,_,h=>by simpa [Ka]using h
 | Ϗ ds,v,c,h=>by
  rw[Ka]at h ⊢;obtain⟨p,l,f,g,j⟩:=h;exact⟨p,l,f,g,CG e ds l (by simpa [cl]using c) j⟩
 | .Zi ns,v,_,h=>by rw[Ka]at h ⊢;exact h
 | U n,v,c,h=>by simp[cl]at c
 | ώ ds,v,c,h=>by
  rw[Ka]at h ⊢;obtain⟨a,l,f,g,j,m⟩:=h;exact⟨a,l,f,λz=>g (by obtain⟨r,rfl⟩:=e;exact Pa _ z),j,CG e ds l (by simpa [cl]using c) m⟩
 | Ϭ ks ds,v,c,h=>by
  rw[Ka]at h ⊢;obtain⟨a,l,f,g,j,o,m⟩:=h;exact⟨a,l,f,λz=>g (by obtain⟨r,rfl⟩:=e;exact Pa _ z),j,o,CG e ds _ (by simpa [cl]using c) m⟩
 | Ϲ k ns ds,v,c,h=>by
  rw[Ka]at h ⊢;obtain⟨a,u,l,f,g,j,o,m⟩:=h;exact⟨a,u,l,f,λz=>g (by obtain⟨r,rfl⟩:=e;exact Pa _ z),j,o,CG e ds _ (by simpa [cl]using c) m⟩
 | .pw k,v,_,h=>by
  rw[Ka]at h ⊢;obtain⟨a,t,f,g,j,m⟩:=h;exact⟨a,t,f,λz=>g (by obtain⟨r,rfl⟩:=e;exact Pa _ z),j,λn q=>let ⟨s,w,y,A⟩:=m n q;⟨s,w,λz=>y (by obtain⟨r,rfl⟩:=e;exact Pa _ z),A⟩⟩
 | .gt ss,v,_,h=>by rw[Ka]at h ⊢;exact h
theorem CG(e:∃ r,μ'=μ++r):∀ (a:g') (b:gV),vf a=A3->Za T μ' H a b->Za T μ H a b
 |[],b,_,h=>by simpa [Za]using h
 |d::a,b,c,h=>by
  rw[Za]at h ⊢;obtain⟨v,r,g,i,j⟩:=h;have f:cl d=A3/\vf a=A3:=by simpa [vf,Da]using c
  exact⟨v,r,g,dM e d v f.1 i,CG e a r f.2 j⟩
end
mutual
theorem Ka.down(e:∃ r,μ'=μ++r):∀ (d:D) (v0 v:V),Ka T μ H d v0->Ka T μ' H' d v->Ka T μ H' d v
 | Ϛ,v0,v,_,h=>by simpa [Ka]using h
 | ϒ b,v0,v,_,h=>by simpa [Ka]using h
 | Z i,v0,v,_,h=>by simpa [Ka]using h
 | ϐ x,v0,v,_,h=>by simpa [Ka]using h
 | Ϗ ds,v0,v,c,h=>by
  rw[Ka]at h c ⊢;obtain⟨p,m,g,f,l⟩:=h;obtain⟨G,j,_,_,w⟩:=c;exact⟨p,m,g,f,Za.down e ds j m w l⟩
 | .Zi ns,v0,v,_,h=>by rw[Ka]at h ⊢;exact h
 | U n,v0,v,c,h=>by
  rw[Ka]at h c ⊢;obtain⟨a,g,f⟩:=h;obtain⟨b,_,u⟩:=c;refine⟨a,g,?_⟩;obtain⟨r,rfl⟩:=e;rw[Xa (ba.mp u).1]at f;exact f
 | ώ ds,v0,v,c,h=>by
  rw[Ka]at h c ⊢;obtain⟨a,m,g,f,l,o⟩:=h;obtain⟨_,j,_,_,_,s⟩:=c;exact⟨a,m,g,λz=>f (by obtain⟨r,rfl⟩:=e;exact Pa _ z),l,Za.down e ds j m s o⟩
 | Ϭ ks ds,v0,v,c,h=>by
  rw[Ka]at h c ⊢;obtain⟨a,m,g,f,l,t,o⟩:=h;obtain⟨_,j,_,_,_,_,s⟩:=c;exact⟨a,m,g,λz=>f (by obtain⟨r,rfl⟩:=e;exact Pa _ z),l,t,Za.down e ds _ _ s o⟩
 | Ϲ k ns ds,v0,v,c,h=>by
  rw[Ka]at h c ⊢;obtain⟨a,B,m,g,f,l,t,o⟩:=h;obtain⟨_,_,j,_,_,_,_,s⟩:=c;exact⟨a,B,m,g,λz=>f (by obtain⟨r,rfl⟩:=e;exact Pa _ z),l,t,Za.down e ds _ _ s o⟩
 | .pw k,v0,v,_,h=>by
  rw[Ka]at h ⊢;obtain⟨a,A,g,f,l,o⟩:=h;exact⟨a,A,g,λz=>f (by obtain⟨r,rfl⟩:=e;exact Pa _ z),l,λn q=>let ⟨y,C,E,F⟩:=o n q;⟨y,C,λz=>E (by obtain⟨r,rfl⟩:=e;exact Pa _ z),F⟩⟩
 | .gt ss,v0,v,_,h=>by rw[Ka]at h ⊢;exact h
theorem Za.down(e:∃ r,μ'=μ++r):∀ (b:g') (a f:gV),Za T μ H b a->Za T μ' H' b f->Za T μ H' b f
 |[],a,f,_,h=>by simpa [Za]using h
 |d::b,a,f,c,h=>by
  rw[Za]at h c ⊢;obtain⟨v,r,j,k,l⟩:=h;obtain⟨n,m,_,g,i⟩:=c;exact⟨v,r,j,Ka.down e d n v g k,Za.down e b m r i l⟩
end
theorem uJ{f:Type}(e:∃ r,μ'=μ++r):∀ {xs:List$ f × D} {g h:List$ f × V},Paired (λ(p:f × D) (q:f × V)=>p.1=q.1/\Ka T μ H p.2 q.2) xs h->Paired (λ(p:f × D) (q:f × V)=>p.1=q.1/\Ka T μ' H' p.2 q.2) xs g->Paired (λ(p:f × D) (q:f × V)=>p.1=q.1/\Ka T μ H' p.2 q.2) xs g:=by
 intro _ _ x a b;induction b generalizing x with
 |nil=>exact .nil
 |cons c _ i=>cases a with|cons a b=>exact .cons ⟨c.1,Ka.down e _ _ _ a.2 c.2⟩ (i b)
theorem Ho.down(e:∃ r,μ'=μ++r):∀ {o:Ob},Ho T μ H a o->Ho T μ' H' a o->Ho T μ H' a o
 | ϑ ds,⟨_,_,c⟩,⟨b,h,r⟩=>⟨b,h,Za.down e _ _ _ c r⟩
 | J f,⟨_,_,c⟩,⟨b,h,r⟩=>⟨b,h,uJ e c r⟩
 | ϓ c i,⟨_,_,_,d⟩,⟨g,b,h,r⟩=>⟨g,b,h,uJ e d r⟩
 | Ϡ f,⟨_,_,_,d⟩,⟨ob,b,h,r⟩=>⟨ob,b,h,uJ e d r⟩
 | .Je ks,_,⟨b,h,r⟩=>⟨b,h,r⟩
def Xc.down(c:Xc T μ H σ)(r:Xc T μ' H' σ')(e:pd μ H μ' H')(q:σ'.take σ.length=σ):Xc T μ H' σ/\pd μ H μ H':=by
 refine⟨⟨c.len,c.nd,λn o h=>?_,r.tb.sub λb l=>by obtain⟨z,rfl⟩:=e.pre;exact Pa _ l⟩,⟨⟨[],by simp⟩,e.Ha,e.Oc,λp o h n=>⟨(e.keep p o h n).1,n⟩⟩⟩;obtain⟨a,f,i⟩:=c.obs n o h;have g:σ'[n]?=BD o:=by
  have m:=(ba.mp h).1
  rwa [<-q,jp m]at h
 obtain⟨b,j,k⟩:=r.obs n o g;have d:=e.get f;rw[j]at d;cases d;exact⟨a,f,i.down e.pre k⟩
theorem ZO{c:Type}:∀ {xs:List$ c × D} {d:List$ c × V},Paired (λ(p:c × D) (q:c × V)=>p.1=q.1/\Ka T μ H p.2 q.2) xs d->d.map (·.1)=xs.map (·.1)/\Za T μ H (xs.map (·.2)) (d.map (·.2)):=by
 intro _ _ h;induction h with
 |nil=>exact⟨rfl,Za.nil⟩
 |cons a _ i=>exact⟨by simp[i.1,a.1],Za.cons a.2 i.2⟩
theorem uU{f:D->Option D}(j:∀ d e v,f d=BD e->Ka T μ' H d v->Ka T μ H e v):∀ (b a:g') (c:gV),Rl f b=BD a->Za T μ' H b c->Za T μ H a c
 |[],a,c,h,r=>by cases h;simpa [Za]using r
 |d::b,a,c,h,r=>by
  unfold Rl at h;cases g:f d with
  |none=>simp_all
  |some x=>
   cases i:Rl f b with
   |none=>simp_all
   |some xs=>
    rw[g,i]at h;cases h;obtain⟨v,w,rfl,k,l⟩:=r;exact Za.cons (j d x v g k)$ uU j b xs w i l
def yR(e:∃ r,μ'=μ++r)(r:Xc T μ' H σ'):∀ m d B v,fz μ.length σ' m d=BD B->Ka T μ' H d v->Ka T μ H B v:=by
 have I:∀ n v,n<μ.length->Ka T μ' H (U n) v->Ka T μ H (U n) v:=λn v l h=>by
  apply b_;intro z_;obtain⟨a,g,C⟩:=h;obtain⟨q,rfl⟩:=e;rw[Xa l]at C;apply z_;exact⟨a,g,C⟩
 intro m;induction m with
 |zero=>
  intro d B v h k;unfold fz at h;by_cases x:cl d=A3
  ·rw[ia x]at h;cases h;exact dM e _ _ x k
  ·rw[qa x]at h;cases d with
   |ref n=>
    dsimp only at h;by_cases l:n<μ.length
    ·rw[ia l]at h;cases h;exact I n v l k
    ·rw[qa l]at h;cases h
   |_=>cases h
 |succ m S=>
  intro d B v h k;unfold fz at h;by_cases x:cl d=A3
  ·rw[ia x]at h;cases h;exact dM e _ _ x k
  ·rw[qa x]at h;have w:=uU (λd B v a b=>S d B v a b);cases d with
   |ref n=>
    dsimp only at h;by_cases l:n<μ.length
    ·rw[ia l]at h;cases h;exact I n v l k
    ·rw[qa l]at h;cases L:σ'[n]? with
     |none=>rw[L]at h;cases h
     |some o=>
      rw[L]at h;obtain⟨a,rfl,Q,y⟩:=r.at k L;have A:a ∉ μ:=λz=>by
       obtain⟨i,P⟩:=Es z;obtain⟨q,rfl⟩:=e;have R:=(ba.mp P).1;have:=WH r.nd (by rw[Xa R];exact P) Q;omega
      cases o with
      |na xs=>
       obtain⟨j,g,rfl⟩:=Wa.mp h;obtain⟨f,F,G⟩:=y;exact⟨a,f,rfl,A,F,w xs j f g G⟩
      |Aa O=>
       obtain⟨j,g,rfl⟩:=Wa.mp h;obtain⟨f,F,G⟩:=y;obtain⟨M,N⟩:=ZO G;exact⟨a,f,rfl,A,(ϖ F),M,w _ j _ g N⟩
      |jb c ϋ=>
       obtain⟨j,g,C⟩:=Wa.mp h;subst C;obtain⟨ύ,f,F,G⟩:=y;obtain⟨M,N⟩:=ZO G;exact⟨a,ύ,f,rfl,A,F,M,w _ j _ g N⟩
      |Fb O=>cases h
      |Je _=>cases h
   |Ha xs=>
    obtain⟨j,g,rfl⟩:=Wa.mp h;obtain⟨p,f,s,t,u⟩:=k;exact⟨p,f,s,t,w xs j f g u⟩
   |na xs=>
    obtain⟨j,g,rfl⟩:=Wa.mp h;obtain⟨p,f,s,E,t,u⟩:=k;exact⟨p,f,s,λz=>E (by obtain⟨r,rfl⟩:=e;exact Pa _ z),t,w xs j f g u⟩
   |Aa ks xs=>
    obtain⟨j,g,rfl⟩:=Wa.mp h;obtain⟨p,f,s,E,t,K,u⟩:=k;exact⟨p,f,s,λz=>E (by obtain⟨r,rfl⟩:=e;exact Pa _ z),t,K,w xs j _ g u⟩
   |obj c ks xs=>
    obtain⟨j,g,C⟩:=Wa.mp h;subst C;obtain⟨p,ύ,f,s,E,t,K,u⟩:=k;exact⟨p,ύ,f,s,λz=>E (by obtain⟨r,rfl⟩:=e;exact Pa _ z),t,K,w xs j _ g u⟩
   |_=>cases h
def Kb.Oc{E}{f}{Q}(r:Xc T μ H σ)(h:Kb T E (Ka T) μ H (Oc f σ) Q):Kb T E (Ka T) μ H (f σ) Q:=by
 unfold L4.Oc at h;cases e:f σ with
 |pb=>rw[e]at h;exact h
 |ex x a=>
  rw[e]at h;unfold lg at h;dsimp only at h;by_cases b:a.take σ.length=σ
  ·rw[ia b]at h;intro m i c g;obtain⟨l,j⟩:=Xc.down r g c b;exact h μ i j l
  ·rw[qa b]at h;exact h.elim
 |ok d a=>
  rw[e]at h;unfold lg at h;dsimp only at h;by_cases b:a.take σ.length=σ
  ·rw[ia b]at h;cases k:fz σ.length a 6 d with
   |none=>rw[k]at h;exact h.elim
   |some n=>
    rw[k]at h;intro m v i c g o;obtain⟨l,j⟩:=Xc.down r g c b;exact h μ v i j l$ yR c.pre g 6 d n v (by rw[r.len];exact k) o
  ·rw[qa b]at h;exact h.elim
end
def cj(f:Ev->M D):Ev->M D:=λa=>Oc$ f a
def xI(h:FE T X e f):FE T X e$ cj f:=by
 rintro a s g H Q I ⟨i,j,k,c,b,d⟩;exact h a s g H Q I ⟨i,j,k,c,b,Kb.Oc b d⟩
def DK(h c:Heap):Prop:=∀ (a:Nat) o,h.objs[a]?=BD o->∃ b:Obj,c.objs[a]?=BD b/\b.dict=o.dict
def DK.refl h:DK h h:=λa o e=>⟨o,e,rfl⟩
def DK.trans(x:DK b c)(y:DK c d):DK b d:=λa o e=>by
 obtain⟨h,f,q⟩:=x a o e;obtain⟨i,g,j⟩:=y a h f
 simp_all
def DK.push h o:DK h$ h.push o:=λa u e=>by
 obtain⟨b,l⟩:=h;have e:=e;have c:=(Qc.mp e).1;refine⟨u,?_,rfl⟩;show (b.push o)[a]?=BD u;rw[Array.getElem?_push_lt c];exact(Bb c).symm.trans e
def DK.update h b(i:∀ o,(f o).dict=o.dict):DK h$ h.update b f:=λa u e=>by
 obtain⟨c,l⟩:=h;show ∃ d:Obj,(c.modify b f)[a]?=BD d/\_;rw[Array.getElem?_modify];by_cases g:b=a;all_goals simp_all
def DK.get(x:DK h b)(e:h.get? a=BD o)(d:b.get? a=BD c):c.dict=o.dict:=by
 obtain⟨u,f,g⟩:=x a o ((Sv _ _ _).1 e).1;have:=((Sv _ _ _).1 d).1
 simp_all
structure KD{α:Type}(t:Om α):Prop where
 out:∀ (M:gj) (Γ:PySem.Ctx) (Q:α->Td->Shared->Prop) (E:Value->Td->Shared->Prop) (p:Td) (s:Shared),Sem.wp M Γ t Q E p s->Sem.wp M Γ t (λa p' s'=>Q a p' s'/\DK s.heap s'.heap) (λe p' s'=>E e p' s'/\DK s.heap s'.heap) p s
namespace KD
variable{α β:Type}
def Ps a:KD (Pure.pure a:Om α):=⟨λb b b b b s h=>⟨h,.refl _⟩⟩
def uv w:KD (PySem.unsupported w:Om α):=⟨λa a a a a a h=>h⟩
def Lc(g:KD m)(e:∀ a,KD (f a)):KD$ m >>= f:=⟨λM b Q E p s h=>by
 rw[Ol]at h ⊢;refine Ct M b m (λa c d z=>?_) (λi i i z=>z) p s$ g.out M b _ _ p s h;exact Ct M b _ (λi i i q=>⟨q.1,z.2.trans q.2⟩) (λi i i q=>⟨q.1,z.2.trans q.2⟩) c d$ (e a).out M b _ _ c d z.1⟩
def lm{c}[Decidable c]{t u:Om α}(a:KD t)(b:KD u):KD$ if c then t else u:=by split<;>assumption
def ld a:KD$ PySem.load a:=⟨λc c c c c c h=>by obtain⟨o,b,h⟩:=h;exact⟨o,b,h,.refl _⟩⟩
def Nb a(b:∀ o,(f o).dict=o.dict):KD$ PySem.update a f:=⟨λc c c c c c h=>⟨h.1,h.2,.update _ _ b⟩⟩
def Pp:KD PySem.stack:=⟨λM a Q E p s h=>by
 exact⟨h,.refl _⟩⟩
def Uu o:KD$ PySem.alloc o:=⟨λa a a a a a h=>⟨h,.push _ _⟩⟩
def fld v i:KD$ PySem.field v i:=⟨λj g Q E p s h=>by
 rw[Tv]at h ⊢;obtain⟨a,o,f,x,b,c,d,e,h⟩:=h;exact⟨a,o,f,x,b,c,d,e,h,.refl _⟩⟩
def set v i x:KD$ PySem.setField v i x:=⟨λn m Q E p s h=>by
 rw[kK]at h ⊢;obtain⟨a,o,k,e,f,g,j,h⟩:=h;exact⟨a,o,k,e,f,g,j,h,.update _ _ λo=>by obtain⟨c,d,b,l⟩:=o;cases b<;>rfl⟩⟩
end KD
def m3 a l:KD$ mR a l:=by unfold mR;(repeat' with_reducible first|assumption|exact KD.Ps _|exact KD.uv _|exact KD.fld _ _|exact KD.set _ _ _|exact KD.ld _|exact KD.Nb _ _|exact KD.Pp|exact KD.Uu _|apply KD.lm|apply KD.Lc|intro _|split)
def Ń:KD underTheClaimsCaller:=by unfold underTheClaimsCaller;(repeat' with_reducible first|assumption|exact KD.Ps _|exact KD.uv _|exact KD.fld _ _|exact KD.set _ _ _|exact KD.ld _|exact KD.Nb _ _|exact KD.Pp|exact KD.Uu _|apply KD.lm|apply KD.Lc|intro _|split)
def zvp a i l:KD$ keptBack a i l:=by
 have:=Ń;cases l<;>unfold keptBack<;>(repeat' with_reducible first|assumption|exact KD.Ps _|exact KD.uv _|exact KD.fld _ _|exact KD.set _ _ _|exact KD.ld _|exact KD.Nb _ _|exact KD.Pp|exact KD.Uu _|apply KD.lm|apply KD.Lc|intro _|split)
theorem iV:∀ l:List qg,KD (readyFrames l)
 |[]=>KD.Ps _
 |env::l=>by
  have b:=iV l;have a:=m3 env l;unfold readyFrames
  (repeat' with_reducible first|assumption|exact KD.Ps _|exact KD.uv _|exact KD.fld _ _|exact KD.set _ _ _|exact KD.ld _|exact KD.Nb _ (λc=>rfl)|exact KD.Pp|exact KD.Uu _|apply KD.lm|apply KD.Lc|intro _|split)
  all_goals first|exact(λi=>zvp env i l) _|skip
def zvr l:KD$ frameObject l:=by
 cases l with
 |nil=>exact KD.Ps _
 |cons env l=>
  have:=iV$ env::l;unfold frameObject
  (repeat' with_reducible first|assumption|exact KD.Ps _|exact KD.uv _|exact KD.fld _ _|exact KD.set _ _ _|exact KD.ld _|exact KD.Nb _ _|exact KD.Pp|exact KD.Uu _|apply KD.lm|apply KD.Lc|intro _|split)
def C3:KD frameEnvs:=by unfold frameEnvs;(repeat' with_reducible first|assumption|exact KD.Ps _|exact KD.uv _|exact KD.fld _ _|exact KD.set _ _ _|exact KD.ld _|exact KD.Nb _ _|exact KD.Pp|exact KD.Uu _|apply KD.lm|apply KD.Lc|intro _|split)
def ę a:KD$ PySem.frameOf a:=by
 have b:=C3;unfold PySem.frameOf
 (repeat' with_reducible first|assumption|exact KD.Ps _|exact KD.uv _|exact KD.fld _ _|exact KD.set _ _ _|exact KD.ld _|exact KD.Nb _ _|exact KD.Pp|exact KD.Uu _|apply KD.lm|apply KD.Lc|intro _|split)
 all_goals first|exact zvr _|skip
def F9 f b:KD$ entryPlaceOf f b:=by unfold entryPlaceOf;(repeat' with_reducible first|assumption|exact KD.Ps _|exact KD.uv _|exact KD.fld _ _|exact KD.set _ _ _|exact KD.ld _|exact KD.Nb _ _|exact KD.Pp|exact KD.Uu _|apply KD.lm|apply KD.Lc|intro _|split)
def znl a b c d e l:KD$ Oo a b c d e l:=by
 unfold Oo newFields newObj newObjAsIs
 (repeat' with_reducible first|assumption|exact KD.Ps _|exact KD.uv _|exact KD.fld _ _|exact KD.set _ _ _|exact KD.ld _|exact KD.Nb _ _|exact KD.Pp|exact KD.Uu _|apply KD.lm|apply KD.Lc|intro _|split)
def W8 e a:KD$ Hh e a:=by
 have b:=ę a;unfold Hh
 (repeat' with_reducible first|assumption|exact KD.Ps _|exact KD.uv _|exact KD.fld _ _|exact KD.set _ _ _|exact KD.ld _|exact KD.Nb _ (λc=>rfl)|exact KD.Pp|exact KD.Uu _|apply KD.lm|apply KD.Lc|intro _|split)
 all_goals first|exact F9 _ _|exact znl _ _ _ _ _ _|skip
def Æ e f:KD$ Po e f:=by unfold Po;(repeat' with_reducible first|assumption|exact KD.Ps _|exact KD.uv _|exact KD.fld _ _|exact KD.set _ _ _|exact KD.ld _|exact KD.Nb _ _|exact KD.Pp|exact KD.Uu _|apply KD.lm|apply KD.Lc|intro _|split)
def XX{M}{t:Om e}{Q}(k:KD t)(h:wpAny M A t Q E s):wpAny M A t (λa d=>Q a d/\DK s.heap d.heap) E s:=
 λc p b=>Ct M c t (λf f f z=>z) (λf f f z=>z.1) p s$ k.out M c _ _ p s$ h c p b
section
variable{P:xa}{w:Ma}{H H':Hp}{h h':Heap}{a:Addr}{o:HO}
def HV(x:Zj P w H h a o):∃ u,h.get? a=BD u:=by
 cases o with
 |na xs=>obtain⟨_,_,_,_,e⟩:=x;exact⟨_,e⟩
 |Ha xs=>obtain⟨_,_,_,d,e,_⟩:=x;exact⟨_,e⟩
 |dK b=>obtain⟨_,_,_,_,o,_,_,e,_⟩:=x;exact⟨_,e⟩
 |dT b=>obtain⟨_,_,_,_,o,_,_,e,_⟩:=x;exact⟨_,e⟩
 |set S n=>obtain⟨o,_,_,_,e,_⟩:=x;exact⟨_,e⟩
 |jb C g c=>obtain⟨_,_,_,e,_⟩:=x;exact⟨_,e⟩
 |own y=>trivial
 |xd c=>obtain⟨_,⟨_,_,_,e,_⟩,_⟩:=x;exact⟨_,e⟩
 |XG lo i=>obtain⟨_,_,_,e⟩:=x;exact⟨_,e⟩
 |Oc d u=>obtain⟨e,_⟩:=x;exact⟨_,e⟩
 |El j=>exact⟨_,x⟩
 |met f y=>exact⟨_,x⟩
 |ext k=>obtain⟨_,⟨_,e⟩,_⟩:=x;exact⟨_,e⟩
def iU(x:Xh P w H h)(k:∀ b o u,H b=BD o->h.get? b=BD u->h'.get? b=BD u):Xh P w H h':=λb o e=>
 (x b o e).Dk (λc v a q=>by
  rcases a with rfl|a
  ·exact k _ _ _ e q
  ·exact k _ _ _ a q) (λc q=>q) λc c q=>q
end
section
variable{pins:List$ Addr × Obj}{st:St}{H H':Hp}{s s':Shared}{cls:Value}{h':Heap}{ea:Addr}{args:b'}{M:gj}{E:Value->Shared->Prop}{Q:Unit->Shared->Prop}
def ť(x:eE B l ea cls a0 h):Wo B l ea cls a0 h:=⟨x.1,x.2.1,x.2.2.1,ϖ ⟨Yb,x.2.2.2.at⟩⟩
def Wo.there(x:Wo B l ea cls a0 h):∃ a,h.get? ea=BD a/\a.cls=cls:=by
 obtain⟨_,_,_,⟨e,q⟩|⟨b,f,c,d,_⟩⟩:=x
 ·exact q.there
 ·exact⟨b,c,d⟩
def oE.next(x:oE a ea B h b H')(k:DK h h')(e:∃ o,h'.get? ea=BD o):oE a ea B h' b H':=λn q=>by
 obtain⟨c,d,j,f,g,i⟩:=x n q;obtain⟨o,e⟩:=e;exact⟨c,d,o,e,(k.get f e).trans g,i⟩
def zL(x:Wo B l ea cls a0 s.heap)(h:∀ a,Wo B l ea cls a0 a->s.heap.UpToSlots a->DK s.heap a->Q () { s with heap:=a }):wpAny M A (Po (xb ea) L6) Q E s:=by
 obtain⟨d,f,g,⟨u,c⟩|c⟩:=x
 ·have k:wpAny M A _ (λF s'=>∃ a,s'={ s with heap:=a }/\Wo B l ea cls a0 a/\s.heap.UpToSlots a) E s:=
   wpAny_setFlight_noneW d g c λa k1 j m p=>⟨a,rfl,ť ⟨k1,f,j,m⟩,λb o e n=>⟨o.slots,p b o e n⟩⟩
  exact dc (XX (Æ _ _) k) (λ_ _ ⟨⟨a,e,q,r⟩,t⟩=>by subst e;exact h a q r t) λF F z=>z
 ·obtain⟨C,D,i,w,hd,y,v,a⟩:=id c;exact aa$ Fk i hd a$ ga$ h s.heap ⟨d,f,g,ϙ c⟩ (.refl _)$ .refl _
def zwd(t:A.frames=BD (d::a))(r:d.frame=BD L)(x:Wo B (d::a) ea cls a0 s.heap)
  (ύ:∀ h,eo B (d::a) ea cls a0 L h->s.heap.UpToSlots h->Q () { s with heap:=h }):wpAny M A (Hh (xb ea) d) Q E s:=by
 obtain⟨G,y,H,⟨z,l⟩|l⟩:=x
 ·by_cases ό:z=jc L
  ·subst ό;exact wpAny_noteFrame_againW r l$ ύ s.heap ⟨G,y,H,l⟩$ .refl _
  ·obtain⟨R,ϋ,T,oT,w,j,K,hd,h,u,i,C,c,X⟩:=l;have S:3<w.size:=(Qc.mp X).1;have f:∀ b,b≠T->(s.heap.update T (mq (·.setIfInBounds 3 Yb))).get? b=s.heap.get? b:=λb D=>ye _ _$ Jd D;have nr:∀ b o,s.heap.get? b=BD o->(∀ v,o.data≠ ϩ v)->b≠T:=λb o D hn q=>by
    rw[q,C]at D;cases D;exact hn w c
   have g:=Ec (mq (·.setIfInBounds 3 Yb)) C$ Le$ cc c _;have up:s.heap.UpToSlots _:=λb o e n=>⟨o.slots,(f b$ nr b o e n).trans e⟩
   have F0:eE B _ ea cls a0 _:=
    ⟨λb o e=>(f b λq=>by rw[q,u]at e;cases e).trans$ G b o e,y,H.of_keeps λb o e n=>⟨o,(f b$ nr b o e n).trans e,rfl⟩,
     R,ϋ,T,_,_,(f ea$ Jd i).trans j,K,hd,h,u,i,g,cc c _,by simp[S]⟩
   intro Γ p N;have k:=(wpAny_looks_onW (M:=M) (E:=E) (s:={ s with heap:=s.heap.update T _ }) t r F0 λh2 q1 q2=>ύ h2 q1$ up.trans q2) Γ p N;unfold Hh at k ⊢;simp only[r]at k ⊢;rw[Ol,Tv]at k ⊢;apply b_;intro z_;obtain⟨a1,O,v1,x1,e1,g1,W,ϊ,k⟩:=k;cases e1;have m:s.heap.get? ea=BD O:=(f ea$ Jd i).symm.trans g1;have P:O=R:=by rw[j]at m;cases m;rfl
   apply z_;apply b_;intro z_;subst P;rw[hd]at W;cases W;rw[h]at ϊ;cases ϊ;apply z_;refine⟨ea,O,ϋ,xb T,rfl,j,hd,h,?_⟩;have nn:(xb T != Yb)=A3:=by simp
   simp only[nn,dj]at k ⊢;rw[Ol,Tv]at k ⊢;obtain⟨a2,o2,v2,x2,e2,g2,d2,i2,k⟩:=k;cases e2;have I:=g.symm.trans g2;cases I;have F:=(cc c (·.setIfInBounds 3 Yb)).symm.trans d2;cases F;have V:x2=Yb:=by
    have:(w.setIfInBounds 3 Yb)[3]?=BD Yb:=by simp[S]
    rw[this]at i2;cases i2;rfl
   subst V;refine⟨T,oT,w,z,rfl,C,c,X,?_⟩;have n1:(Yb == jc L)=Ŷ:=by simp[jc]
   have n2:(z == jc L)=Ŷ:=by
    cases q:z == jc L with
    |false=>rfl
    |true=>exact absurd (Zg.mp q) ό
   simp only[n1,n2,uu,lp]at k ⊢;rw[Ol,kK]at k ⊢;apply b_;intro z_;obtain⟨a3,o3,v3,e3,g3,d3,i3,k⟩:=k;cases e3;apply z_;refine⟨T,oT,w,rfl,C,c,S,?_⟩;simpa only[Heap.update_setField_twice]using k
 ·obtain⟨R,ϋ,j,K,hd,hz,h0,h⟩:=l;unfold Hh;simp[r];refine aa$ Fk j hd h (wpAny_entryW (base:=B) (outer:=a) (a0:=a0) t H r j G y hd hz h0 λh4 hN=>?_);obtain⟨k1,k2,k3,k4⟩:=hN;rw[K]at k3;exact ύ h4 ⟨k1,y,k2,k3⟩ k4
def YT(d:A.frames=BD (c::a))(i:c.frame=BD L)(x:Wo B (c::a) ea cls a0 s.heap)
  (h:∀ b,eo B (c::a) ea cls a0 L b->s.heap.UpToSlots b->DK s.heap b->Q () { s with heap:=b }):wpAny M A (Hh (xb ea) c) Q E s:=by
 have k:wpAny M A _ (λl s'=>∃ b,s'={ s with heap:=b }/\eo B _ ea cls a0 L b/\s.heap.UpToSlots b) E s:=zwd d i x λb f g=>⟨b,rfl,f,g⟩
 exact dc (XX (W8 _ _) k) (λ_ _ ⟨⟨b,e,f,g⟩,j⟩=>by subst e;exact h b f g j) λl l z=>z
def aT(x:eo B l ea cls a0 L h):Wo B l ea cls a0 h:=⟨x.1,x.2.1,x.2.2.1,ϖ ⟨_,x.2.2.2⟩⟩
def Ò(d:A.frames=BD (b::a))(g:b.frame=BD L)(x:Wo B (b::a) ea cls a0 s.heap)
  (f:∀ c,Wo B a ea cls a0 c->s.heap.UpToSlots c->DK s.heap c->Q () { s with heap:=c }):wpAny M A (leaving b$ xb ea) Q E s:=by
 refine aa (YT d g x λc k l m=>(zL (aT k) λe n o p=>?_));obtain⟨k1,h,⟨_,_,i⟩,j⟩:=n;exact f e ⟨k1,h,i,j⟩ (l.trans o)$ m.trans p
def tJ(c:X.stack=X.env::X.outer)(a:X.env.frame=BD X.env.locals):b∈dk X.stack ↔ b=X.env.locals\/b∈dk X.outer:=by
 rw[c];unfold dk;rw[Ze,a];exact Fa
def Á(I:Ta X pins st H s)(m:X.stack=X.env::X.outer)(l:X.env.frame=BD X.env.locals)(p:X.ex=[])(d:Un (dk X.stack) [] H H' s.heap f):Un (dk X.outer) [] X.H₀ H' X.s₀.heap f:=by
 have a:∀ b,b ∉ X.ex:=λb z=>by rw[p]at z;cases z
 have i:∀ b o,X.s₀.heap.get? b=BD o->b≠X.env.locals:=λb o e=>va$ Ga (ua e) I.ok.above;refine⟨λb o e n g v=>?_,λb o e n g v=>?_,λb o e n v=>?_,λb o e v=>?_,λb xs e=>d.cm b xs$ I.base.cm b xs e,λb o u e=>d.uj b o u$ I.base.uj b o u e,λb ps e=>?_⟩
 ·exact d.keep b o (I.base.keep b o e n g$ a b) (I.base.free b o e n$ a b) (λz=>((tJ m l).mp z).elim (i b o e) g) ⋯
 ·obtain⟨t,c⟩:=I.base.slot b o e n g (a b);obtain⟨k,h⟩:=d.slot b _ c (I.base.free b o e n$ a b) ((tJ m l).mpr$ ϙ g) ⋯;exact⟨k,h⟩
 ·obtain⟨j,c⟩:=I.base.there b o e (a b);exact d.free b j c (I.base.free b o e n$ a b) ⋯
 ·obtain⟨j,c⟩:=I.base.there b o e (a b);exact d.there b j c ⋯
 ·obtain⟨q,c⟩:=I.base.vl b ps e;obtain⟨r,h⟩:=d.vl b _ c;exact⟨q++r,by rw[h,yt]⟩
def RJ(F:gB P w a H s cls t H' e s'){B:Heap}(x:∀ b o,s.heap.get? b=BD o->H b=L6->b ∉ dk a->B.get? b=BD o)(y:∀ b o,H' b=BD o->∃ r,B.get? b=BD r)
  (v:∀ b o,s.heap.get? b=BD o->b ∉ dk a->∃ k,B.get? b=BD k) (z:∀ b o,B.get? b=BD o->s'.heap.get? b=BD o) (l:∀ b o,B.get? b=BD o->j.get? b=BD o) (h:s'.heap.UpToSlots j) (g:∀ b∈dk a,∃ o,s.heap.get? b=BD o/\(∀ D,o.data≠ ϩ D)/\H b=L6) :
  Un (dk a) [] H H' s.heap j/\Xh P w H' j:=by
 refine⟨⟨λb o e n c E=>l b o$ x b o e n c,λb o e n c m=>?_,F.un.free,λb o e m=>?_,F.un.cm,F.un.uj,F.un.vl⟩,iU F.lc λb o u e q=>?_⟩
 ·obtain⟨C,f⟩:=F.un.slot b o e n c m;obtain⟨k,d,hd,_⟩:=g b c;rw[e]at d;cases d;obtain⟨i,p⟩:=h b _ f hd;exact⟨i,p⟩
 ·by_cases c:b∈dk a
  ·obtain⟨k,d,hd,A⟩:=g b c;rw[e]at d;cases d;obtain⟨C,f⟩:=F.un.slot b o e A c m;obtain⟨i,p⟩:=h b _ f hd
   simp_all
  ·obtain⟨k,f⟩:=v b o e c
   simp_all
 ·obtain⟨r,f⟩:=y b o e
  simp_all
def QI(I:Ta X pins st H s):∀ b∈dk X.stack,∃ o,s.heap.get? b=BD o/\(∀ c,o.data≠ ϩ c)/\H b=L6:=λb a=>by
 obtain⟨_,o,e,hd⟩:=I.stack.mem a;exact⟨o,e,hd,I.Ej b a⟩
set_option tactic.hygienic true in
def z8(I:Ta X pins st H s)(d:X.stack=X.env::X.outer)(i:X.env.frame=BD X.env.locals)(c:X.ex=[])(F:gB X.prog X.w X.stack H s cls j H' e s')
  (L:∀ g,gB X.prog X.w X.outer X.H₀ X.s₀ cls j H' e g->Q () g):wpAny M X.A (leaving X.env e) Q E s':=by
 obtain⟨ea,a0,B,rfl,x,N,G,D,C,y,K⟩:=F.ex;have k:Wo B (X.env::X.outer) ea cls a0 s'.heap:=by rw[<-d];exact x
 refine Ò (by rw[<-d];exact I.ok.frames) i k λl r R S=>L _ ?_;obtain⟨P,p⟩:=RJ F C D y x.1 r.1 R (QI I);have a:∀ b,b ∉ X.ex:=λb z=>by rw[c]at z;cases z
 have f:∀ b o,X.s₀.heap.get? b=BD o->b≠X.env.locals:=λb o e=>va$ Ga (ua e) I.ok.above;have ύ:∀ b,s.heap.get? b=L6->X.s₀.heap.get? b=L6:=λb e=>by
  cases q:X.s₀.heap.get? b with
  |none=>rfl
  |some u=>obtain⟨v,t⟩:=I.base.there _ _ q (a _);rw[e]at t;cases t
 have m:oE j ea B l X.s₀.heap H':=λn q=>by
  apply b_;intro z_;obtain⟨T,ϋ,V,W,ό,ϊ,z4,z5,z6⟩:=K.next S (let ⟨o,e,_⟩:=r.there;⟨o,e⟩) n q
  apply z_;simp_all
 refine⟨⟨ea,a0,B,rfl,r,N,?_,D,λb o e n h=>?_,λb o e h=>?_,m⟩,F.os.trans I.os,F.bare,Á I d i c P,p⟩
 ·cases q:X.s₀.heap.get? ea with
  |none=>rfl
  |some u=>grind
 ·exact C b o (I.base.keep b o e n h$ a b) (I.base.free b o e n$ a b) λz=>((tJ d i).mp z).elim (f b o e) h
 ·obtain⟨O,q⟩:=I.base.there b o e (a b);exact y b O q λz=>((tJ d i).mp z).elim (f b o e) h
end
def Ù{P}{w}{K}{m}{d}{N}{g}{c}{f}{l}{A}{b}{s}{H}{E}{st}{a}{j}{i}
  (h:E a j i):aC (Up (wl P w) P w K m d N g c f l A b s H E) st a j i where
 WG:=λk o s1 e p I F=>z8 I rfl rfl rfl F λn G=>⟨a,j,i,G,h⟩
def aC.made{st}(t:aC X st j L6 g)(I:Ta X d st g s)(c:Heap.MadeExcOf s.heap h' h j i):X.xe (xb h) { s with heap:=h' }:=by
 have f:∀ b o,s.heap.get? b=BD o->b ∉ dk X.stack->(W.hideAll s.heap _).get? b=BD o:=λb o e n=>W.hideAll_get _ e n;obtain⟨y,m,x,A⟩:=c.there;have p:∀ b o,g b=BD o->b ∉ dk X.stack:=λb o e z=>by rw[I.Ej b z]at e;cases e
 have w:g h=L6:=by
  cases q:g h with
  |none=>rfl
  |some u=>obtain⟨v,e⟩:=HV (I.lc _ _ q);rw[c.new]at e;cases e
 refine t.WG d g s _ _ I ⟨⟨h,xb y,W.hideAll s.heap _,rfl,⟨λb o q=>c.keeps b o$ W.of_hideAll _ q,?_,(W.funFrames_hide I.stack$ λl m a r=>ik.mpr ⟨l,m,r⟩).of_keeps λb o e B=>⟨o,c.keeps b o e,rfl⟩,ϙ ⟨_,_,m,rfl,rfl,by simp,rfl,rfl⟩⟩,w,c.new,λb o e=>?_,λb o e n k=>f b o e k,λb o e k=>⟨o,f b o e k⟩,λn q=>by cases q⟩,rfl,I.bare,⟨λb o e n k B=>c.keeps b o e,λb o e n k B=>⟨o.slots,c.keeps b o e⟩,λb o e n B=>n,λb o e B=>⟨o,c.keeps b o e⟩,λB B e=>e,λB B B e=>e,λb ps e=>⟨#[],by rw[e];simp⟩⟩,iU I.lc λb o u e q=>c.keeps b u q⟩
 ·cases q:(W.hideAll s.heap _).get? h with
  |none=>rfl
  |some u=>have:=W.of_hideAll _ q;rw[c.new]at this;cases this
 ·obtain⟨u,q⟩:=HV (I.lc _ _ e);exact⟨u,f b u q$ p b o e⟩
def zr{K} :
  ij (model P w) (Up (wl P w) P w K g c N d b f e A a s H E).A (Up (wl P w) P w K g c N d b f e A a s H E).env (Up (wl P w) P w K g c N d b f e A a s H E).xe:=zaC
noncomputable def yv2:Fl->M D
 | Ϙ _=>ret Ϛ
 | .rt d=>ret d
 | .xc _ x=>λa=>.ex x a
 |_=>pb
def Cq:Ji Fl->Ji D
 | Y a σ=>yv2 a σ
 |_=>ϗ
def dh(n:Nat)(g:Ev->M Fl)(a:g'):M D:=λb=>Cq$ g (a.map BD++List.replicate (n - a.length) L6) b
inductive iZ(T:Tb)(n:Nat)(vs:gV)(H:Hp)(P:ad->Ca->g'->Prop):Prop
 |mk (μ:ad) (σ:Ca) (ds:g') (a:Za T μ H ds vs) (l:ds.length=n) (r:Xc T μ H σ) (p:P μ σ ds):iZ T n vs H P
noncomputable def Co(T:Tb)(n:Nat)(f:g'->M D):Sp:=λb H Q E=>iZ T n b H λc d a=>Kb T E (Ka T) c H (f a d) Q
noncomputable def Yr(n:Nat)(f:g'->M D)(a:g')(b:g'):M D:=if (b++a).length=n then f (b++a)else pb
def Ye(n:Nat)(f:g'->M D)(a:g')(b:Ev->M (g')):Ev->M D:=λc=>Lc (b c)$ Yr n f a
section
def U3(h:Za T f H a c):sh T f H (a.map BD++List.replicate (N.length - a.length) L6)$ L2.Iw N c:=by
 have l:=h.length;refine⟨by simp[L2.Iw,l],λi d e=>?_⟩;by_cases k:i<a.length
 ·rw[Xa (by simpa using k),Na]at e;cases b:a[i]? with
  |none=>simp_all
  |some x=>
   rw[b]at e;cases e;obtain⟨v,g,j⟩:=h.get b;refine⟨v,?_,j⟩;unfold L2.Iw;rw[Xa ⋯,Na,g];rfl
 ·rw[pc ⋯,fq]at e
  simp_all
variable{k:Nat}{f C:Addr}{fd:df}{ps:ac}{dvs:gV}{dval:b'}{dds:g'}{x:Str}{p pos:Td}{e:Ja}{es:List Ja}{fn:g'->M D}{fs:Ev->M (g')}{sp:Sp}{t:TA}
def gF(F:qh X.prog X.w X.K X.mg X.base (wl X.prog X.w) k f fd ps sp)(o:yd k X.A)(m:Vr X.K fd ps dval)(hd:de dvs dval)
  (I:Ta X a g H s) (r:de vs d) (h:sp (vs++dvs) H Q$ XE X g):wpAny (model X.prog X.w) X.A (call (xb f) d) (EP X a g Q) X.xe s:=by
 have i:=r.append hd;have n:(d++dval).length=ps.length:=by rw[<-i.length];exact F.len _ _ _ _ h
 refine yj (mf (F.dh X.A X.stack s H _ _ _ Q _ o I.qF (m s d I.Ri n) i h) λr q c=>?_);cases r with
 |error e=>obtain⟨j,fd,t,b,p⟩:=c;exact p.WG a H s e q I b
 |ok l=>
  cases l with
  |ret u=>exact I.after c
  |next=>exact ϱ c
  |brk=>exact ϱ c
  |cont=>exact ϱ c
def fL(F:qh X.prog X.w X.K X.mg X.base (wl X.prog X.w) k f fd ps$ Co T ps.length fn)(M:yd k X.A)(E:Gl X x)(ύ:X.mg x=BD (xb f))(G:Ϻ X.K (xb f)=A3)(C:Vr X.K fd ps dval)(hd:de dvs dval)(g:∀ n H,Za T n H dds dvs)
  (B:FA T X (e::es) fs) (d:(x == ("__debug__" : Str))=Ŷ:=by decide) (D:ka (e::es) X.env=(Ŷ,Cb e X.env)::ka es X.env:=by rfl) (j:(Ub pos$ ka es X.env).any (·.1)=Ŷ:=by rfl) :
  FE T X (ϟ (ϛ x p) (e::es) [] pos)$ Ye ps.length fn dds fs:=by
 intro a s y H Q I h;refine Ke$ pB I E ύ ?_ d;obtain⟨n,ρ,σ,z,l,L⟩:=h;refine ϻ I.ok.mod.Cw G (ud (B pos a s y H (λm c=>Co T ps.length fn (m++dvs) c Q$ XE X y) I ⟨n,ρ,σ,z,l,L.bind λv t o m c J P O N b=>?_⟩) λus s1 ⟨m,c,u,r,q⟩=>⟨u.Ri,?_⟩) D j
 ·unfold Yr at b;by_cases i:(v++dds).length=ps.length
  ·rw[ia i]at b;exact⟨o,t,v++dds,N.append$ g _ _,i,O,b⟩
  ·rw[qa i]at b;exact b.elim
 ·exact gF F M C hd u r q
variable{P:xa}{w:Ma}{K:ϔ}{mg:Str->Option Value}{base:Heap}
def nD{st}{D kV i G d ct ϊ}{C od}
  (lk:K.lookup f=BD ⟨ϊ,od,.func$ Ϯ x a c (ck st) (sf st) D kV i G C d ct,q⟩) (p:W.codeIn K d a=A3) (S:rc N ps$ sf st)
  (X:∀ A b s H E,yd k (A.deeper$ eg a (sf st) s.heap.objs.size f d)->rl T (Up (wl P w) P w K mg base N a (sf st) f d A b s H E) (ck st) g) :
  qh P w K mg base (wl P w) (k+1) f (Ϯ x a c (ck st) (sf st) D kV i G C d ct) ps$ Co T ps.length$ dh N.length g:=by
 refine yn9 lk p S (λvs H Q E h=>?_) (λA b s H vs Q E ό h=>?_)
 ·obtain⟨I,y,L,o,F,_⟩:=h;rw[<-o.length];exact F
 ·obtain⟨I,y,L,o,F,V,e⟩:=h;refine⟨_,X A b s H E ό,I,_,y,U3 o,V,?_⟩;unfold dh at e;cases m:g _ y with
  |pb=>rw[m]at e;exact e
  |ex x B=>rw[m]at e;exact e.elim
  |ok ϋ B=>
   rw[m]at e;intro u n ύ O r j;have l:=e.mono O;cases ϋ with
   |nx v=>cases n with
    |nx t=>have z:=Kb.here l r (by rw[Ka]);exact z
    |_=>exact j.elim
   |rt d2=>cases n with
    |rt v2=>have z:=Kb.here l r j;exact z
    |_=>exact j.elim
   |xc v x2=>cases n with
    |xc t c2 R=>
     obtain⟨_,rfl,rfl⟩:=j;exact Ù$ l u ύ (ϭ _ _) r
    |_=>exact j.elim
   |_=>exact l.elim
def XO(F:qh P w K mg base (wl P w) k f fd ps$ Co T ps.length fn):qh P w K mg base (wl P w) k f fd ps$ Co T ps.length (λa=>Oc$ fn a):=
 F.imp λj H Q E h=>by
  obtain⟨g,i,a,c,d,b,e⟩:=h;exact⟨g,i,a,c,d,b,Kb.Oc b e⟩
end
noncomputable def jj(e:qg)(a:List$ Str × Ae)(b:List$ Str × Addr):List$ Str × Addr:=
 a.foldl (λd y=>if (y.2 == db)=A3 then (match e.cells.lookup y.1 with|some c=>(y.1,c)::d|none=>d)else d) b
theorem nO(b:qg):∀ (d:List$ Str × Ae) (acc:List$ Str × Addr),(∀ y∈d,y.2=db->∃ c,b.cells.lookup y.1=BD c)->
  (forIn d acc (λx (cs:List (Str × Addr))=>match x with|(name,kind)=>if (kind == db)=A3 then (do let a <-cellOf b name;pure (ForInStep.yield$ (name,a)::cs))else pure (ForInStep.yield cs)):Om (List$ Str × Addr))=pure (jj b d acc)
 |[],acc,_=>rfl
 |(n,k)::r,acc,h=>by
  rw[List.forIn_cons];by_cases e:(k == db)=A3
  ·obtain⟨c,i⟩:=h _ ya ⋯;have j:cellOf b n=pure c:=by unfold cellOf;rw[i]
   simp only[e,j];show (forIn r _ _:Om _)=_;rw[nO b r _ λy g=>h y$ ra _ g];have f:jj b ((n,k)::r) acc=jj b r ((n,c)::acc):=by
    unfold jj;rw[Im];simp only[e,dj,i]
   rw[f]
  ·simp only[e];show (forIn r acc _:Om _)=_;rw[nO b r acc λy g=>h y$ ra _ g];have f:jj b ((n,k)::r) acc=jj b r acc:=by
    unfold jj;rw[Im];simp only[e];rfl
   rw[f]
def xM b a(h:∀ y∈a.names,y.2=db->∃ c,b.cells.lookup y.1=BD c):closureFor a b=pure (jj b a.names []):=by
 unfold closureFor;simp only[bind_pure];exact(nO b a.names [] h)
theorem sM(a:qg):∀ (b:List$ Str × Ae) (acc:List$ Str × Addr) (n:Str) (c:Addr),(∀ n c,acc.lookup n=BD c->a.cells.lookup n=BD c)->(jj a b acc).lookup n=BD c->a.cells.lookup n=BD c
 |[],acc,n,c,h,e=>h n c e
 |(y,k)::r,acc,n,c,h,e=>by
  refine sM a r _ n c (λn c q=>?_) e;by_cases f:(k == db)=A3
  ·simp[f,dj]at q;cases d:a.cells.lookup y with
   |none=>rw[d]at q;exact h n c q
   |some g=>
    rw[d]at q;rw[Gb]at q;cases i:(n == y)with
    |true=>simp_all
    |false=>simp_all
  grind
theorem TZ(a:qg):∀ (b:List$ Str × Ae) (acc:List$ Str × Addr) (n:Str),(∃ c,acc.lookup n=BD c)->∃ c,(jj a b acc).lookup n=BD c
 |[],acc,n,h=>h
 |(y,k)::r,acc,n,h=>by
  refine TZ a r _ n ?_;by_cases e:(k == db)=A3
  ·simp[e];cases f:a.cells.lookup y with
   |none=>exact h
   |some d=>
    rw[Gb];cases g:(n == y)with
    |true=>exact⟨d,rfl⟩
    |false=>exact h
  simp_all
theorem sF(b:qg):∀ (a:List$ Str × Ae) (acc:List$ Str × Addr) (n:Str),(n,db)∈a->(∃ c,b.cells.lookup n=BD c)->∃ c,(jj b a acc).lookup n=BD c
 |[],acc,n,h,_=>nomatch h
 |(y,k)::r,acc,n,h,d=>by
  rcases Fa.mp h with e|e
  ·cases e;refine TZ b r _ _ ?_;obtain⟨c,d⟩:=d
   simp_all
  ·exact sF b r _ n e d
theorem gN{a:qg}:∀ {b:List$ Str × Ae} {x:Str} {k:Ae},
  (b.map λ(n,k)=>if (k == db && a.scope.kind == ϥ && a.kindOf n == BD Bc)then (n,Bc)else (n,k)).lookup x=BD k->∃ c,b.lookup x=BD c/\(k=c\/(c=db/\k=Bc))
 |[],_,_,h=>by simp at h
 |(n,c)::r,x,k,h=>by
  have g:=@gN a r x k;have d:List.lookup x ((if (c == db && a.scope.kind == ϥ && a.kindOf n == BD Bc)=A3 then (n,Bc)else (n,c))::(r.map λ(n,k)=>if (k == db && a.scope.kind == ϥ && a.kindOf n == BD Bc)then (n,Bc)else (n,k)))=BD k:=h;cases f:x == n with
  |true=>
   by_cases e:(c == db && a.scope.kind == ϥ && a.kindOf n == BD Bc)=A3;all_goals grind
  |false=>
   by_cases e:(c == db && a.scope.kind == ϥ && a.kindOf n == BD Bc)=A3
   ·rw[ia e]at d;simp only[Gb,f]at d ⊢;exact g d
   ·rw[qa e]at d;simp only[Gb,f]at d ⊢;exact g d
theorem SR{env:qg}:∀ {a:List$ Str × Ae} {x:Str},a.lookup x=BD db->
  (a.map λ(n,k)=>if (k == db && env.scope.kind == ϥ && env.kindOf n == BD Bc)then (n,Bc)else (n,k)).lookup x=BD Bc\/
  (a.map λ(n,k)=>if (k == db && env.scope.kind == ϥ && env.kindOf n == BD Bc)then (n,Bc)else (n,k)).lookup x=BD db
 |[],_,h=>by simp at h
 |(n,k)::r,x,h=>by
  have f:=@SR env r x;have b:∀ z,List.lookup x ((if (k == db && env.scope.kind == ϥ && env.kindOf n == BD Bc)=A3 then (n,Bc)else (n,k))::(r.map λ(n,k)=>if (k == db && env.scope.kind == ϥ && env.kindOf n == BD Bc)then (n,Bc)else (n,k)))=z->
   (List.map (λ(n,k)=>if (k == db && env.scope.kind == ϥ && env.kindOf n == BD Bc)then (n,Bc)else (n,k))$ (n,k)::r).lookup x=z:=λz e=>e
  cases c:x == n with
  |true=>
   simp[Gb,c]at h;cases h;by_cases d:(db == db && env.scope.kind == ϥ && env.kindOf n == BD Bc)=A3
   ·exact ϖ$ b _ (by rw[ia d];simp only[Gb,c])
   ·exact ϙ$ b _ (by rw[qa d];simp only[Gb,c])
  |false=>
   simp only[Gb,c]at h;have e:List.lookup x ((if (k == db && env.scope.kind == ϥ && env.kindOf n == BD Bc)=A3 then (n,Bc)else (n,k))::(r.map λ(n,k)=>if (k == db && env.scope.kind == ϥ && env.kindOf n == BD Bc)then (n,Bc)else (n,k))) =
     (r.map λ(n,k)=>if (k == db && env.scope.kind == ϥ && env.kindOf n == BD Bc)then (n,Bc)else (n,k)).lookup x:=by
    by_cases d:(k == db && env.scope.kind == ϥ && env.kindOf n == BD Bc)=A3
    ·rw[ia d];simp only[Gb,c]
    ·rw[qa d];simp[Gb,c]
   rcases f h with q|q
   ·exact ϖ$ b _$ e.trans q
   ·exact ϙ$ b _$ e.trans q
def jw{a:List$ Str × Ae}(h:a.lookup x=BD k):(x,k)∈a:=ee h
noncomputable def Ro(X:Cx)(b:ac)(a:Scope)(cl:List$ Str × Addr)(C:Addr)(s₀:Shared)(H₀:Hp)(ex:ad):Cx:=
 { X with N:=b,s₀:=s₀,H₀:=H₀,env:=compEnvC a cl C X.env,outer:=X.stack,stack:=X.stack,ex:=ex,fn:=λc=>Ŷ,pn:=[],xe:=λc c=>False }
structure yk(X:Cx)(x:Str)(M':ac)(ix:dN)(scope:Scope):Prop where
 kind:scope.kind=ϥ
 cell:(scope.names.all λy=>!(y.2 == Bc))=A3
 names:(scope.names.all λy=>!(y.2 == .local) || scope.names.lookup y.1 == BD .local)=A3
 free:(scope.names.all λy=>!(y.2 == db) || (X.env.scope.names.lookup y.1 == BD Bc || X.env.scope.names.lookup y.1 == BD db))=A3
 at_:ix.map (λi=>X.N[i]?)=M'.map BD
 pZ:(M'.all λy=>(X.env.scope.names.lookup y == BD Bc || X.env.scope.names.lookup y == BD db) && scope.names.lookup y == BD db)=A3
noncomputable def DT(a:dN)(b:Ev):Ev:=L6::a.map λi=>(b[i]?).getD L6
noncomputable def aY(a:dN)(st:St):St:=L6::a.map λi=>(st[i]?).getD L6
def sS{st} a(h:sh T c H ρ st):sh T c H (DT a ρ)$ aY a st:=by
 refine⟨by simp[DT,aY],λi d e=>?_⟩;cases i with
 |zero=>cases e
 |succ j=>
  have k:(a.map λi=>(ρ[i]?).getD L6)[j]?=BD _:=e;cases l:a[j]? with
  |none=>simp_all
  |some b=>
   have f:ρ[b]?=BD (BD d):=by
    cases q:ρ[b]? with
    |none=>simp_all
    |some o=>simp_all
   obtain⟨v,m,g⟩:=h.2 b d f;refine⟨v,?_,g⟩;show (a.map λi=>(st[i]?).getD L6)[j]?=_
   simp_all
section
variable{pins:List$ Addr × Obj}{st:St}{H:Hp}{s:Shared}{x:Str}{M':ac}{ix:dN}{scope:Scope}{fp:ad}
def m7(L:yk X x M' ix scope) y(a:y∈scope.names)(e:y.2=db):X.env.kindOf y.1=BD Bc\/X.env.kindOf y.1=BD db:=by
 have q:=qb.mp L.free y a;rw[e]at q;simp only[W0,Bool.not_true,JB,vg]at q;rcases q with q|q
 ·exact ϖ$ eq_of_beq q
 ·exact ϙ$ eq_of_beq q
def GA(I:Ta X pins st H s)(L:yk X x M' ix scope):∀ y∈scope.names,y.2=db->∃ c,X.env.cells.lookup y.1=BD c:=λy a e=>I.ok.has y.1$ m7 L y a e
def aG(L:yk X x M' ix scope):∀ y∈scope.names,y.2≠ Bc:=λy a e=>by
 have q:=qb.mp L.cell y a
 simp_all
end
noncomputable def Qt{a:Type}(m:M a):M a:=λb=>match m b with
 | .ex _ _=>ϗ
 |o=>o
def Kb.Pu{E E0}{R:ad->Hp->j->u->Prop}{p}{m}{k:j->M t}{Q:v->Hp->Prop}{o}
  (h:Kb T E p l H (Lc (Qt m) k i) Q) (f:∀ a b c g d,m i=Y a b->pd l H c d->Xc T c d b->R c d a g->Kb T E p c d (k a b) Q->o g d):Kb T E0 R l H (m i) o:=by
 unfold Lc Qt at h;cases e:m i with
 |ok a b=>
  simp[e]at h;exact λn g w s r q=>f a b n g w e s r q$ h.mono s
 |ex x b=>simp[e]at h;exact h.elim
 |pb=>simp[e]at h;exact h
def gy(T:Tb)(X:Cx)(b:List Ja)(f:Ev->M Bool):Prop:=
 ∀ a s st H Q,Ta X a st H s->tT T X f st H Q->
  wpAny (model X.prog X.w) X.A (forIn b A3 λc r=>if r=A3 then do let ok <-QB c X.env (Cb c X.env);pure (ForInStep.yield ok)else pure (ForInStep.yield r)) (TP X a st Q) X.xe s
noncomputable def am:Ev->M Bool:=λa=>ret A3
def zua:gy T X [] am:=by
 rintro a s e H Q I ⟨f,g,h,d,c,b⟩;exact wpAny_tests_nil ⟨H,I,Kb.here b c rfl⟩
def ć(h:FT T X c f):gy T X [c] f:=λa s d H Q I b=>wpAny_tests_one$ h a s d H Q I b
def E5(u:Un i ex H g h j)(d:md C j k)(l:h.objs.size<=C):Un i ex H g h k:=by
 have f:∀ b o,h.get? b=BD o->b≠C:=λb o e=>va$ Ga (ua e) l;refine⟨λb o e n c a=>(d.2 b$ f b o e).trans$ u.keep b o e n c a,λb o e n c a=>?_,u.free,λb o e a=>?_,u.cm,u.uj,u.vl⟩
 ·obtain⟨p,q⟩:=u.slot b o e n c a;exact⟨p,(d.2 b$ f b o e).trans q⟩
 ·obtain⟨m,q⟩:=u.there b o e a;exact⟨m,(d.2 b$ f b o e).trans q⟩
def F3(ok:Xh P w H a)(f:md C a d)(h:H C=L6):Xh P w H d:=λb g e=>by
 refine(ok b g e).Dk (λc j i q=>(f.2 c ?_).trans q) (λk q=>q) λk k q=>q;rintro rfl
 simp_all
def zr7(r:Xc T b H c)(d:b[n]?=BD a)(e:Ka T b H y v)(h:Kb T E (Ka T) b H (lj (U n) [y] c) Q):ZP (ϕ a) [v] H Q:=
 jN E b H c _ [y] (ϕ a) [v] Q r (by rw[Ka];exact⟨a,rfl,d⟩) (Za.cons e Za.nil) h
def cJ{m m'}{k:b->M c}(h:m a=m' a):Lc m k a=Lc m' k a:=by unfold Lc;rw[h]
theorem xL{m:M b}{k}{l:c->M d}:Lc (Lc m k) l=Lc m λa=>Lc (k a) l:=by
 funext e;unfold Lc;cases m e<;>rfl
def jA(x y:D):M D:=λa=>match Bf a x,Bf a y with
 |some xs,BD b=>if xs.length+b.length<=Yf then Y (ώ$ xs++b) a else ϗ
 |_,_=>ϗ
def lh(x y:D):M D:=match x,y with
 | Z i,Z j=>ret (Z$ i+j)
 | Ϗ xs,Ϗ c=>if xs.length+c.length<=Yf then ret (Ϗ$ xs++c)else pb
 | ϐ a,ϐ b=>if a.length+b.length<=100000 then ret (ϐ$ a++b)else pb
 |x,y=>jA x y
def ķ(h:n<=100000):n<=sizeLine:=ub h ⋯
section
variable{a b c:Ja}{fa fb fc:Ev->M D}{pos:Td}
def zk2{c}{t b}{ws:b'}(r:IsTup s.heap t (#[]:Array Value))(p:IsTup s.heap b ws.toArray)(o:Q (xb b) s):wpAny (model c w) A (je .Add (xb t)$ xb b) Q F s:=by
 obtain⟨⟨l,m,j,v⟩,k,q,n,hd⟩:=id r;obtain⟨⟨i,e,d,h⟩,a,f,u,g⟩:=id p;subst q hd f g;exact Lv ⟨_,k,rfl⟩ ⟨_,a,rfl⟩ Jo At Nh vh (gh _ _)
  (tuple_addW0 t b #[] ws.toArray n u m e v h rfl) ⟨k,a,o⟩
def gY{b}{st}(I:Ta X b st H s)(B:gd v h)(z:gd u g)(r:Xc T d H σ)(o:Ka T d H x v)(t:Ka T d H y u)(a:Kb T E (Ka T) d H (jA x y σ) Q) :
  wpAny (model X.prog X.w) X.A (je .Add h g) (EP X b st Q) X.xe s:=by
 unfold jA at a;cases c:Bf σ x with
 |none=>rw[c]at a;exact a.elim
 |some xs=>
  cases e:Bf σ y with
  |none=>rw[c,e]at a;exact a.elim
  |some F=>
   rw[c,e]at a;dsimp only at a;by_cases f:xs.length+F.length<=Yf
   ·rw[ia f]at a;obtain⟨p,C,rfl,k,i⟩:=r.ls o c;obtain⟨q,ws,rfl,m,j⟩:=r.ls t e;exact nV b s st H _ _ h g Q I B z ⟨p,q,C,ws,rfl,rfl,k,m,by rw[<-i.length,<-j.length];exact cz f,λl n=>jE a r (Za.append i j) n⟩
   ·rw[qa f]at a;exact a.elim
def bJ(R:T.K=X.K):Ch X (je .Add)$ rD T lh:=by
 rintro d s st H v u z w Q I m k ⟨E,V,σ,x,y,r,g,h,c⟩;cases x with
 |int i=>
  cases y with
  |int j=>exact í d s st H v u z w Q I m k ⟨i,j,bn g,bn h,Kb.here c r (by rw[Ka])⟩
  |_=>trivial
 |str a=>
  cases y with
  |str b=>
   unfold lh at c;dsimp only at c;by_cases f:a.length+b.length<=100000
   ·rw[ia f]at c;exact į d s st H v u z w Q I m k ⟨a,b,by simpa [Ka]using g,by simpa [Ka]using h,ķ f,Kb.here c r (by rw[Ka])⟩
   ·rw[qa f]at c;exact c.elim
  |_=>exact gY I m k r g h c
 |Ha xs=>
  cases y with
  |Ha D=>
   unfold lh at c;dsimp only at c;by_cases f:xs.length+D.length<=Yf
   ·rw[ia f]at c;have G:=g;have ύ:=h;obtain⟨p,P,rfl,A,o⟩:=g;obtain⟨q,ws,rfl,B,t⟩:=h;cases P with
    |nil=>
     have n:xs=[]:=by have:=o.length;simpa using this
     subst n;cases m;cases k;obtain⟨L,M,N,_⟩:=L2.Ta.tuple I (Jg.of A);obtain⟨C,S,O,_⟩:=L2.Ta.tuple I (Jg.of B);cases M;exact zk2 N O ⟨ϕ q,H,I,rfl,Kb.here c r ⋯⟩
    |cons v0 ϋ=>
     refine zyg d s st H _ _ z w Q I m k ⟨p,q,_,ws,rfl,rfl,Jg.of A,Jg.of B,by simp,?_,λe=>?_,λe l F=>?_⟩
     ·rw[<-o.length,<-t.length];exact cz f
     ·subst e;have n:D=[]:=by have:=t.length;simpa using this
      subst n;exact Kb.here c r ⋯
     ·exact DD c r (Za.append o t) F
   ·rw[qa f]at c;exact c.elim
  |_=>trivial
 |_=>exact gY I m k r g h c
noncomputable def YL(a:D->D->M D)(c:M D)(y:D):D->M D:=jz$ Ij (Lc c$ a y)$ ret$ ϒ Ŷ
def jL(o a:D->D->M D)(c:M D)(x y:D):M D:=Lc (o x y)$ YL a c y
def cN(o a:D->D->M D)(b c:M D)(x:D):M D:=Lc b$ jL o a c x
def SZ(o e:D->D->M D)(a b c:Ev->M D):Ev->M D:=λd=>Lc (a d)$ cN o e (b d)$ c d
def rT{r K}(ό:Ch X (Eb j) r)(hs:zk T r o)(g:Ch X (Eb d) K)(i:zk T K G)(S:FE T X a fa)(ϋ:FE T X b fb)(V:FE T X c fc)
  (W:lastMarks [j,d] [b,c]=Ŷ:=by with_unfolding_all rfl):FE T X (.Compare a [j,d] [b,c] pos)$ SZ o G fa fb fc:=by
 intro e s st H Q I h;refine N5 ό g S ϋ V W e s st H Q I ?_;obtain⟨μ,q,σ,f,hr,ϊ⟩:=h;refine⟨μ,q,σ,f,hr,ϊ.bind λx t l v H1 D C r1 q1 p1=>⟨l,q,t,f.mono C,r1,p1.bind λy σ2 m w N D E r2 ύ p2=>(hs _ m N σ2 x y v w _ r2 (Ka.mono E _ _ q1) ύ$ p2.bind λz A n u H3 D F L q3 p3=>?_)⟩⟩;obtain⟨k,rfl,R,p4⟩:=KI q3 p3;refine⟨k,R,?_⟩;cases k with
 |true=>
  exact⟨n,q,A,((f.mono C).mono E).mono F,L,p4.bind λz B p u5 O D P r5 q5 p5=>i _ p O B y z w u5 Q r5 (Ka.mono P _ _$ Ka.mono F _ _ ύ) q5 p5⟩
 |false=>unfold Ij at p4;rw[qa Ya]at p4 ⊢;exact Kb.here p4 L (by rw[Ka])
def Fm(a:yd k A):A.units+9<cLine:=by have:=a.un;lia
end
def Mr(K:ϔ)(d:Str->Option Value)(x:Str)(e:Stmt)(c:ac):Prop:=
 ∃ f b,d x=BD (xb f)/\mJ K x x e f b/\∀ a:b',a.length=c.length->bindArgs b ⟨a,[]⟩=pure (c.zip a)
def Ci(T:Tb)(P:xa)(w:Ma)(d:Str->Option Value)(a:Heap)(k:Nat)(x:Str)(ps:ac)(e:g'->M D):Prop:=
 ∃ f c,d x=BD (xb f)/\Ϻ T.K (xb f)=A3/\(∀ b:b',b.length=ps.length->bindArgs c ⟨b,[]⟩=pure (ps.zip b))/\qh P w T.K d a (wl P w) k f c ps (Co T ps.length e)
section
def Wr(h:Ci T X.prog X.w X.mg X.base k x ps g)(m:T.K=X.K)(t:yd k X.A)(r:Gl X x)
  (n:FA T X (e::a) i) (c:(x == ("__debug__" : Str))=Ŷ:=by decide) (q:ka (e::a) X.env=(Ŷ,Cb e X.env)::ka a X.env:=by rfl) (d:(Ub b$ ka a X.env).any (·.1)=Ŷ:=by rfl) :
  FE T X (ϟ (ϛ x p) (e::a) [] b)$ Ye ps.length g [] i:=by
 obtain⟨f,u,s,l,o,j⟩:=h;rw[m]at l j;exact fL j t r s l (.all o) Ϥ (λv v=>Za.nil) n c q d
variable{P:xa}{w:Ma}{K:ϔ}{mg:Str->Option Value}{base:Heap}{ca:Nat->Addr}{tx:Tx}
def xB{st}(h:Mr K mg x st ps)(S:rc N ps$ sf st)
  (i:∀ f a A b s H E,yd k (A.deeper$ eg x (sf st) s.heap.objs.size f a)->rl ⟨K,ca,tx⟩ (Up (wl P w) P w K mg base N x (sf st) f a A b s H E) (ck st) g) :
  Ci ⟨K,ca,tx⟩ P w mg base (k+1) x ps$ dh N.length g:=by
 obtain⟨f,n,j,F,c⟩:=h;obtain⟨o,p,kV,e,q,m,a,ct,l,rfl,lk,d⟩:=F.ex;exact⟨f,_,j,F.kp,c,nD lk d S$ i f a⟩
def Ci.Oc{k}{x}{ps}{a}(h:Ci T P w mg base k x ps a):Ci T P w mg base k x ps (λb=>L4.Oc$ a b):=by
 obtain⟨f,c,d,e,g,i⟩:=h;exact⟨f,c,d,e,g,XO i⟩
def KL{st}{kV d g b ct}(X:K.In h)(G:h.Ns mainGlobals mg)
  (m:∀ kV d g e b ct j,j.length=ps.length->bindArgs (Ϯ x x (Tl st) (ck st) (sf st) Yb kV d g e b ct) ⟨j,[]⟩=pure (ps.zip j))
  (a:W.nsIn K mainGlobals x=BD (BD$ xb f)) (l:K.lookup f=BD ⟨n,o,.func$ Ϯ x x (Tl st) (ck st) (sf st) Yb kV d g e b ct,i⟩)
  (c:W.codeIn K b x=A3) (k:Ϻ K (xb f)=A3):Mr K mg x st ps:=
 ⟨f,_,W.mg_of X G a,MZ l c k,m kV d g e b ct⟩
def mkI(X:K.In h)(G:h.Ns mainGlobals mg)(a:W.nsIn K mainGlobals x=BD (BD$ Qh i t)):∃ t,mg x=BD (Qh i t):=⟨t,W.mg_of X G a⟩
end
def fN(T:Tb)(P:xa)(w:Ma)(d:Str->Option Value)(k:Nat)(x:Str)(ps:ac)(e:g'->M D):Prop:=
 ∃ f c,d x=BD (xb f)/\(∀ b:b',b.length=ps.length->bindArgs c ⟨b,[]⟩=pure (ps.zip b))/\∀ a:Heap,qh P w T.K d a (wl P w) k f c ps (Co T ps.length e)
def Ě{K}{st}(h:Mr K i x st ps)(S:rc N ps$ sf st)
  (m:∀ a f b A c s H E,yd k (A.deeper$ eg x (sf st) s.heap.objs.size f b)->rl ⟨K,j,tx⟩ (Up (wl P w) P w K i a N x (sf st) f b A c s H E) (ck st) g) :
  fN ⟨K,j,tx⟩ P w i (k+1) x ps$ dh N.length g:=by
 obtain⟨f,q,n,F,d⟩:=h;obtain⟨r,t,kV,l,u,p,b,ct,o,rfl,lk,e⟩:=F.ex;exact⟨f,_,n,d,λa=>nD lk e S$ m a f b⟩
set_option tactic.hygienic true in
def T6{K:ϔ}(k:K.In h)(j:W.excIn K C c a=A3) :
  ∃ f N w x n i y e m d o r k1 s t u A,h.get? C=BD (excClassObj w x C N n f i y e m d o r k1 s t u a)/\h.Ns N A/\A "__init__" = L6/\OwnTail h c f:=by
 unfold W.excIn at j;split at j
 ·rename_i o b M lk
  split at j
  ·rename_i B f r k1 s t v u g p
   have q:((((B=C/\v=a)/\b.hasDel=Ŷ)/\W.tailIn K c f=A3)/\W.nsOkIn K b.ns=A3)/\W.nsIn K b.ns "__init__" = BD L6:=by
    simp_all
   obtain⟨⟨⟨⟨⟨D,E⟩,F⟩,G⟩,z⟩,H⟩:=q;subst D;subst E;obtain⟨w,n,ύ,L,x,hd,y,e,m,d,I⟩:=b;cases g;cases F;obtain⟨l⟩:=M;cases p;exact⟨f,L,w,x,n,hd,y,e,m,d,o,r,k1,s,t,u,_,k _ _ lk,.of_isNs$ W.isNs_of_in k z,W.nsMap_none_of_in k z H,W.tail_of_in k G⟩
  ·cases j
 ·cases j
def GJ(c:Nat)(b:Ev)(a:g'):M Fl:=if a.length<=Yf then ret (.xc b ⟨c⟩)else pb
def OO(c:Nat)(b:Ev->M (g')):Ev->M Fl:=λa=>xs a (b a)$ GJ c a
def M1 c(ύ:ExcBaseFacts B b d j)(hK:T.K=X.K)(ϋ:W.excIn T.K (T.ca c) j b=A3)(hm:X.mg x=BD (xb$ T.ca c))
  (hg:Gl X x) (hc:X.gc=A3) (ha:FA T X (e::i) R) (w:(x == ("__debug__" : Str))=Ŷ:=by decide) (S:ka (e::i) X.env=(Ŷ,Cb e X.env)::ka i X.env:=by rfl)
  (A:(Ub a$ ka i X.env).any (·.1)=Ŷ:=by rfl) (y:DG c=L6:=by rfl):FS T X (.Raise (BD$ ϟ (ϛ x np) (e::i) [] a) L6 C)$ OO c R:=by
 intro o s E H D I hw;obtain⟨μ,ρ,σ,v,hr,hp⟩:=hw;rw[hK]at ϋ;obtain⟨O,N,nm,qn,P,f,sn,p,L,k,Q,V,k1,ό,ϊ,k5,mN,hC,hN,z,tl⟩:=T6 I.ok.mod.Cw ϋ;have m:(Ub a$ ka (e::i) X.env).any (·.1)=Ŷ:=by
  rw[S];show (Ŷ || (Ub a _).any (·.1))=Ŷ;rw[A];rfl
 refine wpAny_Raise_call_subT (nm:=nm) (q:=qn) (N:=N) (bs:=P) (bm:=O) (hdct:=f) (sn:=sn) (sub:=p) (ab:=L) (col:=k) (dd:=Q) (k0:=V) (k1:=k1) (k2:=ό) (k3:=ϊ) (k5:=k5) ύ (tl.hasType ύ.hasBase) (I.ok.hd hc) m z$ pB I hg hm ⟨rfl,?_⟩ w;have h:=ha a o s E H (λG u=>G.length<=Yf/\aC X E _ L6 u) I ⟨μ,ρ,σ,v,hr,hp.xs v λds a1 a0 G u J e1 r1 q1 n=>by
  unfold GJ at n;by_cases l:ds.length<=Yf
  ·rw[ia l]at n;exact⟨by rw[<-q1.length];exact l,Kb.here (g:=Jp.xc E _ L6) n r1 ⟨v.mono e1,rfl,y.symm⟩⟩
  ·rw[qa l]at n;exact n.elim⟩
 rw[S]at h ⊢;exact ej (ud h λus s1 ⟨G,u,t,r,l,F⟩=>⟨rfl,by rw[<-r.length];exact cz l,t.bk _ _ hC,hN.keeps t.bk,tl.keeps t.bk,λh' ea hx=>F.made t hx⟩)
structure Hd where
 t:Nat->Option Bool
 nm:Option Nat
 g:Ev->M Fl
noncomputable def ς(i:Nat):Fl->M Fl
 | Ϙ a=>ret (Ϙ$ a.set i L6)
 | .rt d=>ret (.rt d)
 | .bk a=>ret (.bk$ a.set i L6)
 | .ct a=>ret (.ct$ a.set i L6)
 | .xc _ _=>pb
noncomputable def dJ:Fl->M Fl
 | Ϙ a=>ret (Ϙ a)
 | .rt d=>ret (.rt d)
 | .bk a=>ret (.bk a)
 | .ct a=>ret (.ct a)
 | .xc _ _=>pb
def hit(h:Hd)(a:Ev)(x:Xn):M Fl:=match h.nm with
 |none=>Lc (h.g a) dJ
 |some i=>Lc (h.g$ a.set i$ BD$ .pw x.cls) (ς i)
def Vy(a:Ev)(x:Xn):List Hd->M Fl
 |[]=>pb
 |h::r=>match h.t x.cls with
  |some A3=>hit h a x
  |some Ŷ=>Vy a x r
  |none=>pb
def UJ(b:List Hd):Fl->M Fl
 | .xc a x=>Vy a x b
 | Ϙ a=>ret (Ϙ a)
 | .rt d=>ret (.rt d)
 | .bk a=>ret (.bk a)
 | .ct a=>ret (.ct a)
def NH(g:Ev->M Fl)(a:List Hd):Ev->M Fl:=λb=>Lc (g b)$ UJ a
noncomputable abbrev Cx.nF(X:Cx)(e:Value):Cx:={ X with A:=X.A.mark (BD e),gc:=Ŷ,xe:=λa a=>False }
noncomputable abbrev Cx.AI(X:Cx)(a:List$ Addr × Obj)(xe:Value->Shared->Prop):Cx:={ X with xe:=xe,pn:=X.pn++a }
section
variable{pins:List$ Addr × Obj}{st:St}{H:Hp}{s:Shared}{e:Value}{xe:Value->Shared->Prop}
def L5(I:Ta X pins st H s):Ta (Cx.AI X pins xe) [] st H s:=
 ⟨⟨I.ok.mod,I.ok.kind,I.ok.glob,I.ok.blt,I.ok.above,I.ok.inj,I.ok.has,I.ok.ZB,I.ok.hd,I.ok.frames,I.ok.Pp,I.ok.NF,I.ok.bs,I.ok.Wu,I.ok.Us,I.ok.Ss,I.ok.Ak,I.ok.Ny⟩,I.os,I.bare,I.base,I.loc,I.cell,I.free,I.Dg,λp a=>I.pin p ⋯,I.lc,I.len⟩
def iE(I:Ta (Cx.AI X pins xe) b st H s):Ta X pins st H s:=
 ⟨⟨I.ok.mod,I.ok.kind,I.ok.glob,I.ok.blt,I.ok.above,I.ok.inj,I.ok.has,I.ok.ZB,I.ok.hd,I.ok.frames,I.ok.Pp,I.ok.NF,I.ok.bs,I.ok.Wu,I.ok.Us,I.ok.Ss,I.ok.Ak,I.ok.Ny⟩,I.os,I.bare,I.base,I.loc,I.cell,I.free,I.Dg,λp a=>I.pin p$ Pa _ a,I.lc,I.len⟩
def tO(I:Ta X pins st H s):Ta (Cx.nF X e) pins st H s:=
 ⟨⟨I.ok.mod,I.ok.kind,I.ok.glob,I.ok.blt,I.ok.above,I.ok.inj,I.ok.has,I.ok.ZB,λz=>(by cases z),I.ok.frames,I.ok.Pp,I.ok.NF,I.ok.bs,I.ok.Wu,I.ok.Us,I.ok.Ss,I.ok.Ak,I.ok.Ny⟩,I.os,I.bare,I.base,I.loc,I.cell,I.free,I.Dg,I.pin,I.lc,I.len⟩
def iJ(ok:X.Ok)(I:Ta (Cx.nF X e) pins st H s):Ta X pins st H s:=
 ⟨ok,I.os,I.bare,I.base,I.loc,I.cell,I.free,I.Dg,I.pin,I.lc,I.len⟩
def yaz{D}(h:SP (Cx.AI X pins xe) [] D f c):SP X pins D f c:=by
 cases f with
 |next=>obtain⟨a,b,I,q⟩:=h;exact⟨a,b,iE I,q⟩
 |brk=>obtain⟨a,b,I,q⟩:=h;exact⟨a,b,iE I,q⟩
 |cont=>obtain⟨a,b,I,q⟩:=h;exact⟨a,b,iE I,q⟩
 |ret u=>obtain⟨v,a,b,I,r,q⟩:=h;exact⟨v,a,b,iE I,r,q⟩
def Ξ(ok:X.Ok){D}(h:SP (Cx.nF X e) pins D f c):SP X pins D f c:=by
 cases f with
 |next=>obtain⟨a,b,I,q⟩:=h;exact⟨a,b,iJ ok I,q⟩
 |brk=>obtain⟨a,b,I,q⟩:=h;exact⟨a,b,iJ ok I,q⟩
 |cont=>obtain⟨a,b,I,q⟩:=h;exact⟨a,b,iJ ok I,q⟩
 |ret u=>obtain⟨v,a,b,I,r,q⟩:=h;exact⟨v,a,b,iJ ok I,r,q⟩
end
def Yt(X:Cx)(a:List$ Addr × Obj)(f:St)(H:Hp)(s:Shared)(d:Addr)(b:Value)(e:Option Nat):Prop:=∃ c s0,Ta X a f c s0/\gB X.prog X.w X.stack c s0 b e H (xb d) s
section
variable{pins:List$ Addr × Obj}{st:St}{H:Hp}{s:Shared}{ea:Addr}{cls:Value}{fd:Option Nat}
def Yt.inv(L:Yt X pins st H s ea cls fd):Ta X pins st H s:=by
 obtain⟨a,s0,I,F⟩:=L;exact L2.Ta.mv I F.os F.un F.lc F.bare λb z=>absurd z ⋯
set_option tactic.hygienic true in
def Yt.next(L:Yt X pins st H s ea cls fd){M}(h:∀ l,Yt X pins st H l ea cls fd->Q () l):wpAny M A (Po (xb ea) L6) Q E s:=by
 obtain⟨m,s0,I,F⟩:=L;obtain⟨n,a0,B,e,g,q,b,k,j,i,p⟩:=F.ex;cases e;refine zL g λt a f c=>h _ ?_;obtain⟨r,d⟩:=RJ F j k i g.1 a.1 f (QI I);exact⟨m,s0,I,⟨ea,a0,B,rfl,a,q,b,k,j,i,p.next c (let ⟨o,e,_⟩:=a.there;⟨o,e⟩)⟩,F.os,F.bare,r,d⟩
def Yt.obj(L:Yt X pins st H s ea cls fd):H ea=L6/\(∃ o,s.heap.get? ea=BD o/\o.cls=cls)/\∃ s0:Shared,s0.heap.get? ea=L6/\∃ b,Ta X pins st b s0:=by
 obtain⟨b,s0,I,F⟩:=L;obtain⟨c,a0,B,e,d,f,a,j,h,g,i⟩:=F.ex;cases e;exact⟨f,d.there,s0,a,b,I⟩
set_option tactic.hygienic true in
def zwc(I:Ta X pins st H s)(l:X.stack=X.env::X.outer)(z:X.env.frame=BD X.env.locals)(F:gB X.prog X.w X.stack H s cls fd q e m){M}{Q:Value->Shared->Prop}
  (h:∀ ea d,e=xb ea->Yt X pins st q d ea cls fd->Q e d):wpAny M X.A (Hh e X.env) (λ_ s2=>wpAny M X.A (Po e L6) (λ_ D=>Q e D) E s2) E m:=by
 obtain⟨ea,a0,B,rfl,r,C,c,v,u,t,y⟩:=F.ex;have i:Wo B (X.env::X.outer) ea cls a0 m.heap:=by rw[<-l];exact r
 refine YT (by rw[<-l];exact I.ok.frames) z i λύ b n f=>(zL (aT b) λx j p g=>h ea _ rfl ?_)
 have a:Wo B X.stack ea cls a0 x:=by rw[l];exact j
 obtain⟨G,k⟩:=RJ F u v t r.1 a.1 (n.trans p) (QI I);exact⟨H,s,I,⟨ea,a0,B,rfl,a,C,c,v,u,t,y.next (f.trans g) (let ⟨o,e,_⟩:=a.there;⟨o,e⟩)⟩,F.os,F.bare,G,k⟩
end
def Wo.keep(x:Wo B l e a a0 h)(k:∀ b o,h.get? b=BD o->i.get? b=BD o):Wo B l e a a0 i:=by
 obtain⟨j,m,n,p⟩:=x;refine⟨λb o q=>k b o$ j b o q,m,n.of_keeps λb o q C=>⟨o,k b o q,rfl⟩,?_⟩;rcases p with⟨r,g,ws,T,y,z,d,v,hd,s,w,f,u,c,t⟩|⟨g,A,d,q⟩
 ·exact ϖ ⟨r,g,ws,T,y,z,k _ _ d,v,hd,s,w,f,k _ _ u,c,t⟩
 ·exact ϙ ⟨g,A,k _ _ d,q⟩
def Yt.keep{st}(L:Yt X a st H s g c i)(k:∀ b o,s.heap.get? b=BD o->h'.get? b=BD o):Yt X a st H { s with heap:=h' } g c i:=by
 obtain⟨r,s0,I,F⟩:=L;obtain⟨u,a0,B,e,j,w,f,p,m,l,v⟩:=F.ex;cases e;have d:=j.keep k;obtain⟨C,h⟩:=RJ F m p l j.1 d.1 (VD k) (QI I);exact⟨r,s0,I,⟨g,a0,B,rfl,d,w,f,p,m,l,λn q=>let ⟨t,x,y,z,A⟩:=v n q;⟨t,x,y,k _ _ z,A⟩⟩,F.os,F.bare,C,h⟩
def nN(X:Cx)(x:Str)(a:Value):Prop:=X.mg x=BD a\/(X.mg x=L6/\bootBuiltins x=BD a/\x ≠ "__name__")
inductive pG(T:Tb)(X:Cx):List Lg->List Hd->Prop where
 |nil {r:List Lg}:pG T X r []
 |Jy {x y:Str} {np nq tp pos:Td} {k:Nat} {cv cw:Value} {b₀:Stmt} {suite:List Stmt} {t:Nat->Option Bool} {g:Ev->M Fl} {r:List Lg} {hs:List Hd} (hg:Gl X x) (hd:(x == ("__debug__" : Str))=Ŷ) (hm:nN X x cv) (hg':Gl X y) (hd':(y == ("__debug__" : Str))=Ŷ) (hm':nN X y cw) (ht:∀ c b,t c=BD b->W.exmAny X.K (xb (T.ca c)) [cv,cw]=BD b)
   (hb:∀ e,rl T (Cx.nF X e) (b₀::suite) g) (hr:pG T X r hs):pG T X (.ExceptHandler (BD (ϰ [ϛ x np,ϛ y nq] k tp)) L6 (b₀::suite) pos::r) (⟨t,L6,g⟩::hs)
def RU{st}(I:Ta X b st H s)(e:Gl X x)(hd:(x == ("__debug__" : Str))=Ŷ)(a:nN X x d)(h:Q d s):wpAny (model X.prog X.w) X.A (Cb (ϛ x c) X.env) Q E s:=by
 rcases a with a|⟨a,g,f⟩
 ·exact pB I e a h hd
 ·exact Cy I e a g h f hd
def B4{D}(b:Kb T EN (zq T) j H (o.bind dJ)$ dr X D):Kb T EN (zq T) j H o$ dr (Cx.nF X e) D:=by
 cases o with
 |pb=>exact b
 |ex x σ=>exact b
 |ok k σ=>
  intro a g d f h c;cases k with
  |nx i=>cases g with
   |nx st=>exact b a _ d f h c
   |_=>exact c.elim
  |rt i=>cases g with
   |rt st=>exact b a _ d f h c
   |_=>exact c.elim
  |bk i=>cases g with
   |bk st=>exact b a _ d f h c
   |_=>trivial
  |ct i=>cases g with
   |ct st=>exact b a _ d f h c
   |_=>trivial
  |xc i x=>trivial
set_option tactic.hygienic true in
def Ü{D}(h:pG T X d v)(O:sh T j H E B)(ϋ:Xc T j H F)(c:Kb T EN (zq T) j H (Vy E x v F)$ dr X D) :
  ∀ s,Yt X a B H s e (T.cv x) (DG x.cls)->wpAny (model X.prog X.w) X.A (handleBy (xb e) X.env d) (SP X a D) X.xe s:=by
 induction h with
 |nil=>exact c.elim
 |@Jy y z np nq tp pos k M N G C t g r v R hd hm n m p V P u ό=>
  intro s L;apply b_;intro z_;have I:=L.inv;obtain⟨_,⟨o,S,Q⟩,_⟩:=L.obj;apply z_;refine wpAny_handleBy_cons (codeAny_handlers_test$ wpAny_Tuple$ JG$ RU (tO I) R hd hm$ JG$ RU (tO I) n m p$ wpAny_items_nil ⟨by size_fits,?_⟩) (by intro q;cases q);unfold Vy at c;dsimp only at c;have i:∀ q o,s.heap.get? q=BD o->(s.heap.push { cls:=ki "tuple",data:=Ϩ [M,N].toArray }).get? q=BD o:=λ_ _ z=>da _ z;cases l:t x.cls with
  |none=>rw[l]at c;exact c.elim
  |some b=>
   rw[l]at c;have K:W.Looks (model X.prog X.w) s.heap (Wv$ xb e)$ T.cv x:=by rw[<-Q];exact(W.Looks.ld S).andThen .now
   refine(W.exm_tup2 (I.Ri.keeps i) (K.keeps i) (za s.heap rfl)$ V x.cls b l).here ?_;cases b with
   |false=>exact ό c _$ L.keep i
   |true=>
    refine codeAny_handlers_suite ((L.keep i).next λϊ ύ=>?_);exact dc (P (xb e) a ϊ B H D (tO ύ.inv) ⟨j,E,F,O,ϋ,B4 c⟩) (λf s2 q=>Ξ I.ok q) λ_ _ z=>z.elim
def vU(y:X.stack=X.env::X.outer)(W:X.env.frame=BD X.env.locals)
  (V:∀ b K,ij (model X.prog X.w) X.A X.env K->rl T (Cx.AI X b K) d g) (ό:pG T X (h::k) ύ):FS T X (.Try d (h::k) [] [] B)$ NH g ύ:=by
 rintro b s n H D I ⟨N,ρ,E,ϋ,hr,ϊ⟩;refine wpAny_Try_except (dc (V b _ zaD [] s n H D (L5 I)
  ⟨N,ρ,E,ϋ,hr,?_⟩) (λf s1 q=>?_) λJ J z=>z)
 ·have a:Kb T EN _ N H ((g ρ E).bind _) _:=ϊ;cases t:g ρ E with
  |pb=>rw[t]at a;exact a
  |ex x G=>rw[t]at a;exact a
  |ok S G=>
   rw[t]at a;intro c j p P m i;have l:=a.mono P;cases S with
   |nx ρ=>cases j with
    |nx n=>exact l c _ p (ϭ _ _) m i
    |_=>exact i.elim
   |rt ρ=>cases j with
    |rt n=>exact l c _ p (ϭ _ _) m i
    |_=>exact i.elim
   |bk ρ=>cases j with
    |bk n=>exact l c _ p (ϭ _ _) m i
    |_=>trivial
   |ct ρ=>cases j with
    |ct n=>exact l c _ p (ϭ _ _) m i
    |_=>trivial
   |xc a1 x=>cases j with
    |xc a0 cls fd=>
     obtain⟨v,rfl,rfl⟩:=i;exact⟨λp0 H0 s0 e s' O F=>(zwc (iE O) y W F (Q:=λe o=>wpAny _ X.A _ _ X.xe o) λea C R L=>by subst R;exact Ü ό v m l C L)⟩
    |_=>trivial
 ·have r:=yaz q;cases f with
  |next=>exact fh r
  |brk=>exact r
  |cont=>exact r
  |ret u=>exact r
set_option tactic.hygienic true in
def ĕ(h:FS T X q$ Ce i f):FS T X q$ Ce i$ cj f:=by
 rintro o s st H D I ⟨r,ρ,σ,C,t,O⟩;refine h o s st H D I ⟨r,ρ,σ,C,t,?_⟩;have a:Kb T EN _ r H (xs ρ (Oc _) _ σ) _:=O;show Kb T EN _ r H (xs ρ _ _ σ) _;unfold xs Oc at a;unfold xs;cases e:f ρ σ with
 |pb=>rw[e]at a;exact a
 |ex x c=>
  rw[e]at a;unfold lg at a;dsimp only at a ⊢;by_cases g:c.take σ.length=σ
  ·rw[ia g]at a;intro ύ A w l u p;cases A with
   |xc F Q N=>
    obtain⟨E,y⟩:=Xc.down t u l g;obtain⟨L,P⟩:=p;refine a r _ w y E ⟨⟨L.1,λj d b=>?_⟩,P⟩;obtain⟨v,m,n⟩:=L.2 j d b;obtain⟨G,_,B⟩:=C.2 j d b;exact⟨v,m,Ka.down l.pre d G v B n⟩
   |_=>exact p.elim
  ·rw[qa g]at a;exact a.elim
 |ok d c=>
  rw[e]at a;unfold lg at a;dsimp only at a ⊢;by_cases g:c.take σ.length=σ
  ·rw[ia g]at a;cases z:fz σ.length c 6 d with
   |none=>rw[z]at a;exact a.elim
   |some d'=>
    rw[z]at a;intro ύ A w l u p;cases A with
    |nx F=>
     obtain⟨E,y⟩:=Xc.down t u l g;have k:=p;refine a r _ w y E ⟨by simpa using k.1,λj x b=>?_⟩;rw[Ef]at b;by_cases K:i=j
     ·subst K;rw[ia rfl]at b;split at b
      ·rename_i R
       cases b;obtain⟨v,m,n⟩:=k.2 i d ⋯;exact⟨v,m,yR l.pre u 6 d d' v (by rw[t.len];exact z) n⟩
      ·cases b
     ·rw[qa K]at b;obtain⟨v,m,n⟩:=k.2 j x ⋯;obtain⟨G,_,B⟩:=C.2 j x b;exact⟨v,m,Ka.down l.pre x G v B n⟩
    |_=>exact p.elim
  ·rw[qa g]at a;exact a.elim
noncomputable def FC:g'->Option (List Bool)
 |[]=>BD []
 | ϒ b::r=>(FC r).map (b::·)
 |_::_=>L6
noncomputable def Ls:g'->Option (dl)
 |[]=>BD []
 | Z b::r=>(Ls r).map (b::·)
 |_::_=>L6
theorem qR{T:Tb}{i:ad}{H:Hp}:∀ {c:g'} {a:gV} {bs:List Bool},Za T i H c a->FC c=BD bs->a=bs.map ϫ
 |[],a,bs,r,h=>by cases h;rw[Za]at r;exact r
 |d::c,a,bs,r,h=>by
  obtain⟨v,w,rfl,e,g⟩:=r;cases d with
  |bl b=>
   obtain⟨cs,f,rfl⟩:=Wa.mp h;rw[Ka]at e;subst e;rw[qR g f];rfl
  |_=>cases h
theorem lF{T:Tb}{i:ad}{H:Hp}:∀ {c:g'} {a:gV} {bs:dl},Za T i H c a->Ls c=BD bs->a=bs.map ϣ
 |[],a,bs,r,h=>by cases h;rw[Za]at r;exact r
 |d::c,a,bs,r,h=>by
  obtain⟨v,w,rfl,e,g⟩:=r;cases d with
  |int b=>
   obtain⟨cs,f,rfl⟩:=Wa.mp h;rw[Ka]at e;subst e;rw[lF g f];rfl
  |_=>cases h
def hG(xs:g'):M D:=λa=>match xs with
 |[x]=>(match (zi a x).bind FC with
  |some bs=>Y (ϒ$ bs.all id) a
  |none=>ϗ)
 |_=>ϗ
def NA(xs:g'):M D:=λa=>match xs with
 |[x]=>(match (zi a x).bind Ls with
  |some bs=>Y (Z bs.sum) a
  |none=>ϗ)
 |_=>ϗ
def MU(K:ϔ)(g:List Bool->Bool):gV->Hp->VK->Prop:=λxs H Q=>∃ p a,xs=[ϕ p]/\(He K H p (a.map ϫ)\/Jg K H p (a.map ϫ))/\Q (ϫ$ g a) H
def JR(K:ϔ):gV->Hp->VK->Prop:=λxs H Q=>∃ (p:Addr) (bs:dl),xs=[ϕ p]/\(He K H p (bs.map ϣ)\/Jg K H p (bs.map ϣ))/\Q (ϣ bs.sum) H
theorem FX:∀ {a:List Bool} {us:b'},de (a.map ϫ) us->us=a.map Wj
 |[],us,h=>by cases h;rfl
 |b::a,us,h=>by
  cases h with
  |cons r t=>cases r;rw[FX t];rfl
theorem UY{c:Type}(g:c->Bool)(d:c):∀ (a:List c),(List.range a.length).all (λi=>g$ a.getD i d)=a.all g
 |[]=>rfl
 |b::a=>by
  rw[Pb,Iq,gf,UD,gf];rw[<-UY g d a];congr 1
def O5(d:List Bool):TruthOf c w A (λi v=>(d.map Wj).toArray[i]?=BD v) (λi=>d.getD i Ŷ):=by
 intro i v s Q E f g;simp only[Yi,Na]at f;cases e:d[i]? with
 |none=>simp_all
 |some b=>
  rw[e]at f;cases f;have a:Q (d.getD i Ŷ) s:=g;rw[ah,e]at a;exact Yc a
def DV{s:Shared}{a:Heap}(k:∀ b u,b ∉ [s.heap.objs.size]->(s.heap.push o).get? b=BD u->a.get? b=BD u):∀ b u,s.heap.get? b=BD u->a.get? b=BD u:=λb u e=>
 k b u (λz=>absurd (ua e) ⋯)$ da _ e
def pW{st}(n:X.A.handled=L6)(I:Ta X d st H s)(g:He X.K H p l\/Jg X.K H p l)
  (h:∀ a It m St s2,de l a->Walks X.prog X.w X.A.in1 It m [It] a.toArray.size (λi v=>a.toArray[i]?=BD v) St->St 0 s2.heap->(∀ b∈m,b<s2.heap.objs.size)->
   (∀ h' tk,(∀ b o,b ∉ [It]->s2.heap.get? b=BD o->h'.get? b=BD o)->Ta X d st H { s2 with heap:=h',toks:=tk })->Q (xb It) s2):wpAny (model X.prog X.w) X.A.in1 (pyIter$ xb p) Q E s:=by
 rcases g with g|g
 ·obtain⟨a,k,pl,q⟩:=I.list g;have c:p<s.heap.objs.size:=by obtain⟨_,e,_⟩:=pl.isList;exact ua e
  refine pi pl.isList$ h a s.heap.objs.size [s.heap.objs.size,p] _ _ k (Vj (A:=X.A.in1) n _ p (va c) a.toArray) ⟨⟨_,za _ rfl,rfl,rfl⟩,pl.isList.push _⟩ (λb f=>?_) (λh' tk j=>I.kept$ DV j);rw[Tc];simp at f;rcases f with rfl|rfl
  ·exact yb _
  ·exact Jb c
 ·obtain⟨a,k,pl,q⟩:=I.tuple g;have c:=pl.lt;refine IB (pl)$ h a s.heap.objs.size [s.heap.objs.size,p] _ _ k (Walks.tuple (A:=X.A.in1) n _ p (va c) a.toArray) ⟨⟨_,za _ rfl,rfl,rfl⟩,lK (pl) _⟩ (λb f=>?_) (λh' tk j=>I.kept$ DV j);rw[Tc];simp at f;rcases f with rfl|rfl
  ·exact yb _
  ·exact Jb c
def zkv(f:X.gc=A3):jm X (Ϟ "all") (MU X.K λa=>a.all id):=by
 rintro b s st H xs n Q I r ⟨p,a,rfl,h,q⟩;obtain⟨u,rfl,rfl⟩:=Nq r;refine call_all_walk (pW (I.ok.hd f) I h λj It l St s2 k W d m e=>?_);have c:=FX k;subst c;refine⟨_,_,_,_,_,_,λi=>a.getD i Ŷ,rfl,W,d,O5 a,λh' tk g=>⟨ϫ _,H,e h' tk g,?_,q⟩⟩;rw[Ea,Ra];exact Ab Wj$ UY id Ŷ a
theorem LW:∀ (a:dl) (n:Nat),n<=a.length->preSum (λi=>a.getD i 0) n=(a.take n).sum
 |a,0,_=>by simp[preSum]
 |a,n+1,h=>by
  rw[preSum,LW a n ⋯,List.take_succ_eq_append_getElem ⋯,List.sum_append];simp[show n<a.length by lia]
def dY(n:X.gc=A3):jm X (Ϟ "sum")$ JR X.K:=by
 rintro g s st H xs A Q I r ⟨p,a,rfl,y,q⟩;obtain⟨u,rfl,rfl⟩:=Nq r;refine call_sum_walkG (pW (I.ok.hd n) I y λd It z St s2 h W k o m=>⟨_,_,_,_,_,_,λi=>a.getD i 0,rfl,W,k,o,λi v f=>?_,λh' tk t' w=>⟨ϣ a.sum,H,m h' tk w,⟨t',?_⟩,q⟩⟩)
 ·simp at f;obtain⟨x,c,l⟩:=dI h f;rw[Na]at c;cases e:a[i]? with
  |none=>simp_all
  |some b=>
   rw[e]at c;cases c;obtain⟨t,rfl⟩:=l
   simp_all
 ·have j:d.toArray.size=a.length:=by rw[Ea,<-h.length,Ra]
  rw[j,LW a _$ pa _,Uf]
def wZ{g:g'->Option c}{a:c}(h:(zi d x).bind g=BD a):∃ b,zi d x=BD b/\g b=BD a:=pf.mp h
def ı(j:T.K=X.K):br T (MU X.K λa=>a.all id) hG:=by
 intro E o H m xs l Q r p h
 match xs with
 |[]=>trivial
 |[x]=>
  obtain⟨v,w,rfl,k,d⟩:=p;rw[Za]at d;subst d;unfold hG at h;cases e:(zi m x).bind FC with
  |none=>simp only[e]at h;exact h.elim
  |some a=>
   simp only[e]at h;obtain⟨n,f,g⟩:=wZ e;obtain⟨b,l,rfl,i,c⟩:=iB r k f;rw[j,qR i g]at c;exact⟨b,a,rfl,c,Kb.here h r (by rw[Ka])⟩
 |_::_::_=>exact h.elim
def uV(i:T.K=X.K):br T (JR X.K) NA:=by
 intro E n H l xs k Q r p h
 match xs with
 |[]=>trivial
 |[x]=>
  obtain⟨v,w,rfl,j,c⟩:=p;rw[Za]at c;subst c;unfold NA at h;cases e:(zi l x).bind Ls with
  |none=>simp[e]at h;exact h.elim
  |some bs=>
   simp[e]at h;obtain⟨m,d,f⟩:=wZ e;obtain⟨b,k,rfl,g,a⟩:=iB r j d;rw[i,lF g f]at a;exact⟨b,bs,rfl,a,Kb.here h r (by rw[Ka])⟩
 |_::_::_=>trivial
noncomputable def GF(xs:g'):M D:=match xs with
 |[Z i,Z j]=>ret (Z$ max i j)
 |_=>pb
def zU(p:Za T a H [x,y] b):∃ v u,b=[v,u]/\Ka T a H x v/\Ka T a H y u:=by
 obtain⟨v,w,rfl,c,d⟩:=p;obtain⟨u,f,rfl,e,p4⟩:=d;rw[Za]at p4;subst p4;exact⟨v,u,rfl,c,e⟩
set_option tactic.hygienic true in
def rX:br T (λxs H Q=>∃ i j,xs=[ϣ i,ϣ j]/\Q (ϣ$ if j > i then j else i) H) GF:=by
 intro E d H f xs c Q r p h;unfold GF at h;split at h
 ·rename_i i j
  apply b_;intro z_;obtain⟨v,u,rfl,a,b⟩:=zU p;apply z_;refine⟨i,j,by rw[bn a,bn b],?_⟩;have e:(if j > i then j else i)=max i j:=by rw[Int.max_def];split<;>split<;>lia
  rw[e];exact Kb.here h r (by rw[Ka])
 ·exact h.elim
noncomputable def Rm(a:dl):dl:=a.foldl RB []
def tM a:zf (λi=>a.getD i 0) a.length=Rm a:=by
 unfold zf Rm;congr 1;apply Cf;intro i;by_cases h:i<a.length<;>simp[h]
def vI(x:D):M D:=λa=>match (Bf a x).bind Ls with
 |some ns=>if ns.length<=Yf then Y (Z (Rm ns).length) a else ϗ
 |none=>ϗ
def yza(K:ϔ):gV->Hp->VK->Prop:=λxs H Q=>∃ (p:Addr) (ns:dl),xs=[ϕ p]/\He K H p (ns.map ϣ)/\ns.length<=Yf/\∀ l,H l=L6->Q (ϕ l) (Nb H l (.set (λk=>(Rm ns).any (·== k)) (Rm ns).length))
def MX(h:n<=Yf):n+1<scanBound:=Rv (Nat.succ_le_succ h) ⋯
def ι(i:X.gc=A3):jm X (ki "set")$ yza X.K:=by
 rintro g s n H xs t Q I r ⟨p,f,rfl,l,k,q⟩;obtain⟨u,rfl,rfl⟩:=Nq r;obtain⟨a,h,pl,m⟩:=I.list l;have c:a.length=f.length:=by rw[<-h.length,Ra]
 refine call_set_list (I.ok.hd i) pl.isList (kL h) (by rw[Ea,c];exact MX k) λh' tk d j=>?_;rw[show a.toArray.size=f.length by rw[Ea,c],tM]at d;refine⟨ϕ s.heap.objs.size,_,I.laid (λb o e=>j b o (ua e) e) (pa _) ?_,rfl,q _$ I.lc.fresh$ pa _⟩;exact d
def È:jm X (Ϟ "len") (λxs H Q=>∃ p S n,xs=[ϕ p]/\H p=BD (.set S n)/\Q (ϣ n) H):=by
 rintro a s st H xs w Q I r ⟨p,S,n,rfl,g,q⟩;apply b_;intro z_;obtain⟨u,rfl,h⟩:=Nq r;cases h;obtain⟨o,j,i,t,b,c,d,k,l,m,e,f⟩:=(I.lc p _ g)
 apply z_;have v:scanBound<=2 ^ 62:=by decide
 refine call_len_set b c d e ⋯ ⟨ϣ n,H,I.tok _,⟨_,by rw[f]⟩,q⟩
def zhs(ϊ:T.K=X.K)(ύ:X.gc=A3)(N:Gl X "len")(O:X.mg "len" = L6)(n:Gl X "set")(q:X.mg "set" = L6)(L:FE T X e f)
  (y:ka [e] X.env=(Ŷ,Cb e X.env)::ka [] X.env:=by rfl) (r:(Ub b$ ka [] X.env).any (·.1)=Ŷ:=by rfl)
  (i:ka [ϟ (ϛ "set" t) [e] [] b] X.env=(Ŷ,Cb (ϟ (ϛ "set" t) [e] [] b) X.env)::ka [] X.env:=by rfl) (g:(Ub k$ ka [] X.env).any (·.1)=Ŷ:=by rfl) :
  FE T X (ϟ (ϛ "len" p) [ϟ (ϛ "set" t) [e] [] b] [] k)$ Vc vI f:=by
 intro j s ϋ H Q I h;refine dG È N O wy (yr (rE (ι ύ) n q rfl (yr L Nt y) ⋯ ⋯ y r) Nt i) ⋯ ⋯ i g j s ϋ H Q I ?_;obtain⟨V,ρ,σ,G,R,P⟩:=h;refine⟨V,ρ,σ,G,R,P.bind λd w u v W D ό z S c=>?_⟩;unfold vI at c;cases m:(Bf w d).bind Ls with
 |none=>rw[m]at c;exact c.elim
 |some ns=>
  rw[m]at c;dsimp only at c;by_cases o:ns.length<=Yf
  ·rw[ia o]at c;obtain⟨ys,A,B⟩:=pf.mp m;obtain⟨a,vs,rfl,E,F⟩:=z.ls S A;have C:=lF F B;subst C;exact⟨a,ns,rfl,He.of E,o,λl x=>⟨l,_,_,rfl,qf,c u _ _ (qj x) (z.fresh x) (by rw[Ka])⟩⟩
  ·rw[qa o]at c;exact c.elim
def Ep(xs:g')(lo a:Option Int):g':=(xs.drop$ ϲ xs.length 0 lo).take$ ϲ xs.length xs.length a - ϲ xs.length 0 lo
def W4{xs}{lo a}(h:ϲ xs.length 0 lo=0/\ϲ xs.length xs.length a=xs.length):Ep xs lo a=xs:=by
 unfold Ep;rw[h.1,h.2];simp
def PQ{xs}(r:Za T c H xs b) lo a:Za T c H (Ep xs lo a)$ cD b lo a:=by
 unfold Ep cD;rw[r.length];exact Za.take _$ Za.drop _ r
end L4
namespace HT
open Spec
variable{prog:xa}{w:Ma}{A:Ia}{E:Value->Shared->Prop}{s:Shared}
def Tj{lo d}(b:IsTup s.heap t a)(j:s.heap.IsSliceOf i k l Yb)(pl:Lk k lo)(p:Lk l d)
  (v:Te a.size 0 lo=0/\Te a.size a.size d=a.size) (h:Q (xb t) s):wpAny (model prog w) A (qi (xb t)$ xb i) Q E s:=by
 obtain⟨n,g,f,m⟩:=id j;have e:s.TypeIs (xb i) "slice":=⟨n,g,f⟩
 unfold qi;try with_reducible refine Xb ?_
 refine aa$ OD b.typeIs ⋯ ?_;refine aa$ Ad b.typeIs ec
  (Dc ec b.typeIs Nz ?_$ GB _ _)
 show wpAny _ _ (Sf _ >>= _) _ _ s;refine aa$ B0 b$ aa$ xj e$ aa$ NU j pl p ?_;have c:(((Te a.size 0 lo):Int) == 0 && (1:Int) == 1 && (Te a.size a.size d - Te a.size 0 lo) == a.size)=A3:=by
  simp_all
 show wpAny _ _ (if (((Te a.size 0 lo):Int) == 0 && 1 == 1 && (Te a.size a.size d - Te a.size 0 lo) == a.size)=A3 then _ else _) _ _ s;rw[ia c];apply b_;intro z_;obtain⟨o,r,q,u⟩:=id b;apply z_;refine aa$ aa$ xj b.typeIs$ ga$ aa$ vm ?_;first
  |exact ga _
  |exact ga _
  |exact aa$ ga$ ga ⟨_,rfl,ga h⟩
end HT
namespace L4
open Spec L2
def XS(K:ϔ):V->Option Int->Option Int->Hp->VK->Prop:=λx lo b H Q=>∃ a xs,x=ϕ a/\Jg K H a xs/\(ϲ xs.length 0 lo=0/\ϲ xs.length xs.length b=xs.length)/\Q (ϕ a) H
def P6:Mw X$ XS X.K:=by
 rintro e s n H x v o p lo j m Q I i f pl h ⟨a,xs,rfl,g,k,q⟩;cases i;obtain⟨b,r,d,l⟩:=I.tuple g;have c:b.toArray.size=xs.length:=by rw[Ea];exact r.length.symm
 exact⟨"tuple",_,ec.lookup,d.typeIs,HT.Tj d f pl h ⋯ ⟨ϕ a,H,I,rfl,q⟩⟩
abbrev PF:=Option$ Ev->M D
noncomputable def aN(d:D):M$ Option Int:=match d with
 | Z i=>ret (BD i)
 |_=>pb
def DB(p:PF):Ev->M (Option Int):=match p with
 |none=>λb=>ret L6
 |some f=>λa=>Lc (f a) aN
def tP(T:Tb)(X:Cx)(f:Ev->M (Option Int)):TO:=λd H Q=>∃ c e g,sh T c H e d/\Xc T c H g/\Kb T (XE X d) (λh h a b=>b=a) c H (f e g) Q
abbrev FO(T:Tb)(X:Cx)(e:Option Ja)(p:PF):Prop:=PO X e$ tP T X$ DB p
theorem O4:FO T X L6 L6:=by
 rintro a s d H Q I ⟨f,g,h,e,c,b⟩;exact F4 a s d H Q I$ Kb.here b c rfl
def zuf(g:FE T X e f):FO T X (BD e)$ BD f:=by
 intro a s n H Q I h;refine ŝ g a s n H Q I ?_;obtain⟨o,ρ,q,c,k,j⟩:=h;refine⟨o,ρ,q,c,k,Kb.bind j λd r p v t w u m l b=>?_⟩;cases d with
 |int i=>exact⟨i,bn l,Kb.here b m rfl⟩
 |_=>exact b.elim
def dZ(x:D)(lo b:Option Int):M D:=λa=>match x with
 | Ϗ xs=>Y (Ϗ$ Ep xs lo b) a
 | .Zi ns=>Y (ώ$ Ep (ns.map Z) lo b) a
 |x=>(match Bf a x with
  |some xs=>Y (ώ$ Ep xs lo b) a
  |none=>ϗ)
def Xx(x:D)(lo:Option Int)(a:Option Int):M D:=dZ x lo a
def ZN(x:D)(a:M$ Option Int)(lo:Option Int):M D:=Lc a$ Xx x lo
def eO(lo a:M$ Option Int)(x:D):M D:=Lc lo$ ZN x a
def wB(f:Ev->M D)(lo b:PF):Ev->M D:=λa=>Lc (f a)$ eO (DB lo a)$ DB b a
def g5{lo ϋ}{pl V}(ϊ:T.K=X.K)(he:FE T X e f)(hl:FO T X lo pl)(hh:FO T X ϋ V):FE T X (Ϣ e (.Slice lo ϋ L6 C) E)$ wB f pl V:=by
 intro x s W H Q I h;refine S7 (Mw.or ï$ Mw.or P6 l8) he hl hh x s W H Q I ?_;obtain⟨μ,ρ,σ,A,hr,hp⟩:=h;refine⟨μ,ρ,σ,A,hr,hp.bind λd P L v H1 l R r1 q1 p1=>⟨L,ρ,P,A.mono R,r1,p1.bind λl σ2 N g H2 l S r2 q2 C=>⟨N,ρ,σ2,(A.mono R).mono S,r2,C.bind λu o O i z l ό y q3 c=>?_⟩⟩⟩;have F:=q2;have G:=q3;subst F;subst G;have rd:=Ka.mono ό _ _$ Ka.mono S _ _ q1;have b:∀ m,Bf o d=BD m->Kb T (XE X W) (Ka T) O z (Y (ώ$ Ep m g i) o) Q->xU X.K v g i z Q\/XS X.K v g i z Q\/SU X.K v g i z Q:=λm t p4=>by
  obtain⟨a,j,rfl,r,k⟩:=y.ls rd t;exact ϙ$ ϙ ⟨a,j,rfl,He.of r,λp w=>jE p4 y (PQ k g i) w⟩
 cases d with
 |Ha xs=>
  have ύ:=rd;obtain⟨p,j,rfl,r,k⟩:=rd;by_cases B:ϲ j.length 0 g=0/\ϲ j.length j.length i=j.length
  ·refine ϙ$ ϖ ⟨p,j,rfl,Jg.of r,B,Kb.here c y ?_⟩;rw[W4 (by rw[k.length];exact B)];exact ύ
  ·exact ϖ ⟨p,j,rfl,Jg.of r,B,λq w=>DD c y (PQ k g i) w⟩
 |ref n=>
  unfold Xx dZ at c;dsimp only at c;cases t:Bf o _ with
  |none=>rw[t]at c;exact c.elim
  |some m=>rw[t]at c;exact b m t c
 |na m=>exact b m rfl c
 |Zi ns=>
  obtain⟨p,rfl,r⟩:=rd;have k:=r.seq;rw[ϊ]at k;exact ϙ$ ϙ ⟨p,_,rfl,k,λp w=>jE c y (PQ (pD ns) g i) w⟩
 |_=>exact c.elim
def BP(K:ϔ)(j:Str->Option Value)(x:Str)(e:Stmt)(g:ac)(i:b'):Prop:=
 ∃ f b,j x=BD (xb f)/\Ϻ K (xb f)=A3/\(∃ (k:Value) (l:Option Addr) (h kV c m:Value) (an:Option Addr) (a ct:Value) (d:Array (Option Value)),
  b=Ϯ x x (Tl e) (ck e) (sf e) h kV c m an a ct/\K.lookup f=BD ⟨k,l,.func b,d⟩/\W.codeIn K a x=A3)/\Vr K b g []/\Vr K b g i
def nu(T:Tb)(P:xa)(w:Ma)(c:Str->Option Value)(a:Heap)(k:Nat)(x:Str)(ps:ac)(d:b')(e:g'->M D):Prop:=
 ∃ f b,c x=BD (xb f)/\Ϻ T.K (xb f)=A3/\Vr T.K b ps []/\Vr T.K b ps d/\qh P w T.K c a (wl P w) k f b ps (Co T ps.length e)
section
def ė(h:nu T X.prog X.w X.mg X.base k x ps n g)(o:T.K=X.K)(u:yd k X.A)(s:Gl X x)
  (q:FA T X (e::a) i) (c:(x == ("__debug__" : Str))=Ŷ:=by decide) (r:ka (e::a) X.env=(Ŷ,Cb e X.env)::ka a X.env:=by rfl) (d:(Ub b$ ka a X.env).any (·.1)=Ŷ:=by rfl) :
  FE T X (ϟ (ϛ x p) (e::a) [] b)$ Ye ps.length g [] i:=by
 obtain⟨f,v,t,m,l,_,j⟩:=h;rw[o]at m j l;exact fL j u s t m l Ϥ (λy y=>Za.nil) q c r d
def ō(h:nu T X.prog X.w X.mg X.base k x ps l m)(s:T.K=X.K)(z:yd k X.A)(v:Gl X x)(B:de b l)(i:∀ C H,Za T C H a b)
  (t:FA T X (e::c) n) (g:(x == ("__debug__" : Str))=Ŷ:=by decide) (u:ka (e::c) X.env=(Ŷ,Cb e X.env)::ka c X.env:=by rfl) (j:(Ub d$ ka c X.env).any (·.1)=Ŷ:=by rfl) :
  FE T X (ϟ (ϛ x p) (e::c) [] d)$ Ye ps.length m a n:=by
 obtain⟨f,E,y,r,_,q,o⟩:=h;rw[s]at r o q;exact fL o z v y r q B i t g u j
def zrs:de [V.Lb] [Yb]:=ϡ rfl Ϥ
def K6 a H:Za T a H [Ϛ] [V.Lb]:=Za.cons (by rw[Ka]) Za.nil
variable{P:xa}{w:Ma}{K:ϔ}{mg:Str->Option Value}{base:Heap}{ca:Nat->Addr}{tx:Tx}
def m8{st}(h:BP K mg x st ps d)(S:rc N ps$ sf st)
  (l:∀ f a A b s H E,yd k (A.deeper$ eg x (sf st) s.heap.objs.size f a)->rl ⟨K,ca,tx⟩ (Up (wl P w) P w K mg base N x (sf st) f a A b s H E) (ck st) g) :
  nu ⟨K,ca,tx⟩ P w mg base (k+1) x ps d$ dh N.length g:=by
 obtain⟨f,r,n,m,⟨t,u,q,kV,j,v,p,a,ct,o,rfl,lk,c⟩,e,i⟩:=h;exact⟨f,_,n,m,e,i,nD lk c S$ l f a⟩
def nu.Oc{k}{x}{ps}{a}{b}(h:nu T P w mg base k x ps a b):nu T P w mg base k x ps a (λc=>L4.Oc$ b c):=by
 obtain⟨f,d,e,g,i,j,l⟩:=h;exact⟨f,d,e,g,i,j,XO l⟩
def Ζ{st}{B i w}{kV e j b ct}(X:K.In h)(G:h.Ns mainGlobals mg)
  (z:∀ t kV e j i b ct s o n g,s.heap.get? t=BD o->o.data=Ϩ m.toArray n->((g++[]).length=ps.length->Me s (Ϯ x x (Tl st) (ck st) (sf st) (xb t) kV e j i b ct) ⟨g,[]⟩ (ps.zip$ g++[]))/\
   ((g++m).length=ps.length->Me s (Ϯ x x (Tl st) (ck st) (sf st) (xb t) kV e j i b ct) ⟨g,[]⟩ (ps.zip$ g++m)))
  (a:W.nsIn K mainGlobals x=BD (BD$ xb f)) (l:K.lookup f=BD ⟨A,B,.func$ Ϯ x x (Tl st) (ck st) (sf st) (xb t) kV e j i b ct,p⟩)
  (c:W.codeIn K b x=A3) (k:Ϻ K (xb f)=A3) (d:K.lookup t=BD ⟨v,w,Ϩ m.toArray u,y⟩):BP K mg x st ps m:=
 ⟨f,_,W.mg_of X G a,k,⟨A,B,_,kV,e,j,i,b,ct,p,rfl,l,c⟩,λs g q r=>(z t kV e j i b ct s _ u g (q _ _ d) rfl).1 r,λs g q r=>(z t kV e j i b ct s _ u g (q _ _ d) rfl).2 r⟩
end
noncomputable def sy(l:List$ Nat × Bool):Nat->Option Bool:=λc=>l.lookup c
abbrev hV:b':=[ki "ValueError",ki "Exception",ki "BaseException",ki "object"]
theorem xQ:∀ {l:List$ Nat × Bool} {c:Nat} {b:Bool},l.lookup c=BD b->(c,b)∈l
 |[],_,_,h=>by simp at h
 |(n,d)::r,c,b,h=>by
  rw[Gb]at h;cases e:c == n with
  |true=>simp_all
  |false=>rw[e]at h;exact ra _$ xQ h
def Ci.Dd(h:Ci T P w c a k x ps b):Ci T P w c a k x ps$ L4.Dd b:=by rw[av];exact h
def nu.Dd(h:nu T P w d a k x ps b c):nu T P w d a k x ps b$ L4.Dd c:=by rw[av];exact h
section
variable{μ:ad}{H:Hp}{σ:Ca}
noncomputable def gk(σ:Ca):D->Option (Nat × List (Str × D))
 | Ϲ c ns ds=>if ns.length=ds.length then BD (c,ns.zip ds)else L6
 | U n=>match σ[n]? with
  |some (ϓ c a)=>BD (c,a)
  |_=>L6
 |_=>L6
theorem uS:∀ {b:ac} {ds:g'} {a:List$ Str × V},a.map (·.1)=b->Za T μ H ds (a.map (·.2))->ot T μ H (b.zip ds) a
 |[],ds,[],_,h=>by
  cases ds with
  |nil=>exact Ϥ
  |cons d ds=>have:=h.length;simp at this
 |[],ds,f::a,e,_=>by simp at e
 |n::b,ds,[],e,_=>by simp at e
 |n::b,[],f::a,e,h=>by have:=h.length;simp at this
 |n::b,d::ds,f::a,e,h=>by
  simp at e;obtain⟨v,r,c,i,j⟩:=h;simp at c;obtain⟨g,rfl⟩:=c;exact ϡ ⟨e.1.symm,by rw[g];exact i⟩$ uS e.2 j
def Kz(r:Xc T μ H σ)(h:Ka T μ H d v)(e:gk σ d=BD (c,k)):∃ a f b,v=ϕ a/\H a=BD (.jb (T.ca c) f b)/\ot T μ H k b:=by
 cases d with
 |obj m ns ds=>
  unfold gk at e;by_cases l:ns.length=ds.length
  ·simp[l]at e;obtain⟨rfl,rfl⟩:=e;obtain⟨a,f,b,rfl,_,g,i,s⟩:=h;exact⟨a,f,b,rfl,g,uS i s⟩
  ·simp[l]at e
 |ref n=>
  unfold gk at e;dsimp only at e;cases j:σ[n]? with
  |none=>simp_all
  |some o=>
   rw[j]at e;obtain⟨a,rfl,_,q⟩:=r.at h j;cases o with
   |jb m p=>cases e;obtain⟨f,b,g,i⟩:=q;exact⟨a,f,b,rfl,g,i⟩
   |na _=>cases e
   |Aa _=>cases e
   |Fb _=>cases e
   |Je _=>cases e
 |_=>cases e
theorem FD{f:Str}:∀ {b:List$ Str × D} {c:List$ Str × V},ot T μ H b c->(∀ d,b.lookup f=BD d->∃ v,c.lookup f=BD v/\Ka T μ H d v)/\(b.lookup f=L6->c.lookup f=L6)
 |_,_,Ϥ=>⟨λd e=>by simp at e,λp=>rfl⟩
 |(g,x)::b,(o,v)::c,ϡ ⟨e,h⟩ t=>by
  have i:=e;subst i;obtain⟨j,k⟩:=FD t;by_cases l:(f == g)=A3
  ·refine⟨λd q=>?_,λq=>?_⟩;all_goals simp_all
  ·have a:(f == g)=Ŷ:=by simpa using l
   refine⟨λd q=>?_,λq=>?_⟩
   ·rw[Gb,a]at q;obtain⟨w,m,n⟩:=j d q;exact⟨w,by rw[Gb,a];exact m,n⟩
   ·rw[Gb,a]at q;rw[Gb,a];exact k q
def LH(T:Tb)(a:dN)(f:Str):Prop:=∀ c,a.contains c=A3->pr T.K (T.ca c)/\ly T.K (T.ca c) f
noncomputable def Mb(a:dN)(f:Str)(x:D):M D:=λσ=>match gk σ x with
 |some (c,b)=>if a.contains c=A3 then (match b.lookup f with
  |some d=>Y d σ
  |none=>ϗ)else ϗ
 |none=>ϗ
def X3(C:T.K=X.K)(F:LH T cs f)(G:FE T X e g)
  (E:Wc e f X.env (Cb e X.env)=Cb e X.env:=by rfl):FE T X (ϝ e f m)$ Vc (Mb cs f) g:=by
 intro j s O H Q I h;refine w8 G E j s O H Q I ?_;obtain⟨μ,ρ,σ,B,L,ύ⟩:=h;refine⟨μ,ρ,σ,B,L,Kb.bind ύ λd n R v S D ϋ q N b=>?_⟩;unfold Mb at b;cases k:gk n d with
 |none=>rw[k]at b;exact b.elim
 |some p=>
  obtain⟨c,t⟩:=p;rw[k]at b;dsimp only at b;by_cases i:cs.contains c=A3
  ·rw[ia i]at b;obtain⟨a,r,P,rfl,u,x⟩:=Kz q N k;cases l:t.lookup f with
   |none=>rw[l]at b;exact b.elim
   |some y=>
    rw[l]at b;obtain⟨w,z,A⟩:=(FD x).1 y l;obtain⟨k1,o⟩:=F c i;rw[C]at k1 o;exact⟨a,_,r,P,w,rfl,u,k1,o,z,Kb.here b q A⟩
  ·rw[qa i]at b;exact b.elim
noncomputable def Mh(f:Str)(v:D):List (Str × D)->List (Str × D)
 |[]=>[(f,v)]
 |(g,x)::r=>if g=f then (g,v)::r else (g,x)::Mh f v r
theorem UO{f:Str}{d:D}{v:V}(hd:Ka T μ H d v):∀ {b:List$ Str × D} {c:List$ Str × V},ot T μ H b c->ot T μ H (Mh f d b) (Qm f v c)
 |_,_,Ϥ=>ϡ ⟨rfl,hd⟩ Ϥ
 |(g,x)::b,(j,w)::c,ϡ ⟨e,h⟩ t=>by
  have i:=e;subst i;unfold Mh Qm;by_cases a:g=f
  ·rw[ia a,ia a];exact ϡ ⟨rfl,hd⟩ t
  ·rw[qa a,qa a];exact ϡ ⟨rfl,h⟩$ UO hd t
def ot.mono(e:pd μ H a b)(h:ot T μ H c d):ot T a b c d:=Paired.bq h λf f q=>⟨q.1,Ka.mono e _ _ q.2⟩
def ot.length(h:ot T μ H a b):a.length=b.length:=Paired.length h
def bz(b:dN)(f:Str)(d x:D):M Unit:=λσ=>match x with
 | U n=>(match σ[n]? with
  |some (ϓ c a)=>if (b.contains c && decide (a.length<1000))=A3 then Y () (σ.set n$ ϓ c$ Mh f d a)else ϗ
  |_=>ϗ)
 |_=>ϗ
def iy(ρ:Ev)(b:dN)(f:Str)(d x:D):M Fl:=λσ=>match bz b f d x σ with
 | Y _ a=>Y (Ϙ ρ) a
 |_=>ϗ
def OK(ρ:Ev)(a:dN)(f:Str)(b:Ev->M D)(d:D):M Fl:=xs ρ (b ρ)$ iy ρ a f d
def Uk(b:dN)(f:Str)(d c:Ev->M D):Ev->M Fl:=λa=>xs a (d a)$ OK a b f c
def P3(Q:T.K=X.K)(R:LH T cs f)(S:FE T X o B)(ϊ:FE T X e C)
  (ό:Hg e (BD$ ϝ o f h) k.line X.env=pure Ŷ:=by rfl):FS T X (.Assign [ϝ o f h] e k)$ Uk cs f C B:=by
 intro j s N H D I V;refine O6 S ϊ ό j s N H D I ?_;obtain⟨μ,ρ,σ,i,W,ϋ⟩:=V;refine⟨μ,ρ,σ,i,W,ϋ.xs i λd u t v H1 d p r1 q1 p1=>⟨t,ρ,u,i.mono p,r1,p1.xs (i.mono p) λx w l vo y d A L q2 b=>?_⟩⟩;unfold iy bz at b;cases x with
 |ref n=>
  dsimp only at b;cases q:w[n]? with
  |none=>rw[q]at b;exact b.elim
  |some ob=>
   rw[q]at b;cases ob with
   |na _=>exact b.elim
   |Aa _=>exact b.elim
   |Fb _=>exact b.elim
   |Je _=>exact b.elim
   |jb c P=>
    dsimp only at b;by_cases g:(cs.contains c && decide (P.length<1000))=A3
    ·apply b_;intro z_;rw[ia g]at b;rw[Da,Jc]at g;obtain⟨a,rfl,G,m,O,E,F⟩:=L.at q2 q;have ex:pd l y l$ Nb y a$ .jb (T.ca c) m$ Qm f v O:=Js (wa G) E (λd z=>by cases z) (λd d z=>by cases z);have r:=L.write (ob:=ϓ c _) G ⟨m,_,qf,UO (Ka.mono ex _ _$ Ka.mono A _ _ q1)$ ot.mono ex F⟩;obtain⟨k1,ύ⟩:=R c g.1;rw[Q]at k1 ύ;apply z_;exact⟨a,_,m,O,rfl,E,k1,ύ,by rw[<-F.length];exact g.2,b _ (ϸ N) _ r.1 r.2$ (i.mono p).mono A |>.mono r.1⟩
    ·rw[qa g]at b;exact b.elim
 |_=>exact b.elim
noncomputable def bu(n:Nat):Ji D->Ji D
 | Y Ϛ a=>Y (U n) a
 | Y _ _=>ϗ
 | .ex x a=>.ex x a
 | ϗ=>ϗ
def vj(c n:Nat)(b:g'->M D)(a:g'):M D:=λσ=>if a.length+1=n then bu σ.length (b (U σ.length::a)$ σ++[ϓ c []])else ϗ
def Yo(c n:Nat)(a:g'->M D)(b:Ev->M (g')):Ev->M D:=λd=>Lc (b d)$ vj c n a
def mr(T:Tb)(P:xa)(w:Ma)(e:Str->Option Value)(a:Heap)(k:Nat)(f:Addr)(ps:ac)(d:g'->M D):Prop:=
 ∃ c,(∀ b:b',b.length=ps.length->bindArgs c ⟨b,[]⟩=pure (ps.zip b))/\qh P w T.K e a (wl P w) k f c ps (Co T ps.length d)
def xS(T:Tb)(P:xa)(w:Ma)(b:Str->Option Value)(a:Heap)(k:Nat)(x:Str)(c:Nat)(ps:ac)(d:g'->M D):Prop:=
 ∃ f,b x=BD (xb$ T.ca c)/\Mk T.K (T.ca c) f/\mr T P w b a k f ps d
def IV{ps:ac}(r:Xc T μ H σ)(q:Za T μ H j w)(p:Kb T E (Ka T) μ H (vj c ps.length m j σ) Q) :
  ∀ x a,H x=L6->H a=L6->a≠x->Co T ps.length m (ϕ x::(w++[])) (Nb (Nb H a$ .own x) x$ .jb (T.ca c) a []) (λv z=>v=.Lb/\Q (ϕ x) z) E:=by
 intro x a B h o;unfold vj at p;by_cases n:j.length+1=ps.length
 ·rw[ia n]at p;have b:pd μ H μ$ Nb H a$ .own x:=qj h;have t:Xc T μ (Nb H a$ .own x) σ:=r.fresh h;have i:Nb H a (.own x) x=L6:=by unfold Nb;rw[qa$ Jd o];exact B
  have f:pd μ _ _$ Nb _ x$ .jb (T.ca c) a []:=iw i;have F:Xc T _ _$ σ++[ϓ c []]:=t.push i ⟨a,[],qf,Ϥ⟩;refine⟨μ++[x],σ++[ϓ c []],U σ.length::j,Za.cons (KC t) (by rw[kf];exact Za.mono (b.trans f) _ _ q),by rw[Pb];exact n,F,?_⟩;cases e:m _ _ with
  |pb=>rw[e]at p;exact p.elim
  |ex y u=>rw[e]at p;exact λg l k s=>p g l ((b.trans f).trans k) s
  |ok d u=>
   rw[e]at p;intro g v l k s C;have A:d=Ϛ:=by cases d<;>first|rfl|exact p.elim
   subst A;exact⟨C,p g _ l ((b.trans f).trans k) s$ Ka.mono k _ _$ KC t⟩
 ·rw[qa n]at p;exact p.elim
def WU{st}(M:Mk X.K C f)(F:qh X.prog X.w X.K X.mg X.base (wl X.prog X.w) k f m ps t)(ύ:yd (k+1) X.A)(E:Vr X.K m ps j)(hd:de c j)
  (I:Ta X b st H s) (r:de n d)
  (h:∀ x l,H x=L6->H l=L6->l≠x->t (ϕ x::(n++c)) (Nb (Nb H l$ .own x) x$ .jb C l []) (λv y=>v=.Lb/\Q (ϕ x) y) (XE X st)) :
  wpAny (model X.prog X.w) X.A (call (xb C) d) (EP X b st Q) X.xe s:=by
 have p:=h _ s.heap.objs.size (I.lc.fresh$ Eh _) (I.lc.fresh$ pa _)$ va$ yb _;have i:=Ta.made (C:=C) I;have q:de (ϕ _::(n++c))$ xb (s.heap.objs.size+1)::(d++j):=ϡ rfl$ r.append hd;have G:(xb (s.heap.objs.size+1)::d++j).length=ps.length:=by
  have e:=q.length;rw[F.len _ _ _ _ p]at e
  grind
 refine yj$ x8 I.Ri M.makes M.init (Zg.mp M.fn) (mf (F.dh _ X.stack _ _ _ _ _ _ _ (ύ.make C d [])
  (i.qF.make C d []) (E _ _ i.Ri G) q p) λr P a=>?_)
 cases r with
 |error e=>obtain⟨B,m,o,g,L⟩:=a;exact L.WG b _ _ e P i g
 |ok D=>
  cases D with
  |ret u=>
   obtain⟨v,o,z,O,rfl,N⟩:=i.after a;exact⟨O,⟨ϕ _,o,z,rfl,N⟩⟩
  |next=>exact ϱ a
  |brk=>exact ϱ a
  |cont=>exact ϱ a
def o9(h:xS T X.prog X.w X.mg X.base k x c ps n)(y:T.K=X.K)(ύ:yd (k+1) X.A)(E:Gl X x)
  (z:FA T X (e::b) o) (i:(x == ("__debug__" : Str))=Ŷ:=by decide) (C:ka (e::b) X.env=(Ŷ,Cb e X.env)::ka b X.env:=by rfl) (j:(Ub a$ ka b X.env).any (·.1)=Ŷ:=by rfl) :
  FE T X (ϟ (ϛ x p) (e::b) [] a)$ Yo c ps.length n o:=by
 obtain⟨f,F,g,ϊ,B,t⟩:=h;rw[y]at g t;rintro d s st H Q I ⟨μ,S,σ,v,l,G⟩;exact Ke$ pB I E F (ϻ I.ok.mod.Cw g.kp (ud (z a d s st H _ I ⟨μ,S,σ,v,l,G.bind λV ϋ R P u D ό O L N=>IV O L N⟩) λus s1 ⟨P,u,m,r,q⟩=>⟨m.Ri,(WU g t ύ (.all B) Ϥ m r q)⟩) C j) i
structure pL(T:Tb)(P:xa)(w:Ma)(mg:Str->Option Value)(base:Heap)(k:Nat)(m:Str)(c:Nat)(ps:ac)(fn:g'->M D):Prop where
 cl:pr T.K (T.ca c)
 ex:∃ f,Cu T.K (T.ca c) m f/\mr T P w mg base k f ps fn
abbrev Mt:=List$ Nat × (g'->M D)
noncomputable def ur:Mt->Nat->Option (g'->M D)
 |[],_=>L6
 |(c,fn)::r,d=>if c == d then BD fn else ur r d
noncomputable def Ai(n:Nat)(b:g'->M D)(x:D)(a:g'):M D:=if a.length+1=n then b (x::a)else pb
def oj(d:Mt)(n:Nat)(m:Str)(a:M$ g')(x:D):M D:=λσ=>match gk σ x with
 |some (c,b)=>(match ur d c,b.lookup m with
  |some fn,L6=>Lc a (Ai n fn x) σ
  |_,_=>ϗ)
 |none=>ϗ
def Qd(c:Mt)(n:Nat)(m:Str)(f:Ev->M D)(b:Ev->M (g')):Ev->M D:=λa=>Lc (f a)$ oj c n m$ b a
theorem VN:∀ {a:Mt} {c:Nat} {fn:g'->M D},ur a c=BD fn->(c,fn)∈a
 |[],_,_,h=>by cases h
 |(d,g)::r,c,fn,h=>by
  unfold ur at h;by_cases e:(d == c)=A3
  ·rw[ia e]at h;cases h
   simp_all
  ·rw[qa e]at h;exact ra _$ VN h
def HQ(hK:T.K=X.K)(he:FE T X o f)(h:∀ q∈ύ,pL T X.prog X.w X.mg X.base k m q.1 ps q.2)(hr:yd k X.A)(ha:FA T X (e::n) O)
  (V:ka (e::n) X.env=(Ŷ,Cb e X.env)::ka n X.env:=by rfl) (S:(Ub b$ ka n X.env).any (·.1)=Ŷ:=by rfl)
  (ht:Cb (ϟ (ϝ o m i) (e::n) [] b) X.env=(do
   let ov <-Cb o X.env
   Kg i.atName
   let (f,first) <-Od [ov] (Gh ov m pl)
   Bn b f first (Ub b$ ka (e::n) X.env) (Pg b$ Fe [] X.env)):=by rfl) :
  FE T X (ϟ (ϝ o m i) (e::n) [] b)$ Qd ύ ps.length m f O:=by
 rintro j s st H Q I ⟨μ,ρ,σ,hE,ϋ,hp⟩;refine W.methodCall_KW (ud (he j s st H (λx t=>∃ a c G l C,x=ϕ a/\t a=BD (.jb (T.ca c) G l)/\ur ύ c=BD C/\l.lookup m=L6/\tL T X O st t λϊ L=>Co T ps.length C (x::(ϊ++[])) L Q$ XE X st) I ⟨μ,ρ,σ,hE,ϋ,hp.bind λd F a0 v t D e1 r1 q1 g=>?_⟩) λu s1 ⟨x,t,I1,rx,a,c,G,l,C,ex,ea,p,B,q⟩=>?_) ht
 ·unfold oj at g;cases N:gk F d with
  |none=>rw[N]at g;exact g.elim
  |some z=>
   apply b_;intro z_;obtain⟨c,gs⟩:=z;rw[N]at g;dsimp only at g;apply z_;cases p:ur ύ c with
   |none=>rw[p]at g;exact g.elim
   |some C=>
    cases B:gs.lookup m with
    |some y=>rw[p,B]at g;exact g.elim
    |none=>
     rw[p,B]at g;dsimp only at g;obtain⟨a,G,l,rfl,h1,h2⟩:=Kz r1 q1 N;refine⟨a,c,G,l,C,rfl,h1,p,(FD h2).2 B,a0,ρ,F,hE.mono e1,r1,g.bind λds σ2 a1 ϊ L D e2 r2 ό E=>?_⟩;unfold Ai at E;by_cases R:ds.length+1=ps.length
     ·rw[ia R]at E;exact⟨a1,σ2,d::ds,Za.cons (Ka.mono e2 _ _ q1) (by rw[kf];exact ό),by rw[Pb];exact R,r2,E⟩
     ·rw[qa R]at E;exact E.elim
 ·subst ex;obtain rfl:u=xb a:=rx;obtain⟨hC,f',P,fd,hb,hF⟩:=h _ (VN p);rw[hK]at hC P hF;exact CM I1 ea hC P B$ ϻ I.ok.mod.Cw P.kp (ud (ha b j s1 st t _ I1 q) λϊ s2 ⟨l,L,I2,r,ό⟩=>⟨I2.Ri,(gF (vs:=ϕ a::l) hF hr (.all hb) Ϥ I2 (ϡ rfl r) ό)⟩) V S
def P5(hK:T.K=X.K)(he:FE T X o f)(h:∀ q∈F,pL T X.prog X.w X.mg X.base k m q.1 ps q.2)(hr:yd k X.A)
  (ht:Cb (ϟ (ϝ o m e) [] [] g) X.env=(do
   let S <-Cb o X.env
   Kg e.atName
   let (f,first) <-Od [S] (Gh S m pl)
   Bn g f first (Ub g$ ka [] X.env) (Pg g$ Fe [] X.env)):=by rfl) :
  FE T X (ϟ (ϝ o m e) [] [] g)$ Qd F ps.length m f Ua:=by
 rintro B s st H Q I ⟨μ,ρ,σ,hE,O,hp⟩;refine W.methodCall_KW (ud (he B s st H (λx p=>∃ a c E n l,x=ϕ a/\p a=BD (.jb (T.ca c) E n)/\ur F c=BD l/\n.lookup m=L6/\Co T ps.length l (x::([]++[])) p Q (XE X st)) I ⟨μ,ρ,σ,hE,O,hp.bind λd i C v p D e1 V ϋ b=>?_⟩) λu s1 ⟨x,p,G,rx,a,c,E,n,l,ex,ό,j,r,q⟩=>?_) ht
 ·unfold oj at b;cases ύ:gk i d with
  |none=>rw[ύ]at b;exact b.elim
  |some z=>
   obtain⟨c,ϊ⟩:=z;rw[ύ]at b;dsimp only at b;cases j:ur F c with
   |none=>rw[j]at b;exact b.elim
   |some l=>
    cases r:ϊ.lookup m with
    |some y=>rw[j,r]at b;exact b.elim
    |none=>
     rw[j,r]at b;dsimp only at b;obtain⟨a,E,n,rfl,h1,h2⟩:=Kz V ϋ ύ;have t:Kb T _ _ C p (Ai ps.length l d [] i) Q:=b;unfold Ai at t;by_cases N:([]:g').length+1=ps.length
     ·rw[ia N]at t;exact⟨a,c,E,n,l,rfl,h1,j,(FD h2).2 r,C,i,[d],Za.cons ϋ Za.nil,N,V,t⟩
     ·rw[qa N]at t;exact t.elim
 ·subst ex;obtain rfl:u=xb a:=rx;obtain⟨P,f',L,fd,hb,R⟩:=h _ (VN j);rw[hK]at P L R;exact CM G ό P L r$ W.callWith_K0 G.Ri L.kp$ gF (vs:=[ϕ a]) R hr (.all hb) Ϥ G (ϡ rfl Ϥ) q
structure Q6(T:Tb)(P:xa)(w:Ma)(mg:Str->Option Value)(base:Heap)(k:Nat)(x m:Str)(c:Nat)(ps:ac)(fn:g'->M D):Prop where
 gl:mg x=BD (xb (T.ca c))
 sp:W.specialIn T.K (xb (T.ca c)) (Pi "__getattribute__")=BD (BD (Ϟ "type.__getattribute__"))
 ex:∃ f mc,W.readsIn T.K (T.ca c) mc=A3/\W.findCls T.K (xb (T.ca c)) mc m=BD (.val (xb f))/\Ϻ T.K (xb f)=A3/\mr T P w mg base k f ps fn
def JW(h:Q6 T X.prog X.w X.mg X.base k x m c ps l)(R:T.K=X.K)(hr:yd k X.A)(V:Gl X x)(S:FA T X (e::d) F)
  (n:(x == ("__debug__" : Str))=Ŷ:=by decide) (u:ka (e::d) X.env=(Ŷ,Cb e X.env)::ka d X.env:=by rfl) (q:(Ub a$ ka d X.env).any (·.1)=Ŷ:=by rfl)
  (ht:Cb (ϟ (ϝ (ϛ x p) m b) (e::d) [] a) X.env=(do
   let O <-Cb (ϛ x p) X.env
   Kg b.atName
   let (f,first) <-Od [O] (Gh O m pl)
   Bn a f first (Ub a$ ka (e::d) X.env) (Pg a$ Fe [] X.env)):=by rfl) :
  FE T X (ϟ (ϝ (ϛ x p) m b) (e::d) [] a)$ Ye ps.length l [] F:=by
 rintro i s st H Q I ⟨μ,ρ,σ,P,t,ϊ⟩;obtain⟨ό,g,f,mc,G,ύ,L,fd,ϋ,N⟩:=h;rw[R]at g G ύ L N;refine W.methodCall_KW (pB I V ό (W.method_cls I.Ri g$ W.cls_value I.Ri G ύ rfl$ ϻ I.ok.mod.Cw L (ud (S a i _ st H (λv B=>Co T ps.length l (v++[]) B Q$ XE X st) (I.tok _) ⟨μ,ρ,σ,P,t,ϊ.bind λE z y v B D e1 r1 p1 j=>?_⟩) λus s2 ⟨v,H2,C,r,q2⟩=>⟨C.Ri,?_⟩) u q) n) ht
 ·unfold Yr at j;by_cases o:(E++[]).length=ps.length
  ·rw[ia o]at j;exact⟨y,z,E++[],p1.append Za.nil,o,r1,j⟩
  ·rw[qa o]at j;exact j.elim
 ·exact gF N hr (.all ϋ) Ϥ C r q2
end
structure Du(K:ϔ)(C:Addr)(x qual:Str)(st:Stmt)(ps:ac)(f:Addr):Prop where
 ex:∃ fd,mJ K x qual st f fd/\∀ us:b',us.length=ps.length->bindArgs fd ⟨us,[]⟩=pure (ps.zip us)
section
variable{P:xa}{w:Ma}{K:ϔ}{mg:Str->Option Value}{base:Heap}{ca:Nat->Addr}{tx:Tx}
def IY{st}(h:Du K C x a st ps f)(S:rc N ps$ sf st)
  (j:∀ b A c s H E,yd k (A.deeper$ eg a (sf st) s.heap.objs.size f b)->rl ⟨K,ca,tx⟩ (Up (wl P w) P w K mg base N a (sf st) f b A c s H E) (ck st) g) :
  mr ⟨K,ca,tx⟩ P w mg base (k+1) f ps$ dh N.length g:=by
 obtain⟨n,F,d⟩:=h.ex;obtain⟨o,p,kV,i,q,m,b,ct,l,rfl,lk,e⟩:=F.ex;exact⟨_,d,nD lk e S$ j b⟩
def mr.Oc{T}{k}{f}{ps}{a}(h:mr T P w mg base k f ps a):mr T P w mg base k f ps (λb=>L4.Oc$ a b):=by
 obtain⟨c,d,e⟩:=h;exact⟨c,d,XO e⟩
def mr.Dd(h:mr T P w mg base k f ps a):mr T P w mg base k f ps$ L4.Dd a:=by rw[av];exact h
end
noncomputable def Bv(s:Stmt)(j:Nat):Stmt:=match s with
 | .ClassDef _ _ _ b _ _ _ _ _ _ _=>b.getD j (.Pass ⟨0,0,0,0⟩)
 |s=>s
def uR{K:ϔ}{st}{kV d g b ct}
  (j:∀ kV d g e b ct i,i.length=ps.length->bindArgs (Ϯ x a (Tl st) (ck st) (sf st) Yb kV d g e b ct) ⟨i,[]⟩=pure (ps.zip i))
  (l:K.lookup f=BD ⟨m,n,.func$ Ϯ x a (Tl st) (ck st) (sf st) Yb kV d g e b ct,h⟩)
  (c:W.codeIn K b a=A3) (k:Ϻ K (xb f)=A3):Du K C x a st ps f:=⟨⟨_,MZ l c k,j kV d g e b ct⟩⟩
section
variable{T:Tb}{P:xa}{w:Ma}{mg:Str->Option Value}{base:Heap}
def DH(T:Tb)(P:xa)(w:Ma)(mg:Str->Option Value)(base:Heap)(k:Nat)(m:Str)(ps:ac)(a:Mt):Prop:=∀ q∈a,pL T P w mg base k m q.1 ps q.2
def Û:DH T P w mg base k m ps []:=λq h=>nomatch h
def D2(l:pr T.K$ T.ca c)(n:Cu T.K (T.ca c) m f)(o:mr T P w mg base j f ps e)(p:j<=k)(h:DH T P w mg base k m ps g):DH T P w mg base k m ps$ (c,e)::g:=λq d=>by
 rcases Fa.mp d with rfl|d
 ·obtain⟨i,a,b⟩:=o;exact⟨l,f,n,i,a,b.mono p⟩
 ·exact h q d
end
end L4
namespace L4
open L2
def nr{a b:c}(h:a=b):a=b:=h
section
variable{α β:Type}{ρ:Ev}{σ:Ca}
@[simp] theorem zd a σ(k:α->M β):(Y a σ).bind k=k a σ:=rfl
@[simp] theorem yjk(a:α) σ:ret a σ=Y a σ:=rfl
@[simp] theorem Ml m(k:α->M β) σ:Lc m k σ=(m σ).bind k:=rfl
@[simp] theorem VX d:eC d ρ σ=Y d σ:=rfl
@[simp] theorem Bw d r:ja 0 (BD d::r) σ=Y d σ:=rfl
@[simp] theorem xC i o r:ja (i+1) (o::r) σ=ja i r σ:=rfl
@[simp] theorem zs7 o a b:Sa o a b ρ σ=(a ρ σ).bind (EO o$ b ρ):=rfl
@[simp] theorem zsh o m x:EO o m x σ=(m σ).bind (o x):=rfl
@[simp] theorem oQ o a:Vc o a ρ σ=(a ρ σ).bind o:=rfl
@[simp] theorem yk0 b:XC (ϒ b) σ=Y b σ:=rfl
@[simp] theorem yot(p q:M α):Ij p q A3 σ=p σ:=rfl
@[simp] theorem yos(p q:M α):Ij p q Ŷ σ=q σ:=rfl
@[simp] theorem zxm c:IL c σ=Y (!c) σ:=rfl
@[simp] theorem zrc(k:Bool->M α) b:jz k (ϒ b) σ=k b σ:=rfl
@[simp] theorem zoi c:qN c σ=Y (ϒ$ !c) σ:=rfl
@[simp] theorem yns f:eT f ρ σ=(f ρ σ).bind XC:=rfl
@[simp] theorem yJ a b:Pq a b ρ σ=(a ρ σ).bind (Ij (b ρ)$ ret Ŷ):=rfl
@[simp] theorem yck a b:IA a b ρ σ=(a ρ σ).bind (Ij (ret A3)$ b ρ):=rfl
@[simp] theorem zsf a:Ks a ρ σ=(a ρ σ).bind IL:=rfl
@[simp] theorem zs6 a b:EJ a b ρ σ=(a ρ σ).bind (jz$ Ij (b ρ)$ ret$ ϒ Ŷ):=rfl
@[simp] theorem ydv a b:cZ a b ρ σ=(a ρ σ).bind (jz$ Ij (ret$ ϒ A3)$ b ρ):=rfl
@[simp] theorem ztb a:sT a ρ σ=(a ρ σ).bind (jz qN):=rfl
@[simp] theorem ydr t a b:uw t a b ρ σ=(t ρ σ).bind (Ij (a ρ)$ b ρ):=rfl
@[simp] theorem GC:Ua ρ σ=Y [] σ:=rfl
@[simp] theorem rF e r:Ba e r ρ σ=(e ρ σ).bind (YO$ r ρ):=rfl
@[simp] theorem JF m x:YO m x σ=(m σ).bind (sO x):=rfl
@[simp] theorem WE x xs:sO x xs σ=Y (x::xs) σ:=rfl
@[simp] theorem ztg a:Ng a ρ σ=(a ρ σ).bind Fy:=rfl
@[simp] theorem yk2:Fy [] σ=Y (Ϗ []) σ:=rfl
@[simp] theorem yk3 a:Fy [a] σ=Y (Ϗ [a]) σ:=rfl
@[simp] theorem yk4 a b:Fy [a,b] σ=Y (Ϗ [a,b]) σ:=rfl
@[simp] theorem yk5 a b c:Fy [a,b,c] σ=Y (Ϗ [a,b,c]) σ:=rfl
@[simp] theorem yk6 a b c d:Fy [a,b,c,d] σ=Y (Ϗ [a,b,c,d]) σ:=rfl
@[simp] theorem yds a:Em a ρ σ=(a ρ σ).bind Yx:=nr rfl
theorem İ(h:Nat.ble a.length 1000=A3):Yx a σ=Y (ώ a) σ:=by unfold Yx;rw[ia (show a.length<=Yf from Vf h)];rfl
@[simp] theorem zs9 a:Nr a ρ σ=(a ρ σ).bind xD:=rfl
@[simp] theorem ygt:xD [] σ=Y (U σ.length) (σ++[ϑ []]):=nr rfl
@[simp] theorem yqk g i j:oI g (Z i) (Z j) σ=Y (Z$ g i j) σ:=nr rfl
@[simp] theorem yqg g i j:oB g (Z i) (Z j) σ=Y (ϒ$ g i j) σ:=nr rfl
theorem xH(h:C i j=A3):dz C g (Z i) (Z j) σ=Y (Z$ g i j) σ:=by
 show (if C i j=A3 then ret _ else pb) σ=_;rw[ia h];rfl
@[simp] theorem oW i j(h:0<j)(a:j<1073741824):au (Z i) (Z j) σ=Y (Z$ i / j) σ:=xH (by simp[WK,h,a])
@[simp] theorem FQ i j(h:0<j):km (Z i) (Z j) σ=Y (Z$ i % j) σ:=xH (by simp[bO,h])
theorem Ď(h:-(2 ^ 64)<i)(a:i<2 ^ 64):bH (Z i) (Z j) σ=Y (Z$ i * j) σ:=xH (by simp only[iM,av,vg,Da,Jc];exact ϖ ⟨h,a⟩)
def yV(h:jF i j=A3):Sy (Z i) (Z j) σ=Y (Z$ i ^ j.toNat) σ:=xH h
@[simp] theorem p12:Sy (Z 10) (Z 12) σ=Y (Z 1000000000000) σ:=yV (by simp[jF])
@[simp] theorem p4:Sy (Z 10) (Z 4) σ=Y (Z 10000) σ:=yV (by simp[jF])
@[simp] theorem zx8 i:GH (Z i) σ=Y (Z$ -i) σ:=nr rfl
@[simp] theorem zoq i j:lh (Z i) (Z j) σ=Y (Z$ i+j) σ:=nr rfl
theorem RK{xs a}(h:xs.length+a.length<=Yf):lh (Ϗ xs) (Ϗ a) σ=Y (Ϗ$ xs++a) σ:=by show (if _ then _ else _:M D) σ=_;rw[ia h];rfl
def AJ{xs a}(h:xs.length+a.length<=Yf):lh (ώ xs) (ώ a) σ=Y (ώ$ xs++a) σ:=by
 show jA (ώ xs) (ώ a) σ=_;unfold jA;simp only[Bf];rw[ia h]
@[simp] theorem zo0 σ:Ys Ϛ Ϛ σ=Y (ϒ A3) σ:=nr rfl
theorem AG(h:Uj σ 8 x y=BD b):Zh x y σ=Y (ϒ b) σ:=by unfold Zh;rw[h]
def qG(h:Uj σ 8 x y=BD b):rh x y σ=Y (ϒ$ !b) σ:=by unfold rh;rw[h]
@[simp] theorem zxu i j:Zh (Z i) (Z j) σ=Y (ϒ$ i == j) σ:=AG (by simp[Uj,kd,wt,Il])
@[simp] theorem zx7 i j:rh (Z i) (Z j) σ=Y (ϒ$ !(i == j)) σ:=qG (by simp[Uj,kd,wt,Il])
@[simp] theorem zxv i j:Zh (ϐ i) (ϐ j) σ=Y (ϒ$ i == j) σ:=AG (by simp[Uj,kd,wt,Il])
theorem Lw{xs}(h:Mn xs k=BD d):ib (Ϗ xs) (Z k) σ=Y d σ:=by simp[ib,zi,h]
def XM{xs}(h:Mn xs k=BD d):ib (ώ xs) (Z k) σ=Y d σ:=by simp[ib,zi,h]
@[simp] theorem yo1 a r:ib (Ϗ$ a::r) (Z 0) σ=Y a σ:=Lw$ Aq rfl
@[simp] theorem yo2 a b r:ib (Ϗ$ a::b::r) (Z 1) σ=Y b σ:=Lw$ Aq rfl
@[simp] theorem yo3 a b c r:ib (Ϗ$ a::b::c::r) (Z 2) σ=Y c σ:=Lw$ Aq rfl
@[simp] theorem yo4 a b c d r:ib (Ϗ$ a::b::c::d::r) (Z 3) σ=Y d σ:=Lw$ Aq rfl
@[simp] theorem PK xs:wk [Ϗ xs] σ=Y (Z xs.length) σ:=nr rfl
@[simp] theorem WP xs:wk [ώ xs] σ=Y (Z xs.length) σ:=nr rfl
@[simp] theorem zo2 xs:wk [.Zi xs] σ=Y (Z xs.length) σ:=by simp[wk,zi]
@[simp] theorem zlj o a:ak o a ρ σ=(a ρ σ).bind o:=rfl
@[simp] theorem EK n f a b:Ye n f a b ρ σ=(b ρ σ).bind (Yr n f a):=rfl
@[simp] theorem yn5 f a:Yr 1 f [] [a] σ=f [a] σ:=by unfold Yr;rw[ia ⋯];simp
@[simp] theorem W6 f a b:Yr 2 f [] [a,b] σ=f [a,b] σ:=by unfold Yr;rw[ia ⋯];simp
@[simp] theorem S2 f a b c:Yr 3 f [] [a,b,c] σ=f [a,b,c] σ:=by unfold Yr;rw[ia ⋯];simp
@[simp] theorem yew f a b c:Yr 3 f [c] [a,b] σ=f [a,b,c] σ:=by unfold Yr;rw[ia ⋯];simp
@[simp] theorem yn8 f a b c d:Yr 4 f [] [a,b,c,d] σ=f [a,b,c,d] σ:=by unfold Yr;rw[ia ⋯];simp
@[simp] theorem zzq:Sh ρ σ=Y (Ϙ ρ) σ:=rfl
@[simp] theorem ng g h:zb g h ρ σ=(g ρ σ).bind (rG h):=rfl
@[simp] theorem sg h ρ:rG h (Ϙ ρ) σ=h ρ σ:=rfl
@[simp] theorem zz0 h d:rG h (.rt d) σ=Y (.rt d) σ:=rfl
@[simp] theorem zz1 h ρ x:rG h (.xc ρ x) σ=Y (.xc ρ x) σ:=rfl
noncomputable def fk(ρ:Ev)(k:α->M Fl):Ji α->Ji Fl
 | Y a b=>k a b
 | .ex x b=>Y (.xc ρ x) b
 | ϗ=>ϗ
@[simp] theorem xk ρ(m:M α) k:xs ρ m k σ=fk ρ k (m σ):=by unfold xs fk;cases m σ<;>rfl
@[simp] theorem Ym ρ k(a:α):fk ρ k (Y a σ)=k a σ:=rfl
@[simp] theorem ylo ρ(k:α->M Fl) x:fk ρ k (.ex x σ)=Y (.xc ρ x) σ:=rfl
@[simp] theorem zzs f:Ui f ρ σ=fk ρ iN (f ρ σ):=xk ..
@[simp] theorem zze d:iN d σ=Y (.rt d) σ:=rfl
@[simp] theorem MR f:Vh f ρ σ=fk ρ (nP ρ) (f ρ σ):=xk ..
@[simp] theorem NW d:nP ρ d σ=Y (Ϙ ρ) σ:=rfl
@[simp] theorem Ŵ i f:Ce i f ρ σ=fk ρ (CN i ρ) (f ρ σ):=xk ..
@[simp] theorem n8 i d:CN i ρ d σ=Y (Ϙ$ ρ.set i$ BD d) σ:=rfl
@[simp] theorem yjn t a b:Ug t a b ρ σ=fk ρ (Ij (a ρ)$ b ρ) (t ρ σ):=xk ..
@[simp] theorem zzk f a:SQ f a ρ σ=fk ρ (nE a ρ) (f ρ σ):=xk ..
@[simp] theorem â i j k a b c:nE (Hi 3$ Oe (wc i)$ Oe (wc j)$ Oe (wc k) Qi) ρ (Ϗ [a,b,c]) σ=Y (Ϙ$ ((ρ.set i$ BD a).set j$ BD b).set k$ BD c) σ:=rfl
@[simp] theorem zjr c a:OO c a ρ σ=fk ρ (GJ c ρ) (a ρ σ):=xk ..
@[simp] theorem zpq c d:GJ c ρ [d] σ=Y (.xc ρ ⟨c⟩) σ:=rfl
@[simp] theorem zzv g a:NH g a ρ σ=(g ρ σ).bind (UJ a):=rfl
@[simp] theorem ybm a:UJ a (Ϙ ρ) σ=Y (Ϙ ρ) σ:=rfl
@[simp] theorem ybn a x:UJ a (.xc ρ x) σ=Vy ρ x a σ:=rfl
theorem C5(e:h.t x.cls=BD A3):Vy ρ x (h::r) σ=hit h ρ x σ:=by unfold Vy;rw[e]
@[simp] theorem yfr t g x:hit ⟨t,L6,g⟩ ρ x σ=(g ρ σ).bind dJ:=rfl
@[simp] theorem yhc d:dJ (.rt d) σ=Y (.rt d) σ:=rfl
@[simp] theorem kD n g a:dh n g a σ=Cq (g (a.map BD++List.replicate (n - a.length) L6) σ):=rfl
@[simp] theorem æ d:Cq (Y (.rt d) σ)=Y d σ:=rfl
@[simp] theorem AQ:Cq (Y (Ϙ ρ) σ)=Y Ϛ σ:=rfl
@[simp] theorem zzi x:Cq (Y (.xc ρ x) σ)=.ex x σ:=rfl
@[simp] theorem ye0 f:Oc f σ=lg σ (f σ):=nr rfl
@[simp] theorem lr f:cj f ρ σ=lg σ (f ρ σ):=nr rfl
theorem pC(h:cl d=A3):fz k σ m d=BD d:=by cases m<;>(unfold fz;rw[ia h])
def cL(h:cl d=A3)(b:a.take σ.length=σ):lg σ (Y d a)=Y d σ:=by
 unfold lg;dsimp only;rw[ia b,pC h]
@[simp] theorem zhx(h:cl d=A3):lg σ (Y d σ)=Y d σ:=cL h Uf
theorem xY{j j':Ca}{xs}(h:vf xs=A3):lg σ (Y (U σ.length)$ σ++[ϑ xs]++j)=Y (ώ xs) σ:=by
 unfold lg;dsimp only;rw[ia ⋯];have e:fz σ.length (σ++[ϑ xs]++j) 6 (U σ.length)=BD (ώ xs):=by
  unfold fz;dsimp only;rw[qa$ qd _];have:(σ++[ϑ xs]++j)[σ.length]?=BD (ϑ xs):=by simp
  rw[this];dsimp only;have d:∀ a m,vf a=A3->Rl (fz σ.length (σ++[ϑ xs]++j) m) a=BD a:=by
   intro a m;induction a with
   |nil=>intro _;rfl
   |cons y a f=>
    intro c;have b:cl y=A3/\vf a=A3:=by simpa [vf]using c
    unfold Rl;rw[pC b.1,f b.2]
  rw[d xs 5 h];rfl
 rw[e]
@[simp] theorem yc3 i:cl (Z i)=A3:=by simp[cl]
@[simp] theorem ymx i:cl (ϒ i)=A3:=by simp[cl]
@[simp] theorem yc8 i:cl (ϐ i)=A3:=by simp[cl]
@[simp] theorem yc5:cl Ϛ=A3:=by simp[cl]
@[simp] theorem yda xs:cl (Ϗ xs)=vf xs:=by simp[cl]
@[simp] theorem yc4 xs:cl (ώ xs)=vf xs:=by simp[cl]
@[simp] theorem yc7 n:cl (U n)=Ŷ:=by simp[cl]
@[simp] theorem zss:vf []=A3:=by simp[vf]
@[simp] theorem zk5 d a:vf (d::a)=(cl d && vf a):=by simp[vf]
theorem Xs:∀ {a:g'},(∀ d∈a,cl d=A3)->vf a=A3
 |[],_=>by simp
 |d::a,h=>by rw[zk5,h d ya,Xs λx b=>h x$ ra _ b];rfl
def ũ{f:a->D}{l:List a}(h:∀ x,cl (f x)=A3):vf (l.map f)=A3:=Xs λd hd=>by obtain⟨x,_,rfl⟩:=La.mp hd;exact h x
@[simp] theorem zk7(l:dl):vf (l.map Z)=A3:=ũ yc3
@[simp] theorem eH xs a:vf (xs++a)=(vf xs && vf a):=by
 induction xs with
 |nil=>simp
 |cons x xs b=>simp[b,Pz]
theorem š{xs}{k}(a:0<=k)(h:k<xs.length):Mn xs k=BD (xs.getD k.toNat Ϛ):=by
 obtain⟨n,rfl⟩:=Int.eq_ofNat_of_zero_le a;have b:n<xs.length:=by lia
 refine Aq ?_;show xs[n]?=BD (xs.getD n Ϛ);rw[ah,Va b];rfl
def ymg{a:dl}{k:Int}(b:0<=k)(h:k<a.length):Mn (a.map Z) k=BD (Z$ a.getD k.toNat 0):=by
 rw[š b (by simpa using h)];have c:k.toNat<a.length:=by lia
 simp[c]
@[simp] theorem yps a:Yx [a] σ=Y (ώ [a]) σ:=nr rfl
@[simp] theorem ypr:Yx [] σ=Y (ώ []) σ:=nr rfl
@[simp] theorem ypt a b:Yx [a,b] σ=Y (ώ [a,b]) σ:=nr rfl
@[simp] theorem ygu a b:xD [a,b] σ=Y (U σ.length) (σ++[ϑ [a,b]]):=nr rfl
@[simp] theorem UE xs:af (σ++[ϑ xs]) σ.length=BD xs:=by simp[af]
@[simp] theorem bD a b:(σ++[a]).set σ.length b=σ++[b]:=by
 rw[Rf _ _$ pa _];simp
@[simp] theorem zlm o f a:Eu o f a ρ σ=(f ρ σ).bind (jv o$ a ρ):=rfl
theorem hD{xs}(h:Bf σ x=BD xs):jv o m x σ=(m σ).bind (o x):=by unfold jv;rw[h];rfl
def zev{xs}(h:xs.length<1000):lj (U σ.length) [d] (σ++[ϑ xs])=Y Ϛ (σ++[ϑ$ xs++[d]]):=by
 unfold lj;simp only[UE];rw[ia (show xs.length<Yf from h),bD]
def dW{ws:dl}(h:zi σ x=BD (ws.map Z)):ay neg (Z w) x σ=Y (ϒ (if neg then !(ws.any (·== w))else ws.any (·== w))) σ:=by
 have a:∀ l:dl,(l.map Z).all fx=A3:=λl=>by simp[fx,sc]
 have b:∀ l:dl,((l.map Z).any λz=>Ry z$ Z w)=l.any (·== w):=λl=>by simp[Ry,sc,Il,Function.comp_def]
 unfold ay;rw[h];simp only[a,b,show fx (Z w)=A3 from rfl,Bool.and_self,dj]
@[simp] theorem zjx xs:zi (σ++[ϑ xs]) (U σ.length)=BD xs:=UE xs
@[simp] theorem l6 xs:zi σ (ώ xs)=BD xs:=nr rfl
@[simp] theorem G5 xs:zi σ (Ϗ xs)=BD xs:=nr rfl
@[simp] theorem ĳ f:kh f ρ σ=(f ρ σ).bind Fw:=nr rfl
@[simp] theorem zjw a:Fw (Ϗ a) σ=Y (.seq a) σ:=nr rfl
@[simp] theorem KQ a:Fw (ώ a) σ=Y (.seq a) σ:=nr rfl
@[simp] theorem ya3 f:Gv f ρ σ=(f ρ σ).bind dB:=nr rfl
theorem GS(h:-(2 ^ 62)<=j)(a:j<2 ^ 62):dB (Z j) σ=Y (.seq$ Oq j.toNat) σ:=by
 unfold dB;dsimp only;rw[ia (by simp only[zH,av,Da,Jc];exact⟨h,a⟩)]
@[simp] theorem A5 b c a:Yj b c a ρ σ=fk ρ (zE c a ρ) (b ρ σ):=xk ..
@[simp] theorem B1 c a b:zE c a ρ (.seq b) σ=Qj c a b ρ σ:=nr rfl
@[simp] theorem lw b a:Qj b a [] ρ σ=Y (Ϙ ρ) σ:=nr rfl
theorem IS(h:c d ρ=BD b):Qj c a (d::e) ρ σ=(a b σ).bind (Kt$ Qj c a e):=by
 show (match c d ρ with|none=>pb|some b=>Lc (a b) (Kt$ Qj c a e)) σ=_;rw[h];rfl
@[simp] theorem iu i a d b:Qj (wc i) a (d::b) ρ σ=(a (ρ.set i$ BD d) σ).bind (Kt$ Qj (wc i) a b):=IS rfl
@[simp] theorem Vn k:Kt k (Ϙ ρ) σ=k ρ σ:=nr rfl
theorem zjl n:Oq n=(List.range' 0 n).map λ(k:Nat)=>Z k:=by unfold Oq;rw[List.range_eq_range']
def zA(h:m σ=Y a b):Qt m σ=Y a b:=by unfold Qt;rw[h]
end
section
variable{α β:Type}{ρ:Ev}{σ:Ca}
@[simp] theorem zjz a:zi σ (.Zi a)=BD (a.map Z):=nr rfl
theorem ĝ(b:0<=k)(h:k<a.length):ib (.Zi a) (Z k) σ=Y (Z$ a.getD k.toNat 0) σ:=by
 simp[ib,ymg b h]
@[simp] theorem zow c i:mz c (Z i) σ=Y (ϒ$ match c with | .int=>A3|_=>Ŷ) σ:=nr rfl
@[simp] theorem zxy c i:mz c (ϒ i) σ=Y (ϒ$ match c with | .int=>A3 | .bool=>A3|_=>Ŷ) σ:=nr rfl
@[simp] theorem zoz xs:mz .tuple (Ϗ xs) σ=Y (ϒ A3) σ:=nr rfl
@[simp] theorem zhl o d a b c:SZ o d a b c ρ σ=(a ρ σ).bind (cN o d (b ρ)$ c ρ):=nr rfl
noncomputable def pl:Nat->D->Bool
 |_,Ϛ=>A3
 |_,ϒ _=>A3
 |_,Z _=>A3
 |_,ϐ _=>A3
 |n+1,Ϗ xs=>xs.all (pl n)
 |n+1,ώ xs=>xs.all (pl n)
 |_,_=>Ŷ
theorem YP{f:D->D->Option Bool}:∀ {xs:g'},(∀ x∈xs,f x x=BD A3)->um f xs xs=BD A3
 |[],_=>rfl
 |x::xs,h=>by unfold um;rw[h x ya,YP λy a=>h y$ ra _ a];rfl
theorem NE:∀ (n:Nat) (x:D),pl n x=A3->Uj σ n x x=BD A3
 |0,x,h=>by cases x<;>simp[pl]at h<;>simp[Uj,kd,wt,Il]
 |n+1,x,h=>by
  cases x with
  |Lb=>rfl
  |bl b=>simp[Uj,kd,wt,Il]
  |int b=>simp[Uj,kd,wt,Il]
  |str b=>simp[Uj,kd,wt,Il]
  |Ha xs=>
   simp[pl,qb]at h;exact YP λy a=>NE n y$ h y a
  |na xs=>
   simp[pl,qb]at h;exact YP λy a=>NE n y$ h y a
  |_=>trivial
def ZF(h:pl 8 x=A3):Zh x x σ=Y (ϒ A3) σ:=AG$ NE 8 x h
def Wt(h:pl 8 x=A3):rh x x σ=Y (ϒ Ŷ) σ:=qG$ NE 8 x h
@[simp] theorem zp7 f b a:bx f b a ρ σ=fk ρ (mM ρ b a) (f ρ σ):=xk ..
@[simp] theorem zhb o a b c x:cN o a b c x σ=(b σ).bind (jL o a c x):=nr rfl
@[simp] theorem zhd o a c x y:jL o a c x y σ=(o x y σ).bind (YL a c y):=nr rfl
@[simp] theorem zhc a c y b:YL a c y (ϒ b) σ=Ij (Lc c$ a y) (ret$ ϒ Ŷ) b σ:=nr rfl
@[simp] theorem zqf b a d:mM ρ b a d σ=fk ρ (DN ρ a d) (b ρ σ):=xk ..
@[simp] theorem zqg a d x:DN ρ a d x σ=fk ρ (kx ρ d x) (a ρ σ):=xk ..
@[simp] theorem zz5 d a r:kx ρ d (U σ.length) (Z 0) (σ++[ϑ$ a::r])=Y (Ϙ ρ) (σ++[ϑ$ d::r]):=by
 have:Dz (U σ.length) (Z 0) d (σ++[ϑ$ a::r])=Y () (σ++[ϑ$ d::r]):=by
  simp only[Dz,UE];rw[show Qq (a::r).length 0=BD 0 by simp[Qq]];simp
 unfold kx;rw[this]
@[simp] theorem zz6 d a b r:kx ρ d (U σ.length) (Z 1) (σ++[ϑ$ a::b::r])=Y (Ϙ ρ) (σ++[ϑ$ a::d::r]):=by
 have:Dz (U σ.length) (Z 1) d (σ++[ϑ$ a::b::r])=Y () (σ++[ϑ$ a::d::r]):=by
  simp only[Dz,UE];rw[show Qq (a::b::r).length 1=BD 1 by simp[Qq];lia];simp
 unfold kx;rw[this]
theorem yZ{xs}(h:Mn xs k=BD d):ib (U σ.length) (Z k) (σ++[ϑ xs])=Y d (σ++[ϑ xs]):=by simp[ib,h]
@[simp] theorem yow a r:ib (U σ.length) (Z 0) (σ++[ϑ$ a::r])=Y a (σ++[ϑ$ a::r]):=yZ$ Aq rfl
@[simp] theorem yox a b r:ib (U σ.length) (Z 1) (σ++[ϑ$ a::b::r])=Y b (σ++[ϑ$ a::b::r]):=yZ$ Aq rfl
theorem BO(h:cl d=A3):lg σ (Y d$ σ++[a])=Y d σ:=cL h ⋯
@[simp] theorem zgx(f:a->Bool)(l:List a):FC (l.map λx=>ϒ$ f x)=BD (l.map f):=by
 induction l with
 |nil=>rfl
 |cons x l b=>simp[FC,b]
@[simp] theorem sU l:Ls (l.map Z)=BD l:=by
 induction l with
 |nil=>rfl
 |cons x l a=>simp[Ls,a]
theorem NT{f:a->Bool}{l:List a}:hG [ώ (l.map λx=>ϒ$ f x)] σ=Y (ϒ$ l.all f) σ:=by
 simp only[hG];simp
def ď(h:l.length<=1000):vI (ώ$ l.map Z) σ=Y (Z (Rm l).length) σ:=by
 simp only[vI,Bf,Fh,sU];rw[ia (show l.length<=Yf from h)]
theorem aQ:∀ (l s:dl),(l.foldl PyProof.Rows.step_dedup s).length<=s.length+l.length/\((l.foldl PyProof.Rows.step_dedup s).length=s.length+l.length ↔ (l.Nodup/\∀ x∈l,x ∉ s))
 |[],s=>by simp
 |x::l,s=>by
  rw[Im];by_cases h:s.any (·== x)=A3
  ·have i:x∈s:=by simpa using h
   rw[show PyProof.Rows.step_dedup s x=s by unfold PyProof.Rows.step_dedup;rw[ia h]];obtain⟨g,d⟩:=aQ l s;refine⟨by simp;lia,λe=>?_,λe=>absurd i$ e.2 x ya⟩;simp[Pb]at e;lia
  ·have i:x ∉ s:=by simpa using h
   rw[show PyProof.Rows.step_dedup s x=s++[x] by unfold PyProof.Rows.step_dedup;rw[qa h]];obtain⟨g,d⟩:=aQ l (s++[x]);simp only[Ic,Pb,Jm]at g d;refine⟨by simp[Pb];lia,?_⟩;rw[Pb,show s.length+(l.length+1)=s.length+(0+1)+l.length by lia,d,lf];constructor
   ·rintro ⟨a,b⟩;refine⟨⟨λj=>(b x j) ⋯,a⟩,λy f=>?_⟩;rcases Fa.mp f with rfl|f;all_goals grind
   ·rintro ⟨⟨a,b⟩,c⟩;refine⟨b,λy f k=>?_⟩;all_goals grind
def ý l:((Rm l).length:Int)=(l.length:Int) ↔ l.Nodup:=by
 have:=(aQ l []).2;simp at this;unfold Rm;rw[<-this];lia
end
section
variable{ρ:Ev}{σ:Ca}
@[simp] theorem cW c n a b:Yo c n a b ρ σ=(b ρ σ).bind (vj c n a):=nr rfl
theorem VA(h:a.length+1=n):vj c n b a σ=bu σ.length (b (U σ.length::a)$ σ++[ϓ c []]):=by unfold vj;rw[ia h]
@[simp] theorem qM c b a:vj c 2 b [a] σ=bu σ.length (b [U σ.length,a]$ σ++[ϓ c []]):=VA rfl
@[simp] theorem zwk c d a b:vj c 3 d [a,b] σ=bu σ.length (d [U σ.length,a,b]$ σ++[ϓ c []]):=VA rfl
@[simp] theorem A9 c g a b d e f:vj c 6 g [a,b,d,e,f] σ=bu σ.length (g [U σ.length,a,b,d,e,f]$ σ++[ϓ c []]):=VA rfl
@[simp] theorem Yy n:bu n (Y Ϛ σ)=Y (U n) σ:=nr rfl
@[simp] theorem qT a f c b:Uk a f c b ρ σ=fk ρ (OK ρ a f b) (c ρ σ):=xk ..
@[simp] theorem cY a f b d:OK ρ a f b d σ=fk ρ (iy ρ a f d) (b ρ σ):=xk ..
theorem bC(h:cs.contains c=A3)(a:fs.length<1000):iy ρ cs f d (U σ.length) (σ++[ϓ c fs])=Y (Ϙ ρ) (σ++[ϓ c$ Mh f d fs]):=by
 have e:bz cs f d (U σ.length) (σ++[ϓ c fs])=Y () (σ++[ϓ c$ Mh f d fs]):=by
  have:(σ++[ϓ c fs])[σ.length]?=BD (ϓ c fs):=by simp
  unfold bz;simp only[this];rw[ia ⋯];simp
 unfold iy;rw[e]
def Pn(h:b.length=a.length):gk σ (Ϲ c b a)=BD (c,b.zip a):=by unfold gk;dsimp only;rw[ia h]
def Ih(h:gk σ x=BD (c,b))(e:a.contains c=A3)(g:b.lookup f=BD d):Mb a f x σ=Y d σ:=by
 unfold Mb;rw[h];dsimp only;rw[ia e,g]
@[simp] theorem IX b n m f a:Qd b n m f a ρ σ=(f ρ σ).bind (oj b n m$ a ρ):=nr rfl
theorem Tn(h:gk σ x=BD (c,d))(g:ur e c=BD a)(f:d.lookup m=L6):oj e n m b x σ=(b σ).bind (Ai n a x):=by
 unfold oj;rw[h];dsimp only;rw[g,f];rfl
def SF(h:a.length+1=n):Ai n b x a σ=b (x::a) σ:=by unfold Ai;rw[ia h]
@[simp] theorem zw6 a x:Ai 1 a x [] σ=a [x] σ:=SF rfl
@[simp] theorem π b x a:Ai 2 b x [a] σ=b [x,a] σ:=SF rfl
@[simp] theorem zw8 c x a b:Ai 3 c x [a,b] σ=c [x,a,b] σ:=SF rfl
@[simp] theorem zxa e x a b c d:Ai 5 e x [a,b,c,d] σ=e [x,a,b,c,d] σ:=SF rfl
theorem xJ(h:vf (a.map (·.2))=A3):lg σ (Y (U σ.length)$ σ++[ϓ c a])=Y (Ϲ c (a.map (·.1)) (a.map (·.2))) σ:=by
 unfold lg;dsimp only;rw[ia ⋯];have e:fz σ.length (σ++[ϓ c a]) 6 (U σ.length)=BD (Ϲ c (a.map (·.1)) (a.map (·.2))):=by
  unfold fz;dsimp only;rw[qa$ qd _];have:(σ++[ϓ c a])[σ.length]?=BD (ϓ c a):=by simp
  have i:∀ b (m:Nat),vf b=A3->Rl (fz σ.length (σ++[ϓ c a]) m) b=BD b:=by
   intro b m;induction b with
   |nil=>intro _;rfl
   |cons y b g=>
    intro f;have d:cl y=A3/\vf b=A3:=by simpa using f
    unfold Rl;rw[pC d.1,g d.2]
  simp_all
 rw[e]
@[simp] theorem yc6 c b a:cl (Ϲ c b a)=vf a:=by simp[cl]
@[simp] theorem zo4 i j:GF [Z i,Z j] σ=Y (Z$ max i j) σ:=nr rfl
@[simp] theorem zoy i:mz .str (ϐ i) σ=Y (ϒ A3) σ:=nr rfl
@[simp] theorem zox c:mz c Ϛ σ=Y (ϒ Ŷ) σ:=by cases c<;>rfl
end
end L4
namespace L4
open Spec Calls L2
def jJ(l:Addr)(j:Int):Heap->Prop:=λh=>∃ t u v,IsRange h l 0 j 1 t u v
theorem sW:∀ (l:b') (m:Nat),(∀ (j:Nat) v,l[j]?=BD v->∃ t,v=Qh ((m:Int)+(j:Int)) t)->de ((List.range' m l.length).map λ(k:Nat)=>ϣ k) l
 |[],m,_=>Ϥ
 |x::l,m,h=>by
  refine ϡ ?_ (sW l _ λj v e=>?_)
  ·obtain⟨t,e⟩:=h 0 x rfl;exact⟨t,by rw[e];simp⟩
  ·obtain⟨t,a⟩:=h (j+1) v ⋯;exact⟨t,by rw[a];congr 1;lia⟩
def m9:jm X (ki "range") (λxs H Q=>∃ j:Int,xs=[ϣ j]/\∀ l,H l=L6->Q (ϕ l) (Nb H l$ Ϧ$ jJ l j)):=by
 rintro f s st H xs m Q I r ⟨j,rfl,q⟩;obtain⟨u,rfl,g⟩:=Nq r;obtain⟨t,rfl⟩:=g;refine call_range_1 ⟨ϕ s.heap.objs.size,_,I.laid (λh h e=>da _ e) (pa _) ?_,rfl,q _$ I.lc.fresh$ pa _⟩;have d:(s.heap.push { cls:=ki "range",data:=ϩ #[Qh 0 s.toks,Qh j t,Qh 1 _] }).get? s.heap.objs.size=BD { cls:=ki "range",data:=ϩ #[Qh 0 s.toks,Qh j t,Qh 1 (s.toks+1)] }:=za _ rfl;exact⟨⟨_,_,_,d⟩,⟨_,d⟩,λh i ⟨a,b,c,e⟩ k=>⟨a,b,c,k _ e⟩⟩
def g8(y:X.gc=A3):jm X (ki "list") (λxs H Q=>∃ (p:Addr) (j:Int),xs=[ϕ p]/\H p=BD (Ϧ$ jJ p j)/\0<=j/\j<=1000/\∀ l,H l=L6->Q (ϕ l) (Nb H l$ ϯ$ (List.range' 0 j.toNat).map λ(k:Nat)=>ϣ k)):=by
 rintro h s st H xs F Q I r ⟨p,j,rfl,B,D,E,q⟩;obtain⟨u,rfl,rfl⟩:=Nq r;obtain⟨⟨a,b,c,e⟩,_,_⟩:=(I.lc p _ B)
 refine call_list_range (n:=j.toNat) (I.ok.hd y) e (small_one ⋯ ⋯ ⋯$ by lia) (by rw[r0];split<;>lia) ⋯ λh' tk d m A x f=>⟨ϕ s.heap.objs.size,_,I.laid A (pa _) ?_,rfl,q _$ I.lc.fresh$ pa _⟩
 obtain⟨C,z⟩:=f;have g:=sW d.toList 0 (λi v o=>by
  obtain⟨t,w⟩:=z i v (by simpa using o);exact⟨t,by rw[w];congr 1;lia⟩)
 rw[Db,C]at g;refine⟨?_,d.toList,m,g,?_⟩
 ·rw[Ra,List.length_range'];exact ub (show j.toNat<=1000 by lia) ⋯
 ·rw[x]
def MC(x:D):M D:=λa=>match x with
 | Z j=>if (decide (0<=j) && decide (j<=1000))=A3 then Y (ώ$ Oq j.toNat) a else ϗ
 |_=>ϗ
def Q4(C:X.gc=A3)(F:Gl X "list")(G:X.mg "list" = L6)(q:Gl X "range")(r:X.mg "range" = L6)(E:FE T X e f)
  (z:ka [e] X.env=(Ŷ,Cb e X.env)::ka [] X.env:=by rfl) (u:(Ub a$ ka [] X.env).any (·.1)=Ŷ:=by rfl)
  (i:ka [ϟ (ϛ "range" w) [e] [] a] X.env=(Ŷ,Cb (ϟ (ϛ "range" w) [e] [] a) X.env)::ka [] X.env:=by rfl) (g:(Ub n$ ka [] X.env).any (·.1)=Ŷ:=by rfl) :
  FE T X (ϟ (ϛ "list" p) [ϟ (ϛ "range" w) [e] [] a] [] n)$ Vc MC f:=by
 intro m s st H Q I h;refine rE (g8 C) F G boot_list (yr (rE m9 q r boot_range (yr E Nt z) ⋯ ⋯ z u) Nt i) ⋯ ⋯ i g m s st H Q I ?_;obtain⟨A,ρ,σ,B,K,ύ⟩:=h;refine⟨A,ρ,σ,B,K,ύ.bind λd P o v x D R N L b=>?_⟩;unfold MC at b;cases d with
 |int j=>
  dsimp only at b;by_cases c:(decide (0<=j) && decide (j<=1000))=A3
  ·rw[ia c]at b;simp at c;refine⟨j,by rw[bn L],λl y=>⟨l,j,rfl,qf,c.1,c.2,λS t=>?_⟩⟩;have O:Za T o (Nb x l$ Ϧ$ jJ l j) (Oq j.toNat) ((List.range' 0 j.toNat).map λ(k:Nat)=>ϣ k):=by
    rw[zjl];have:=pD (T:=T) (μ:=o) (H:=Nb x l$ Ϧ$ jJ l j) ((List.range' 0 j.toNat).map λ(k:Nat)=>k)
    rwa [Qb,Qb]at this
   exact jE (Kb.mono (qj y) b) (N.fresh y) O t
  ·rw[qa c]at b;exact b.elim
 |_=>exact b.elim
@[simp] theorem zi5 j(b:0<=j)(c:j<=1000) a:MC (Z j) a=Y (ώ$ Oq j.toNat) a:=by
 unfold MC;dsimp only;rw[ia (by simp[b,c])]
end L4
namespace L2
open Spec
section
variable{κ:Type}[DecidableEq κ]
noncomputable def il(a:List$ κ × V)(k:κ):Option V:=(a.find? λb=>decide$ b.1=k).map (·.2)
noncomputable def mm(a:List$ κ × V)(k:κ)(v:V):List$ κ × V:=
 if (a.any λkv=>decide$ kv.1=k)=A3 then a.map (λkv=>if kv.1=k then (kv.1,v)else kv)else a++[(k,v)]
noncomputable def fy(a:List$ κ × V)(k:κ):List$ κ × V:=a.filter λb=>decide$ b.1≠k
theorem Y3:il ([]:List (κ × V)) k=L6:=rfl
def EE{k:κ}(e:p.1=k):il (p::r) k=BD p.2:=by simp[il,Zd,e]
def nG{k:κ}(e:¬ p.1=k):il (p::r) k=il r k:=by simp[il,Zd,e]
theorem UT(k:κ):∀ a:List$ κ × V,(a.any λb=>decide$ b.1=k)=(il a k).isSome
 |[]=>rfl
 |p::r=>by
  rw[jf];by_cases e:p.1=k
  ·simp only[EE e,Ib e,Bool.true_or,Option.isSome_some]
  ·rw[nG e,Vb e,JB];exact UT k r
def YG a(k:κ) v:(mm a k v).length<=a.length+1:=by
 unfold mm;split
 ·rw[Ra];lia
 ·rw[Ic,Pb,Jm];lia
theorem xo.ug(r:xo o u):o.isSome=u.isSome:=by
 cases o with
 |none=>cases u with
  |none=>rfl
  |some _=>exact(show False from r).elim
 |some _=>cases u with
  |none=>exact(show False from r).elim
  |some _=>rfl
def KV.val(r:KV a g)(k:κ):xo (il a k)$ kl g k:=by
 unfold KV at r;induction r with
 |nil=>exact ϵ
 |@cons p q ps d h t j=>
  obtain⟨f,i⟩:=h;by_cases e:p.1=k
  ·have c:q.1=k:=f.symm.trans e;have b:kl (q::d) k=BD q.2:=by simp[kl,Zd,c]
   rw[EE e,b];exact i
  ·have c:¬ q.1=k:=λz=>e$ f.trans z;have b:kl (q::d) k=kl d k:=by simp[kl,Zd,c]
   rw[nG e,b];exact j
def KV.any(r:KV a c)(k:κ):(a.any λb=>decide$ b.1=k)=c.any λb=>decide$ b.1=k:=by
 unfold KV at r;induction r with
 |nil=>rfl
 |cons h t d=>rw[jf,jf,d,h.1]
def KV.Xz(r:KV b d)(k:κ)(i:gd y u) :
  KV (b.map λa=>if a.1=k then (a.1,y)else a) (d.map λa=>if a.1=k then (a.1,u)else a):=by
 unfold KV at r ⊢;induction r with
 |nil=>exact Ϥ
 |@cons p q ps j h t g=>
  rw[gb,gb];refine ϡ ?_ g;obtain⟨c,f⟩:=h;by_cases e:p.1=k
  ·rw[ia e,ia$ c.symm.trans e];exact⟨c,i⟩
  ·rw[qa e,qa (λz=>e$ c.trans z)];exact⟨c,f⟩
def KV.put(r:KV a b)(k:κ)(c:gd y u):KV (mm a k y)$ stored b k u:=by
 unfold mm stored;rw[r.any k];by_cases e:(b.any λd=>decide$ d.1=k)=A3
 ·rw[ia e,ia e];exact r.Xz k c
 ·rw[qa e,qa e];exact Paired.snoc r ⟨rfl,c⟩
def KV.drop(r:KV c g)(k:κ):KV (fy c k)$ without g k:=by
 unfold KV at r ⊢;unfold fy without;induction r with
 |nil=>exact Ϥ
 |@cons p q ps l h t f=>
  obtain⟨d,j⟩:=h;rw[Ue,Ue];by_cases e:p.1=k
  ·have a:¬ decide (p.1≠k)=A3:=by simp[e]
   have b:¬ decide (q.1≠k)=A3:=by simp[d.symm.trans e]
   rw[qa a,qa b];exact f
  ·have i:¬ q.1=k:=λz=>e$ d.trans z;have a:decide (p.1≠k)=A3:=by simp[e]
   have b:decide (q.1≠k)=A3:=by simp[i]
   rw[ia a,ia b];exact ϡ ⟨d,j⟩ f
def KV.length(r:KV a b):a.length=b.length:=Paired.length r
def IU a(k:κ):(fy a k).length<=a.length:=Er _ _
end
def Ox(r:gd (kV k) u):(ek P w).is k u=A3:=by
 cases k with
 |inl i=>obtain⟨t,e⟩:=(show ∃ t,u=Qh i t from r);subst e;exact zeg P w i t
 |inr x=>obtain⟨t,e⟩:=(show ∃ t,u=xp x t from r);subst e;exact L1 P w x t
abbrev KT(H:Hp):List (TK × V)->List (TK × Addr × Value)->Prop:=Paired λp q=>p.1=q.1/\NR H 5 (.inr p.1) (ϕ q.2.1)/\gd p.2 q.2.2
def KT.val(r:KT H a xs) k:xo (il a k) ((Kr xs k).map (·.2)):=by
 induction r with
 |nil=>exact ϵ
 |@cons p q ps d h t i=>
  obtain⟨f,_,g⟩:=h;by_cases e:p.1=k
  ·have c:q.1=k:=f.symm.trans e;have b:Kr (q::d) k=BD q.2:=by simp[Kr,Zd,c]
   rw[EE e,b];exact g
  ·have c:¬ q.1=k:=λz=>e$ f.trans z;have b:Kr (q::d) k=Kr d k:=by simp[Kr,Zd,c]
   rw[nG e,b];exact i
def KT.Xz(r:KT H a xs) k(i:gd y u) :
  KT H (a.map λc=>if c.1=k then (c.1,y)else c)$ xs.map$ putAt k u:=by
 induction r with
 |nil=>exact Ϥ
 |@cons p q ps j h t g=>
  rw[gb,gb];refine ϡ ?_ g;obtain⟨b,d,f⟩:=h;unfold putAt;by_cases e:p.1=k
  ·rw[ia e,ia$ b.symm.trans e];exact⟨b,d,i⟩
  ·rw[qa e,qa (λz=>e$ b.trans z)];exact⟨b,d,f⟩
def KT.put(r:KT H a xs) k(d:NR H 5 (.inr k)$ ϕ b)(c:gd y u) :
  KT H (mm a k y)$ storedH xs k b u:=by
 have e:(a.any λkv=>decide$ kv.1=k)=(Kr xs k).isSome:=by
  rw[UT,(r.val k).ug,nk]
 unfold mm storedH;rw[e];by_cases q:(Kr xs k).isSome=A3
 ·rw[ia q,ia q];exact r.Xz k c
 ·rw[qa q,qa q];exact Paired.snoc r ⟨rfl,d,c⟩
def KT.keeps(r:KT H a xs)(e:∀ b d,H b=BD (.Ha d)->c b=BD (.Ha d)):KT c a xs:=
 Paired.bq r λf f z=>⟨z.1,NR.keeps e 5 z.2.1,z.2.2⟩
section
variable{P:xa}{w:Ma}{H:Hp}{h:Heap}{a:Addr}
def VY(ok:Xh P w H h)(e:Rd H a u):Zj P w H h a u:=e.ok ok
def cu(ok:Xh P w H h)(e:Rd H a$ Ϝ b):b.length<=sizeLine/\(a == bf)=Ŷ/\∃ c,KV b c/\h.DictOf (ek P w) a c:=
 show Zj P w H h a (Ϝ b)from VY ok e
def KF(ok:Xh P w H h)(e:H a=BD (Ϝ b)):b.length<=sizeLine/\(a == bf)=Ŷ/\∃ c,KV b c/\h.DictOf (ek P w) a c:=cu ok$ ϖ e
theorem eS(ok:Xh P w H h):∀ (n:Nat) {k:NK n} {v:V} {u:Value},NR H n k v->gd v u->Qr P w h n k u
 |0,_,_,_,e,r=>by cases (show _=kV _ from e);exact Ox r
 |_+1,.inl _,_,_,e,r=>by cases (show _=kV _ from e);exact Ox r
 |n+1,.inr ks,_,_,e,r=>by
  obtain⟨b,a,rfl,e,p⟩:=e;cases (show _=xb b from r);obtain⟨_,d,q,t⟩:=(show Zj P w H h b (.Ha a)from ok b _ e)
  have f:∀ {ks:List$ NK n} {a:gV} {c:b'},Paired (NR H n) ks a->de a c->Paired (Qr P w h n) ks c:=by
   intro ks a c p;induction p generalizing c with
   |nil=>intro q;cases q;exact Ϥ
   |cons r _ g=>intro q;cases q with|cons i j=>exact ϡ (eS ok n r i)$ g j
  exact⟨b,d.toArray,rfl,t,by simpa using f p q⟩
theorem YE(ok:Xh P w H h)(e:NR H 5 (.inr ks)$ ϕ a):(yG P w).is h ks a:=eS ok 5 e rfl
def bF(ok:Xh P w H h)(e:Rd H a$ .dT b):b.length<=sizeLine/\(a == bf)=Ŷ/\
  ∃ xs,KT H b xs/\h.DictOfH (yG P w) a xs:=by
 obtain⟨z,y,xs,r,o,i,g,j,k,n,s,u⟩:=(show Zj P w H h a (.dT b)from VY ok e)
 refine⟨z,y,xs,r,o,i,g,j,k,n,s,λx c=>?_,u⟩;have d:∀ {l:List$ TK × V} {m:List$ TK × Addr × Value},KT H l m->∀ x∈m,(yG P w).is h x.1 x.2.1:=by
  intro l m q;induction q with
  |nil=>intro x c;exact nomatch c
  |@cons p q ps A f t v=>
   intro x c;rcases Fa.mp c with e|c
   ·subst e;exact YE ok (by rw[<-f.1];exact f.2.1)
   ·exact v x c
 exact d r x c
def T4(ok:Xh P w H h)(e:H a=BD (.dT b)):b.length<=sizeLine/\(a == bf)=Ŷ/\
  ∃ xs,KT H b xs/\h.DictOfH (yG P w) a xs:=bF ok$ ϖ e
end
def wj(H:Hp)(a:Addr)(y:V)(r:Option V):Prop:=
 (∃ c k,Rd H a (Ϝ c)/\y=kV k/\r=il c k)\/∃ c k b,Rd H a (.dT c)/\y=ϕ b/\NR H 5 (.inr k) (ϕ b)/\r=il c k
def pz(H:Hp)(a:Addr)(y v:V)(d:Hp):Prop:=
 (∃ c k,H a=BD (Ϝ c)/\y=kV k/\c.length<sizeLine/\d=Nb H a (Ϝ$ mm c k v))\/
 ∃ c k b,H a=BD (.dT c)/\y=ϕ b/\NR H 5 (.inr k) (ϕ b)/\c.length<sizeLine/\d=Nb H a (.dT$ mm c k v)
def wj.t(e:H a=BD (.dT c))(d:NR H 5 (.inr k)$ ϕ b):wj H a (ϕ b)$ il c k:=ϙ ⟨c,k,b,ϖ e,rfl,d,rfl⟩
def pz.k{H}{a}{b}{k}{v}(e:H a=BD (Ϝ b))(c:b.length<sizeLine):pz H a (kV k) v$ Nb H a$ Ϝ$ mm b k v:=ϖ ⟨b,k,e,rfl,c,rfl⟩
def pz.t{k}(e:H a=BD (.dT c))(d:NR H 5 (.inr k)$ ϕ b)(f:c.length<sizeLine) :
  pz H a (ϕ b) v$ Nb H a$ .dT$ mm c k v:=ϙ ⟨c,k,b,e,rfl,d,f,rfl⟩
section
variable{pins:List$ Addr × Obj}{σ:St}{H:Hp}{s:Shared}{a:Addr}{y v:V}{u r:Value}{o:Option V}{A:Ia}{E:Value->Shared->Prop}
def Ta.cM(I:Ta X pins σ H s):bf<s.heap.objs.size:=by
 have h:mainGlobals<s.heap.objs.size:=(I.mod.glob.keeps I.bk).lt;exact Gr ⋯ h
def G6(D:A.units+7<cLine)(I:Ta X pins σ H s)(g:wj H a y$ BD v)(r:gd y u)(h:∀ f t,Ta X pins σ H t->gd v f->Q f t) :
  wpAny (model X.prog X.w) A (qi (xb a) u) Q E s:=by
 rcases g with⟨q,k,e,j,l⟩|⟨q,k,b,e,j,x,l⟩
 ·subst j;obtain⟨z,hd,C,c,i⟩:=cu I.lc e;obtain⟨f,n,d⟩:=xo.some_of (v:=v) (o:=kl C k) (by rw[l];exact c.val k);exact wpAny_getItem_of (Ox r) i.mapOf n$ h f _ (I.tok _) d
 ·subst j;cases (show u=xb b from r);obtain⟨z,hd,xs,c,i⟩:=bF I.lc e;obtain⟨f,n,d⟩:=xo.some_of (v:=v) (o:=(Kr xs k).map (·.2)) (by rw[l];exact c.val k);obtain⟨p,B,m⟩:=Wa.mp n;refine wpAny_getItem_heap (show A.units+1+5<cLine by lia) (YE I.lc x) i B ?_;rw[m];exact h f _ (I.tok _) d
def l5(p:A.units+7<cLine)(I:Ta X pins σ H s)(g:wj H a y o)(j:gd y u)(h:∀ m,Ta X pins σ H m->Q (.bool o.isSome) m) :
  wpAny (model X.prog X.w) A (Eb .In u$ xb a) Q E s:=by
 rcases g with⟨i,k,e,f,l⟩|⟨i,k,b,e,f,n,l⟩
 ·subst f;obtain⟨z,hd,r,c,d⟩:=cu I.lc e;refine wpAny_in_of (Ox j) hd d.mapOf ?_;rw[<-(c.val k).ug,<-l];exact h _$ I.tok _
 ·subst f;cases (show u=xb b from j);obtain⟨z,hd,xs,c,d⟩:=bF I.lc e;refine wpAny_in_heap (show A.units+1+5<cLine by lia) (YE I.lc n) hd d ?_;have q:=(c.val k).ug;rw[nk]at q;rw[<-q,<-l];exact h _$ I.tok _
def zs0(p:A.units+7<cLine)(I:Ta X pins σ H s)(g:wj H a y o)(j:gd y u)(h:∀ m,Ta X pins σ H m->Q (.bool$ !o.isSome) m) :
  wpAny (model X.prog X.w) A (Eb .NotIn u$ xb a) Q E s:=by
 rcases g with⟨i,k,e,f,l⟩|⟨i,k,b,e,f,n,l⟩
 ·subst f;obtain⟨z,hd,r,c,d⟩:=cu I.lc e;refine wpAny_notIn_of (Ox j) hd d.mapOf ?_;rw[<-(c.val k).ug,<-l];exact h _$ I.tok _
 ·subst f;cases (show u=xb b from j);obtain⟨z,hd,xs,c,d⟩:=bF I.lc e;refine wpAny_notIn_heap (show A.units+1+5<cLine by lia) (YE I.lc n) hd d ?_;have q:=(c.val k).ug;rw[nk]at q;rw[<-q,<-l];exact h _$ I.tok _
def BC(I:Ta X pins σ H s)(i:sG$ H a)(h:md a s.heap h')(g:∃ q,h'.get? a=BD q)(c:Zj X.prog X.w (Nb H a d) h' a d) :
  Ta X pins σ (Nb H a d) { s with heap:=h',toks:=t' }:=
 I.write (x:=a) (e:=a) i (ϖ rfl) (λb q f z=>(h.2 b f).trans z) g c
def cC(z:b.length<=sizeLine)(hd:(a == bf)=Ŷ)(c:KV b d)(g:e.DictOf (ek P w) a d) :
  Zj P w f e a$ Ϝ b:=⟨z,hd,d,c,g⟩
def θ(T:A.units+7<cLine)(I:Ta X pins σ H s)(g:pz H a y v B)(G:gd y u)(F:gd v r)(h:∀ ύ,Ta X pins σ B ύ->Q () ύ) :
  wpAny (model X.prog X.w) A (Kq (xb a) u r) Q E s:=by
 rcases g with⟨d,k,e,o,l,n⟩|⟨d,k,b,e,o,C,l,n⟩
 ·subst o n;obtain⟨z,hd,S,f,m⟩:=KF I.lc e;have x:S.length<=sizeLine:=by rw[<-f.length];exact z
  have p:(mm d k v).length<=sizeLine:=by have:=YG d k v;lia
  refine wpAny_setItem_pairs (hsz:=x) (Ox G) m λh' i t=>h _ ?_;have R:∃ q,h'.get? a=BD q:=let ⟨q,_,_,j,_⟩:=i;⟨q,j⟩;exact BC I (by rw[e];exact ϵ) t R$ cC p hd (f.put k F) i
 ·subst o n;cases (show u=xb b from G);obtain⟨z,hd,xs,f,m⟩:=T4 I.lc e;have x:xs.length<=sizeLine:=by rw[<-Paired.length f];exact z
  have p:(mm d k v).length<=sizeLine:=by have:=YG d k v;lia
  refine wpAny_setItem_heap (hsz:=x) (show A.units+1+5<cLine by lia) (YE I.lc C) m λh' i t=>h _ ?_;obtain⟨q,L,K,j,M,N,O,_,P⟩:=i;refine BC I (by rw[e];exact ϵ) t ⟨q,j⟩ ⟨p,hd,_,(f.put k C F).keeps λc ϋ D=>?_,q,L,K,j,M,N,O,P⟩;rw[Vd$ aO D e (λz=>nomatch z)];exact D
end
section
variable{pins:List$ Addr × Obj}{σ:St}{H:Hp}{s:Shared}{a:Addr}{kvs:List$ Nc × V}{k:Nc}{u:Value}{A:Ia}{E:Value->Shared->Prop}
def zhf(I:Ta X pins σ H s)(e:H a=BD (Ϝ kvs))(m:gd (kV k) u)(l:(il kvs k).isSome=A3)(h:∀ f,Ta X pins σ (Nb H a$ Ϝ$ fy kvs k) f->Q () f) :
  wpAny (model X.prog X.w) A (delItem (xb a) u) Q E s:=by
 obtain⟨z,hd,n,b,d⟩:=KF I.lc e;refine wpAny_delItem_slot d.typeIs ⋯ Km
  (wh Km d.typeIs PySem.F.entry_dict_delitem (PySem.F.args_dict_delitem_2 _ _) (meets_dict_delitem_pairs (ek X.prog X.w) a$ Ox m) ⟨n,d,by rw[<-b.length];exact z,by rw[<-(b.val k).ug];exact l,λh' c j=>h _ ?_⟩)
 have g:∃ q,h'.get? a=BD q:=let ⟨q,_,_,i,_⟩:=c;⟨q,i⟩;exact BC I (by rw[e];exact ϵ) j g$ cC (ub (IU kvs k) z) hd (b.drop k) c
def Ę(I:Ta X pins σ H s)(e:H a=BD (Ϝ kvs))(j:gd (kV k) u)(l:il kvs k=BD v)(n:b=[]\/∃ x,b=[x])
  (h:∀ f p,Ta X pins σ (Nb H a$ Ϝ$ fy kvs k) p->gd v f->Q f p):wpAny (model X.prog X.w) A (call (Ϟ "dict.pop")$ xb a::u::b) Q E s:=by
 obtain⟨z,hd,r,c,m⟩:=KF I.lc e;obtain⟨f,ύ,g⟩:=xo.some_of (v:=v) (o:=kl r k) (by rw[<-l];exact c.val k);have C:(keyPart u).isSome=A3:=by
  cases k with
  |inl i=>obtain⟨t,q⟩:=(show ∃ t,u=Qh i t from j);subst q;rfl
  |inr x=>obtain⟨t,q⟩:=(show ∃ t,u=xp x t from j);subst q;rfl
 have y:Lr "dict.pop" ⟨xb a::u::b,[]⟩:=by
  rcases n with q|⟨x,q⟩
  ·subst q;exact PySem.F.args_dict_pop_2 _ _
  ·subst q;exact PySem.F.args_dict_pop_3 _ _ _
 refine wh pp m.typeIs PySem.F.entry_dict_pop y (meets_dict_pop_there (ek X.prog X.w) a (Ox j) b n C)
  ⟨r,f,m,by rw[<-c.length];exact z,ύ,λh' d G=>h f _ ?_ g⟩
 have B:∃ q,h'.get? a=BD q:=let ⟨q,_,_,D,_⟩:=d;⟨q,D⟩;exact BC I (by rw[e];exact ϵ) G B$ cC (ub (IU kvs k) z) hd (c.drop k) d
end
def KP(i:Ja):Prop:=∀ b a,Ap i Ŷ b a=operate [b,a] (qi b a)
def O1{T u}
  (q:typeLookup (ki T) "__getitem__" = pure (BD$ Ϟ u)) (t:KP b)
  (h:wpAny (model a w) A (Cb c j) (λo f=>wpAny (model a w) A (Cb b j) (λi d=>d.TypeIs o T/\wpAny (model a w) A (qi o i) Q E d) E f) E s) :
  wpAny (model a w) A (Cb (Ϣ c b n) j) Q E s:=by
 refine HB (dc h (λo f l=>dc l (λi d e=>?_) λv v x=>x) λv v x=>x);obtain⟨p,e⟩:=e;unfold A1;refine aa ?_;rw[getitemInPython_of_ne p.not_modules];refine aa$ eh p q ?_;have k:wpAny (model a w) A (Ap b Ŷ o i) (λr g=>wpAny (model a w) A (letTemporaryGo c o r >>= λv=>pure r) Q E g) E d:=by
  rw[t o i];exact wpAny_operating (dc e (λr g m=>aa$ wpAny_letTemporaryGo$ ga m) λv v x=>x)
 first
  |exact ga$ aa k
  |exact aa$ ga$ aa k
  |exact aa k
def zdu(I:Ta X c h H s)(g:wj H a y o):s.TypeIs (xb a) "dict":=by
 rcases g with⟨f,k,e,_,_⟩|⟨f,k,b,e,_,_,_⟩
 ·obtain⟨_,_,i,_,d⟩:=cu I.lc e;exact d.typeIs
 ·obtain⟨_,_,xs,_,d⟩:=bF I.lc e;exact d.typeIs
noncomputable def X1(e ty:TE):TE:=λc H Q=>e c H λx d=>ty c d λy b=>∃ a v,x=ϕ a/\wj b a y (BD v)/\Q v b
section
variable{o i e value:Ja}{pos pos' tpos:Td}{td ty tv:TE}
def ε(p:X.A.units+7<cLine)(m:PE X o td)(l:PE X i ty)(n:KP i):PE X (Ϣ o i pos)$ X1 td ty:=by
 intro b s e H Q I h;refine O1 PySem.F.slot_dict_getitem.lookup n (ud (m b s e H _ I h) λu s1 ⟨x,H1,j,t,q⟩=>ud (l b s1 e H1 _ j q) λz s2 ⟨y,f,d,w,a,v,ex,g,r⟩=>?_);subst ex;obtain rfl:u=xb a:=t;exact⟨zdu d g,G6 p d g w λC B k c=>⟨v,f,k,c,r⟩⟩
end
def Ŀ(h:Heap)(a:bf<h.objs.size):Zj P w H (h.push { cls:=ki "dict",data:=.dict #[] }) h.objs.size$ Ϝ []:=
 ⟨Dh _,jd.mpr$ Jd$ va a,[],Ϥ,aR h⟩
def zli(h:Heap)(a:bf<h.objs.size):Zj P w H (h.push { cls:=ki "dict",data:=.dict #[] }) h.objs.size$ .dT []:=
 ⟨Dh _,jd.mpr$ Jd$ va a,[],Ϥ,_,#[],0,za _ rfl,⟨rfl,rfl,rfl⟩,rfl,rfl,oe⟩
def ykg:TE:=λa H Q=>∀ p,H p=L6->Q (ϕ p) (Nb H p$ Ϝ [])
def ykh:TE:=λa H Q=>∀ p,H p=L6->Q (ϕ p) (Nb H p$ .dT [])
section
variable{pos:Td}
def ZT:PE X (.Dict [] [] pos) ykg:=λb s c H Q I h=>
 KG ⟨ϕ s.heap.objs.size,_,I.laid (a:=s.heap.objs.size) (o:=Ϝ []) (t':=s.toks) (λb b q=>da _ q) (pa _)$ Ŀ s.heap I.cM,rfl,h _$ I.lc.fresh$ pa _⟩
def j5:PE X (.Dict [] [] pos) ykh:=λb s c H Q I h=>
 KG ⟨ϕ s.heap.objs.size,_,I.laid (a:=s.heap.objs.size) (o:=.dT []) (t':=s.toks) (λb b q=>da _ q) (pa _)$ zli s.heap I.cM,rfl,h _$ I.lc.fresh$ pa _⟩
end
section
variable{pins:List$ Addr × Obj}{σ:St}{H:Hp}{s:Shared}{a:Addr}{kvs:List$ Nc × V}{A:Ia}{E:Value->Shared->Prop}
def Δ(I:Ta X pins σ H s)(e:Rd H a$ Ϝ kvs)(h:∀ p g,H p=L6->Ta X pins σ (Nb H p$ Ϝ kvs) g->Q (xb p) g):wpAny (model X.prog X.w) A (call (ki "dict") [xb a]) Q E s:=by
 obtain⟨z,hd,k,c,i⟩:=cu I.lc e;refine kt_call_dict hd i (by rw[<-c.length];exact z) λh' d j=>?_;refine h _ _ (I.lc.fresh$ pa _)$ I.laid (a:=s.heap.objs.size) (o:=Ϝ kvs) (t':=s.toks) (λb q f=>?_) (pa _)$ cC z (jd.mpr$ Jd$ va I.cM) c d;exact(j.2 b$ va$ ua f).trans$ da _ f
end
end L2
namespace L4
open Spec L2
noncomputable def Vi:D->Option Nc
 | Z i=>BD (.inl i)
 | ϐ x=>BD (.inr x)
 |_=>L6
noncomputable def mi(b:Ca):D->Option (List$ Nc × D)
 | Ϭ ks xs=>if ks.length=xs.length then BD (ks.zip xs)else L6
 | U n=>(match b[n]? with
  |some (J a)=>BD a
  |some (Ϡ a)=>BD a
  |_=>L6)
 |_=>L6
noncomputable def Rn(a:List$ Nc × D)(k:Nc):Option D:=(a.find? λb=>decide$ b.1=k).map (·.2)
noncomputable def Dm(a:List$ Nc × D)(k:Nc)(d:D):List$ Nc × D:=
 if a.any (λb=>decide$ b.1=k)then a.map λb=>if b.1=k then (b.1,d)else b else a++[(k,d)]
section
variable{μ:ad}{H:Hp}
def tz(h:Ka T μ H y v)(e:Vi y=BD k):v=kV k:=by
 cases y<;>simp[Vi]at e<;>subst e<;>rw[Ka]at h<;>exact h
theorem BG:∀ {ks:List Nc} {ds:g'} {a:List$ Nc × V},a.map (·.1)=ks->Za T μ H ds (a.map (·.2))->Wg T μ H (ks.zip ds) a
 |ks,[],a,c,b=>by
  rw[Za]at b;have:a=[]:=by simpa using b
  subst this;rw[<-c];exact Ϥ
 |ks,d::ds,a,c,b=>by
  obtain⟨v,r,e,f,g⟩:=b;cases a with
  |nil=>cases e
  |cons p a=>
   cases e;rw[<-c];exact ϡ ⟨rfl,f⟩$ BG rfl g
def wz(r:Xc T μ H i)(h:Ka T μ H x v)(e:mi i x=BD f):∃ a b,v=ϕ a/\Rd H a (Ϝ b)/\Wg T μ H f b:=by
 cases x with
 |Aa ks xs=>
  obtain⟨a,b,rfl,_,c,d,j⟩:=h;unfold mi at e;dsimp only at e;split at e
  ·cases e;exact⟨a,b,rfl,c,BG d j⟩
  ·cases e
 |ref n=>
  unfold mi at e;dsimp only at e;cases q:i[n]? with
  |none=>simp_all
  |some o=>
   rw[q]at e;cases o with
   |Aa g=>
    cases e;obtain⟨a,rfl,_,b,c,d⟩:=r.at h q;exact⟨a,b,rfl,ϖ c,d⟩
   |Fb g=>
    cases e;obtain⟨a,rfl,_,ob,b,c,d⟩:=r.at h q;exact⟨a,b,rfl,ϙ ⟨ob,c⟩,d⟩
   |_=>cases e
 |_=>cases e
def IC(h:Wg T μ H a c) k:(Rn a k=L6/\il c k=L6)\/∃ d v,Rn a k=BD d/\il c k=BD v/\Ka T μ H d v:=by
 induction h with
 |nil=>exact ϖ ⟨rfl,rfl⟩
 |@cons p q ps l h t j=>
  obtain⟨g,i⟩:=h;by_cases e:p.1=k
  ·have b:=g.symm.trans e;exact ϙ ⟨p.2,q.2,by unfold Rn;rw[Zd,Ib e];rfl,EE b,i⟩
  ·have b:=λz=>e$ g.trans z;have f:Rn (p::ps) k=Rn ps k:=by unfold Rn;rw[Zd,Vb e]
   rw[f,nG b];exact j
def ħ(h:Wg T μ H a c) k:(a.any λb=>decide$ b.1=k)=(c.any λb=>decide$ b.1=k):=by
 induction h with
 |nil=>rfl
 |@cons p q ps e h t d=>simp_all
theorem MS{d e:Type}{F:d->e->Prop}{f:d->d}{g:e->e}(c:∀ a b,F a b->F (f a) (g b)):∀ {l:List d} {m:List e},Paired F l m->Paired F (l.map f) (m.map g)
 |_,_,Ϥ=>Ϥ
 |_,_,ϡ h t=>ϡ (c _ _ h) (MS c t)
theorem kY{d e:Type}{F:d->e->Prop}{a:d}{b:e}(c:F a b):∀ {l:List d} {m:List e},Paired F l m->Paired F (l++[a]) (m++[b])
 |_,_,Ϥ=>ϡ c Ϥ
 |_,_,ϡ h t=>ϡ h (kY c t)
def OM(h:Wg T μ H a b) k(hd:Ka T μ H d v):Wg T μ H (Dm a k d)$ mm b k v:=by
 unfold Dm mm;rw[ħ h k];split
 ·refine MS (λp q h=>?_) h;by_cases e:p.1=k;all_goals simp_all
 ·exact kY ⟨rfl,hd⟩ h
def Wg.mono(e:pd μ H b c)(h:Wg T μ H a d):Wg T b c a d:=Paired.bq h λf f z=>⟨z.1,Ka.mono e _ _ z.2⟩
def _root_.L2.wj.kr(e:Rd H a$ Ϝ b):wj H a (kV k)$ il b k:=ϖ ⟨b,k,e,rfl,rfl⟩
def Dl(x y:D):M D:=λb=>match Vi y with
 |some k=>(match mi b x with
  |some a=>(match Rn a k with
   |some d=>Y d b
   |none=>ϗ)
  |none=>ϗ)
 |none=>ϗ
def fP(ϊ:X.A.units+9<cLine)(E:FE T X o n)(C:FE T X i fi)(ύ:KP i):FE T X (Ϣ o i g)$ Sa Dl n fi:=by
 intro c s st H Q I h;refine ε ⋯ E C ύ c s st H Q I ?_;obtain⟨μ,ρ,V,p,G,F⟩:=h;refine⟨μ,ρ,V,p,G,F.bind λx m l v W D r P N L=>⟨l,ρ,m,p.mono r,P,L.bind λy σ2 ϋ u ό D t q O b=>?_⟩⟩;unfold Dl at b;cases f:Vi y with
 |none=>rw[f]at b;exact b.elim
 |some k=>
  rw[f]at b;cases e:mi σ2 x with
  |none=>rw[e]at b;exact b.elim
  |some K=>
   rw[e]at b;dsimp only at b;obtain⟨a,vs,rfl,z,B⟩:=wz q (Ka.mono t _ _ N) e;obtain rfl:=tz O f;rcases IC B k with⟨j,_⟩|⟨d,w,j,R,S⟩
   ·rw[j]at b;exact b.elim
   ·rw[j]at b;exact⟨a,w,rfl,by rw[<-R];exact wj.kr z,Kb.here b q S⟩
noncomputable def bP:R2:=λy x H Q=>∃ a o,x=ϕ a/\wj H a y o/\Q (ϫ o.isSome) H
def bI(f:X.A.units+9<cLine):Ch X (Eb .In) bP:=by
 rintro b s j H y x h u Q I e d ⟨a,o,rfl,g,q⟩;obtain rfl:u=xb a:=d;exact l5 ⋯ I g e λi c=>⟨ϫ o.isSome,H,c,rfl,q⟩
def tq(y x:D):M D:=λb=>match Vi y with
 |some k=>(match mi b x with
  |some a=>Y (ϒ (Rn a k).isSome) b
  |none=>ϗ)
 |none=>ϗ
theorem pY:zk T bP tq:=by
 intro E μ H m y x u v Q r q p h;unfold tq at h;cases c:Vi y with
 |none=>rw[c]at h;exact h.elim
 |some k=>
  rw[c]at h;cases b:mi m x with
  |none=>rw[b]at h;exact h.elim
  |some j=>
   rw[b]at h;obtain⟨a,l,rfl,g,i⟩:=wz r p b;obtain rfl:=tz q c;refine⟨a,il l k,rfl,wj.kr g,Kb.here h r ?_⟩;rcases IC i k with⟨e,f⟩|⟨d,w,e,f,n⟩
   ·rw[e,f];rfl
   ·rw[e,f];rfl
noncomputable def R1:QH:=λx y v H Q=>∃ a b,x=ϕ a/\pz H a y v b/\Q b
def YU(k:X.A.units+9<cLine):OQ X R1:=by
 rintro b s st H o i v e l u Q I h f j ⟨a,c,rfl,g,q⟩;obtain rfl:e=xb a:=h;exact θ ⋯ I g f j λm d=>⟨c,d,q⟩
def Ln(ρ:Ev)(d x:D)(y:D):M Fl:=λb=>match x with
 | U n=>(match Vi y with
  |some k=>(match b[n]? with
   |some (J a)=>if a.length<Yf then Y (Ϙ ρ) (b.set n$ J$ Dm a k d)else ϗ
   |_=>ϗ)
  |none=>ϗ)
 |_=>ϗ
def QO(ρ:Ev)(a:Ev->M D)(d x:D):M Fl:=xs ρ (a ρ)$ Ln ρ d x
def qL(ρ:Ev)(b a:Ev->M D)(d:D):M Fl:=xs ρ (b ρ)$ QO ρ a d
def Wq(f c b:Ev->M D):Ev->M Fl:=λa=>xs a (f a)$ qL a c b
def xP(hu:X.A.units+9<cLine)(ϊ:FE T X e f)(ho:FE T X o Q)(hi:FE T X i fi)
  (ό:∀ v,Mi (Ϣ o i b) X.env v=(do
   let t <-Od [v] (Cb o X.env);let F <-Od [v,t] (Cb i X.env)
   Kg b
   Od [v,t,F] (Kq t F v)
   dE [v,t,F] []):=by intro _;rfl)
  (hs:Ni [Ϣ o i b] e p.line X.env=pure Ŷ:=by rfl) (hw:Oi [Ϣ o i b] e X.env=pure L6:=by rfl)
  (W:(Gd [Ϣ o i b] X.env).map (·.2)=[Mi (Ϣ o i b) X.env]:=by rfl):FS T X (.Assign [Ϣ o i b] e p)$ Wq f Q fi:=by
 intro m s st H D I hq;refine qH ϊ (KO ho hi (YU hu) ό) hs hw W m s st H D I ?_;obtain⟨μ,ρ,σ,g,hr,hp⟩:=hq;refine⟨μ,ρ,σ,g,hr,hp.xs g λd L ύ v H1 d h r1 q1 p1=>⟨ύ,ρ,L,g.mono h,r1,p1.xs (g.mono h) λx N K vo H2 d r r2 q2 p2=>⟨K,ρ,N,(g.mono h).mono r,r2,p2.xs ((g.mono h).mono r) λy O q vi P d u ϋ q3 c=>?_⟩⟩⟩;have hx:=Ka.mono u _ _ q2;unfold Ln at c;cases x with
 |ref n=>
  dsimp only at c;cases w:Vi y with
  |none=>rw[w]at c;exact c.elim
  |some k=>
   rw[w]at c;cases B:O[n]? with
   |none=>rw[B]at c;exact c.elim
   |some ob=>
    rw[B]at c;cases ob with
    |Aa l=>
     dsimp only at c;by_cases E:l.length<Yf
     ·rw[ia E]at c;obtain⟨a,rfl,S,V,R,C⟩:=ϋ.at hx B;obtain rfl:=tz q3 w;have G:=ϋ.write (ob:=J _) S ⟨_,qf,by
       have ex:pd q P q$ Nb P a$ Ϝ$ mm V k v:=Js (wa S) R (λd z=>by cases z) (λd d z=>by cases z);exact OM (Wg.mono ex C) k$ Ka.mono ex _ _$ Ka.mono u _ _$ Ka.mono r _ _ q1⟩
      have j:V.length=l.length:=by unfold Wg at C;exact(Paired.length C).symm
      exact⟨a,_,rfl,pz.k R (by rw[j];exact Ga E ⋯),c _ (ϸ st) _ G.1 G.2$ ((g.mono h).mono r).mono u |>.mono G.1⟩
     ·rw[qa E]at c;exact c.elim
    |_=>exact c.elim
 |_=>exact c.elim
noncomputable def Rp:Ev->M D:=λb a=>Y (U a.length)$ a++[J []]
def Ω:FE T X (.Dict [] [] b) Rp:=by
 rintro a s f H Q I ⟨μ,h,i,g,d,e⟩;exact ZT a s f H Q I λp c=>(e _ _ _ (iw c) (d.push c ⟨[],qf,Ϥ⟩)$ KC d)
def AX:FE T X (.Dict [] [] c)$ eC$ Ϭ [] []:=by
 rintro a s h H Q I ⟨μ,j,k,i,d,g⟩;exact ZT a s h H Q I λp b=>(g μ _ _ (qj b) (d.fresh b)$ by rw[Ka];exact⟨p,[],rfl,λf=>(by obtain⟨u,e,_⟩:=d.mem f;rw[b]at e;cases e),(ϖ qf),rfl,Za.nil⟩)
def YN:gV->Hp->VK->Prop:=λxs H Q=>∃ a b,xs=[ϕ a]/\Rd H a (Ϝ b)/\∀ p,H p=L6->Q (ϕ p) (Nb H p$ Ϝ b)
def eU:jm X (ki "dict") YN:=by
 rintro b s h H xs i Q I r ⟨a,f,rfl,e,q⟩;obtain⟨u,rfl,rfl⟩:=Nq r;exact Δ I e λp g d c=>⟨ϕ p,_,c,rfl,q p d⟩
def zB(c:g'):M D:=λb=>match c with
 |[x]=>(match mi b x with
  |some a=>Y (Ϭ (a.map (·.1)) (a.map (·.2))) b
  |none=>ϗ)
 |_=>ϗ
theorem FR:∀ {a:List$ Nc × D} {b:List$ Nc × V},Wg T μ H a b->b.map (·.1)=a.map (·.1)/\Za T μ H (a.map (·.2)) (b.map (·.2)):=by
 intro _ _ h;induction h with
 |nil=>exact⟨rfl,Za.nil⟩
 |cons h _ i=>exact⟨by rw[gb,gb,i.1,h.1],Za.cons h.2 i.2⟩
def L7:br T YN zB:=by
 intro E μ H o e s Q r p h
 match e with
 |[]=>trivial
 |[x]=>
  unfold zB at h;dsimp only at h;cases c:mi o x with
  |none=>rw[c]at h;exact h.elim
  |some j=>
   rw[c]at h;obtain⟨v,q,rfl,k,rfl⟩:=p;obtain⟨a,ws,rfl,f,g⟩:=wz r k c;refine⟨a,ws,rfl,f,λl b=>?_⟩;obtain⟨m,n⟩:=FR g;exact h μ _ _ (qj b) (r.fresh b) (by rw[Ka];exact⟨l,ws,rfl,λi=>(by obtain⟨u,d,_⟩:=r.mem i;rw[b]at d;cases d),(ϖ qf),m,Za.mono (qj b) _ _ n⟩)
 |_::_::_=>trivial
end
structure InK(K:ϔ)(C:Addr):Prop where
 cl:L2.pr K C
 a:W.findIn K (xb C) "__class__" = BD (BD (Ϟ "object.__class__"))
 n:W.specialIn K (Ϟ "object.__class__") "__get__" = BD (BD (Ϟ "getset_descriptor.__get__"))
 t:W.takesIn K (Ϟ "object.__class__")=BD A3
 m:W.mroIn K C (ki "object")=BD A3
def Ú(K:ϔ)(c:Addr):gV->Hp->VK->Prop:=λxs H Q=>∃ a C d e b,xs=[ϕ a,ϕ c]/\H a=BD (.jb C d e)/\InK K C/\Ϫ K (xb C) (xb c)=BD b/\Q (ϫ b) H
def Ā:jm X (Ϟ "isinstance")$ Ú X.K cv:=by
 rintro c s i H xs j Q I r ⟨a,C,g,h,b,rfl,d,ϊ,e,q⟩;obtain⟨u,u2,rfl,f,rfl⟩:=aH r;exact hZ I f (.jb d ϊ.cl ϊ.a ϊ.n ϊ.t ϊ.m) e λtk=>⟨ϫ b,H,I.tok _,rfl,q⟩
noncomputable def lG(t:Nat->Option Bool)(x:D):M D:=λa=>match gk a x with
 |some (c,_)=>(match t c with|some b=>Y (ϒ b) a|none=>ϗ)
 |none=>ϗ
def WJ(K:ϔ)(a:Nat->Addr)(b:Addr)(l:List$ Nat × Bool):Prop:=∀ p∈l,InK K (a p.1)/\Ϫ K (xb$ a p.1) (xb b)=BD p.2
def yfz{K}:WJ K a b []:=λc h=>nomatch h
def zw{K}(z:InK K$ a c)(h:Ϫ K (xb$ a c) (xb d)=BD b)(r:WJ K a d l):WJ K a d$ (c,b)::l:=λp e=>by
 rcases Fa.mp e with rfl|e
 ·exact⟨z,h⟩
 ·exact r p e
def v5(hK:T.K=X.K)(F:FE T X e f)(G:Gl X "isinstance")(ύ:X.mg "isinstance" = L6)(q:Gl X y)(o:(y == ("__debug__" : Str))=Ŷ)(E:X.mg y=BD (xb g))
  (O:WJ X.K T.ca g l)
  (u:ka [e,ϛ y k] X.env=(Ŷ,Cb e X.env)::ka [ϛ y k] X.env:=by rfl) (r:(Ub j$ ka [ϛ y k] X.env).any (·.1)=Ŷ:=by rfl) :
  FE T X (ϟ (ϛ "isinstance" p) [e,ϛ y k] [] j)$ Vc (lG$ sy l) f:=by
 intro i s R H Q I h;refine dG (Ā (cv:=g)) G ύ jK (yr F (yr (qI (v:=ϕ g) q E rfl o) Nt) u) ⋯ ⋯ u r i s R H Q I ?_;obtain⟨W,ϊ,σ,C,N,L⟩:=h;refine⟨W,ϊ,σ,C,N,L.bind λx t ό v H1 D e1 w P d=>?_⟩;unfold lG at d;cases m:gk t x with
 |none=>rw[m]at d;exact d.elim
 |some z=>
  obtain⟨c,fs⟩:=z;rw[m]at d;dsimp only at d;cases n:sy l c with
  |none=>rw[n]at d;exact d.elim
  |some b=>
   rw[n]at d;obtain⟨a,A,S,rfl,B,_⟩:=Kz w P m;obtain⟨ϋ,V⟩:=O _ (xQ n);exact⟨a,T.ca c,A,S,b,rfl,B,ϋ,V,Kb.here d w (by rw[Ka])⟩
def Ý(h:gk a x=BD (c,d))(e:sy l c=BD b):lG (sy l) x a=Y (ϒ b) a:=by
 unfold lG;rw[h];dsimp only;rw[e]
noncomputable def EC(o:Int->Int->Int)(i:Nat)(ρ:Ev)(x d:D):M Fl:=λc=>match x,d with
 | Z a,Z b=>Y (Ϙ$ ρ.set i$ BD$ Z$ o a b) c
 |_,_=>ϗ
def Hw(o:Int->Int->Int)(i:Nat)(f:Ev->M D):Ev->M Fl:=λa=>match a[i]? with
 |some (BD x)=>xs a (f a) (EC o i a x)
 |_=>λb=>ϗ
def yK(h:a[i]?=BD (BD x)):Hw o i f a b=fk a (EC o i a x) (f a b):=by
 unfold Hw;rw[h];exact xk ..
@[simp] theorem zsd o i c a b d:EC o i c (Z a) (Z b) d=Y (Ϙ$ c.set i$ BD$ Z$ o a b) d:=nr rfl
section
variable{e:Ja}{f:Ev->M D}{pos:Td}
def QT(C:DQ X n$ mU o)(w:X.N.Nodup)(B:X.N[i]?=BD x)(G:Loc X.env.scope x)(z:FE T X e f)(A:X.fn x=A3\/X.env.scope.names.lookup x=BD .local:=by first|exact .inl rfl|exact .inr rfl|assumption) :
  FS T X (.AugAssign (ϛ x j) n e pos)$ Hw o i f:=by
 intro h s st H D I F;refine ĸ w B G z C A h s st H D I ?_;obtain⟨L,p,O,l,E,c⟩:=F;unfold Hw at c;cases k:p[i]? with
 |none=>rw[k]at c;exact c.elim
 |some q=>
  cases q with
  |none=>rw[k]at c;exact c.elim
  |some d=>
   rw[k]at c;obtain⟨v,t,u⟩:=l.2 i d k;refine⟨v,t,L,p,O,l,E,c.xs l λy P M R Q J r K ύ m=>?_⟩;cases d with
   |int a=>
    cases y with
    |int b=>
     subst u ύ;exact⟨a,b,rfl,rfl,Kb.here (g:=ϸ _) m K$ (l.mono r).set i (by rw[Ka])⟩
    |_=>exact m.elim
   |_=>exact m.elim
end
def zx(o:D->g'->M D)(m:M$ g')(x:D):M D:=λa=>match mi a x with
 |some _=>Lc m (o x) a
 |none=>ϗ
def AF(o:D->g'->M D)(f:Ev->M D)(b:Ev->M (g')):Ev->M D:=λa=>Lc (f a)$ zx o$ b a
def ZV:V->gV->Hp->VK->Prop:=λx c H Q=>∃ a b k d,x=ϕ a/\c=[kV k,d]/\H a=BD (Ϝ b)/\b.length<sizeLine/\
 (∀ v,il b k=BD v->Q v H)/\(il b k=L6->Q d (Nb H a$ Ϝ$ mm b k d))
def BA(x:D)(xs:g'):M D:=λb=>match x,xs with
 | U n,[y,d]=>(match Vi y with
  |some k=>(match b[n]? with
   |some (J a)=>if a.length<Yf then (match Rn a k with
    |some e=>Y e b
    |none=>Y d (b.set n$ J$ Dm a k d))else ϗ
   |_=>ϗ)
  |none=>ϗ)
 |_,_=>ϗ
section
variable{o e:Ja}{es:List Ja}{f:Ev->M D}{fs:Ev->M (g')}{name:Str}{apos cpos:Td}{id:String}{r:V->gV->Hp->VK->Prop}{g:D->g'->M D}
def Y4:qw X "dict.setdefault" ZV:=by
 rintro j s st H x K v ύ Q I E D ⟨a,b,k,d,rfl,rfl,i,G,m,n⟩;cases E;obtain⟨u,r,rfl,C,l⟩:=D.two;obtain⟨z,hd,ws,c,h⟩:=KF I.lc i;have B:ws.length<=sizeLine:=by rw[<-c.length];exact z
 have g:(mm b k d).length<=sizeLine:=by have:=YG b k d;lia
 refine wh Pl h.typeIs PySem.F.entry_dict_setdefault (PySem.F.args_dict_setdefault_3 _ _ _) (kt_meets_setdefault _ a (Ox C) hd r) ⟨ws,h,B,λw A=>?_,λp h' f y=>?_⟩
 ·have q:=c.val k;rw[A]at q;cases e:il b k with
  |none=>rw[e]at q;exact absurd q (by simp[xo])
  |some x=>rw[e]at q;exact⟨x,H,I.tok _,q,m x e⟩
 ·have q:=c.val k;rw[p]at q;cases e:il b k with
  |some x=>rw[e]at q;exact absurd q (by simp[xo])
  |none=>
   have o:∃ q,h'.get? a=BD q:=let ⟨q,_,_,t,_⟩:=f;⟨q,t⟩;exact⟨d,_,BC I (by rw[i];exact ϵ) y o$ cC g hd (c.put k l) f,l,n e⟩
def QX(I:Ta X b h H s)(g:Rd H p$ Ϝ c):s.TypeIs (xb p) "dict"/\∀ a,xb p=xb a->∃ d,s.heap.get? a=BD d/\d.dict=L6:=by
 obtain⟨_,_,_,_,o,_,_,e,ex,_⟩:=cu I.lc g;refine⟨⟨o,e,ex.1⟩,λa f=>?_⟩;cases f;exact⟨o,e,ex.2.1⟩
def xae(r:V->gV->Hp->VK->Prop)(d:TE):TE:=λe H Q=>d e H λx c=>(∃ a b,x=ϕ a/\Rd c a (Ϝ b))/\r x [] c Q
def v7(r:V->gV->Hp->VK->Prop)(f:TE)(t:TA):TE:=λd H Q=>f d H λx c=>(∃ a b,x=ϕ a/\Rd c a (Ϝ b))/\t d c λxs e=>r x xs e Q
def xO(t:ym "dict")(e:lR "dict" name id)(f:Wv (Ϟ id)=pure (ki "method_descriptor"))(n:qw X id r)(p:PE X o i)
  (c:Wc o name X.env (Cb o X.env)=Cb o X.env:=by rfl) (d:(apos.endLine == cpos.line)=A3:=by rfl):PE X (ϟ (ϝ o name apos) [] [] cpos)$ xae r i:=by
 intro b s j H Q I h;refine wpAny_Call_method0_late c d (ud (p b s j H _ I h) λv s1 ſ=>?_);obtain⟨x,H1,g,w,ty,u⟩:=ſ;obtain⟨a,q,rfl,m⟩:=ty;cases w;obtain⟨k,l⟩:=QX g m;exact⟨"dict",id,t,e,f,k,l,ji rfl$ PySem.evalArgs_none$ n b s1 j H1 (ϕ a) [] (xb a) [] Q g rfl Ϥ u⟩
def yii(E:ym "dict")(g:lR "dict" name id)(j:Wv (Ϟ id)=pure (ki "method_descriptor"))(A:qw X id r)(B:PE X o n)(y:PA X (e::es) t)
  (c:Wc o name X.env (Cb o X.env)=Cb o X.env:=by rfl)
  (f:((Ub cpos$ ka (e::es) X.env).all (λx=>!x.1) && (Pg cpos$ Fe [] X.env).all (λx=>x.1.isSome)
   && decide ((e::es).length+([]:List Aj).length+(if ([]:List Aj).isEmpty then 0 else 1)<30))=A3:=by rfl)
  (d:(apos.endLine == cpos.line)=A3:=by rfl) (C:ka (e::es) X.env=(Ŷ,Cb e X.env)::ka es X.env:=by rfl) (i:(Ub cpos$ ka es X.env).any (·.1)=Ŷ:=by rfl) :
  PE X (ϟ (ϝ o name apos) (e::es) [] cpos)$ v7 r n t:=by
 intro b s k H Q I h;refine Qv c f d rfl (ud (B b s k H _ I h) λv s1 ſ=>?_);obtain⟨x,H1,l,ύ,ty,F⟩:=ſ;obtain⟨a,D,rfl,z⟩:=ty;cases ύ;obtain⟨u,w⟩:=QX l z;refine⟨"dict",id,E,g,j,u,w,?_⟩;have m:=y cpos b s1 k H1 _ l F;rw[C]at m ⊢;exact ji ⋯$ ej (ud m λus s2 ⟨L,p,q,K,G⟩=>A b s2 k p (ϕ a) L _ us Q q rfl K G)
def wM(P:ym "dict")(l:lR "dict" name id)(q:Wv (Ϟ id)=pure (ki "method_descriptor"))(ύ:qw X id r)(N:lB T r g)(K:FE T X o f)(G:FA T X (e::es) fs)
  (c:Wc o name X.env (Cb o X.env)=Cb o X.env:=by rfl)
  (i:((Ub cpos$ ka (e::es) X.env).all (λx=>!x.1) && (Pg cpos$ Fe [] X.env).all (λx=>x.1.isSome)
   && decide ((e::es).length+([]:List Aj).length+(if ([]:List Aj).isEmpty then 0 else 1)<30))=A3:=by rfl)
  (d:(apos.endLine == cpos.line)=A3:=by rfl) (p:ka (e::es) X.env=(Ŷ,Cb e X.env)::ka es X.env:=by rfl) (b:(Ub cpos$ ka es X.env).any (·.1)=Ŷ:=by rfl) :
  FE T X (ϟ (ϝ o name apos) (e::es) [] cpos)$ AF g f fs:=by
 intro j s ϋ H Q I h;refine yii P l q ύ K G c i d p b j s ϋ H Q I ?_;obtain⟨W,A,ό,w,M,L⟩:=h;refine⟨W,A,ό,w,M,L.bind λx m t v ϊ J D z y k=>?_⟩;unfold zx at k;cases n:mi m x with
 |none=>rw[n]at k;exact k.elim
 |some xs=>
  rw[n]at k;obtain⟨a,V,rfl,F,h2⟩:=wz z y n;exact⟨⟨a,V,rfl,F⟩,t,A,m,w.mono D,z,k.bind λC σ2 u ws B J E S O R=>(N _ u B σ2 x C _ ws Q S (Ka.mono E _ _ y) O R)⟩
def T1:lB T ZV BA:=by
 intro E G H M x xs v N Q r p q h;cases x with
 |ref n=>
  match xs with
  |[]=>exact h.elim
  |[_]=>exact h.elim
  |[y,d]=>
   obtain⟨w,z,rfl,ύ,K⟩:=q;obtain⟨D,f,rfl,B,C⟩:=K;rw[Za]at C;subst C;unfold BA at h;cases m:Vi y with
   |none=>simp[m]at h;exact h.elim
   |some k=>
    simp[m]at h;cases b:M[n]? with
    |none=>simp[b]at h;exact h.elim
    |some ob=>
     cases ob with
     |Aa j=>
      simp[b]at h;by_cases o:j.length<Yf
      ·rw[ia o]at h;obtain⟨a,rfl,A,s,u,g⟩:=r.at p b;obtain rfl:=tz ύ m;have i:s.length=j.length:=by unfold Wg at g;exact(Paired.length g).symm
       refine⟨a,s,k,D,rfl,rfl,u,by rw[i];exact RX o,λv e=>?_,λe=>?_⟩
       ·rcases IC g k with⟨l,f⟩|⟨I,L,l,f,F⟩
        ·rw[f]at e;cases e
        ·rw[f]at e;cases e;rw[l]at h;exact Kb.here h r F
       ·rcases IC g k with⟨l,f⟩|⟨I,L,l,f,F⟩
        ·rw[l]at h;have t:=r.write (ob:=J _) A ⟨_,qf,by
          have ex:pd G H G$ Nb H a$ Ϝ$ mm s k D:=Js (wa A) u (λP z=>by cases z) (λP P z=>by cases z);exact OM (Wg.mono ex g) k$ Ka.mono ex _ _ B⟩
         exact h _ _ _ t.1 t.2$ Ka.mono t.1 _ _ B
        ·rw[f]at e;cases e
      ·rw[qa o]at h;exact h.elim
     |na O=>simp[b]at h;exact h.elim
     |jb c fs=>simp[b]at h;exact h.elim
     |Fb _=>simp only[b]at h;exact h.elim
     |Je _=>simp only[b]at h;exact h.elim
  |_::_::_::_=>exact h.elim
 |_=>exact h.elim
end
def ax(a:Ca)(x:D):g'->Option (List Bool)
 |[]=>BD []
 |y::c=>match Uj a 7 y x,ax a x c with
  |some b,BD bs=>BD (b::bs)
  |_,_=>L6
def uG(a:Bool)(x y:D):M D:=λb=>match zi b y with
 |some xs=>(match ax b x xs with
  |some bs=>Y (ϒ$ if a then !(bs.any id)else bs.any id) b
  |none=>ϗ)
 |none=>ϗ
theorem lU{a:Ca}{x:D}:∀ {xs:g'} {bs:List Bool},ax a x xs=BD bs->bs.length=xs.length/\∀ (j:Nat) (d:D) (b:Bool),xs[j]?=BD d->bs[j]?=BD b->Uj a 7 d x=BD b
 |[],bs,h=>by cases h;exact⟨rfl,λj d b h=>by simp at h⟩
 |y::k,bs,h=>by
  unfold ax at h;cases f:Uj a 7 y x with
  |none=>simp_all
  |some l=>
   cases c:ax a x k with
   |none=>simp_all
   |some e=>
    rw[f,c]at h;cases h;obtain⟨g,i⟩:=lU c;refine⟨by simp[g],λj d b hd m=>?_⟩;cases j with
    |zero=>simp_all
    |succ j=>exact i j d b (by trivial) (by trivial)
open Classical in
def yD(a:b')(b:List Bool)(u:Value):Bool:=decide$ ∃ j:Nat,a[j]?=BD u/\b[j]?=BD A3
def sH:yD a b u=A3 ↔ ∃ j:Nat,a[j]?=BD u/\b[j]?=BD A3:=by unfold yD;exact @decide_eq_true_iff _$ Classical.propDecidable _
def wR{a:b'}(k:c.length=a.length):a.toArray.any (yD a c)=c.any id:=by
 rw[show a.toArray.any _=a.any (yD a c) by simp,Xd,Ld,Ld];constructor
 ·rintro ⟨u,_,i⟩;obtain⟨j,_,h⟩:=sH.mp i;exact⟨A3,wa h,rfl⟩
 ·rintro ⟨b,d,g⟩;cases (g);obtain⟨j,f,h⟩:=Dt d;have e:j<a.length:=by lia
  exact⟨a[j],di e,sH.mpr ⟨j,by simp,by simp[f,h]⟩⟩
def Ŏ(m:c.length=a.length)(h:∀ (j:Nat) u b,a[j]?=BD u->c[j]?=BD b->Hc A s u x b) w(k:w∈a):Hc A s w x$ yD a c w:=by
 cases e:yD a c w with
 |true=>obtain⟨j,f,g⟩:=sH.mp e;exact h j w A3 f g
 |false=>
  obtain⟨j,d,rfl⟩:=Dt k;have i:j<c.length:=by lia
  have l:c[j]=Ŷ:=by
   cases q:c[j]with
   |false=>rfl
   |true=>exact absurd (sH.mpr ⟨j,Va d,by rw[Va i,q]⟩) ⋯
  exact h j _ Ŷ (Va d) ⋯
def zve(ύ:T.K=X.K)(ϋ:X.A.units+9<cLine){st}(I:Ta X m st H s)(r:Xc T B H σ)(M:Ka T B H x v)(N:Ka T B H y u)(P:gd v n)(O:gd u t)
  {xs} (e:zi σ y=BD xs) (G:ax σ x xs=BD h) :
  (Q (.bool$ h.any id) s->wpAny (model X.prog X.w) X.A (Eb .In n t) Q X.xe s)/\(Q (.bool$ !h.any id) s->wpAny (model X.prog X.w) X.A (Eb .NotIn n t) Q X.xe s):=by
 obtain⟨p,S,rfl,C,f⟩:=iB r N e;rw[ύ]at f;obtain⟨ϊ,L⟩:=lU G;cases O;have l:∀ {a:b'},de S a->(h.length=a.length/\∀ w∈a,Hc X.A.in1 s w n _):=fun {a} q=>by
  have W:=C.length;have ό:=q.length;have g:h.length=a.length:=by lia
  refine⟨g,Ŏ g λj w b c o=>?_⟩;obtain⟨z,E,R⟩:=dI q c;obtain⟨d,F,rd⟩:=mO C E;exact jH I r 7 X.A.in1 d x z v w n b ⋯ rd M R P$ L j d b F o
 rcases f with f|f
 ·apply b_;intro z_;obtain⟨a,q,pl,_⟩:=L2.Ta.list I f;obtain⟨g,k⟩:=l q;apply z_;refine⟨λi=>Qw _ pl.isList (λw c=>k w (by simpa using c)) ?_,λi=>Bt _ pl.isList (λw c=>k w ⋯) ?_⟩<;>rw[wR g]<;>exact i
 ·apply b_;intro z_;obtain⟨a,q,pl,_⟩:=L2.Ta.tuple I f;obtain⟨g,k⟩:=l q;apply z_;refine⟨λi=>Ov _ pl (λw c=>k w (by simpa using c)) ?_,λi=>Ds _ pl (λw c=>k w ⋯) ?_⟩<;>rw[wR g]<;>exact i
def VU(f:T.K=X.K)(g:X.A.units+9<cLine):Ch X (Eb .In)$ rD T$ uG Ŷ:=by
 rintro c s st H v u m l Q I k j ⟨E,n,d,x,y,r,h,i,a⟩;unfold uG at a;cases e:zi d y with
 |none=>rw[e]at a;exact a.elim
 |some xs=>
  rw[e]at a;dsimp only at a;cases b:ax d x xs with
  |none=>rw[b]at a;exact a.elim
  |some bs=>
   rw[b]at a;exact(zve f g I r h i k j e b).1 ⟨ϫ _,H,I,rfl,Kb.here a r (by rw[Ka];rfl)⟩
noncomputable def NQ:Ev->M D:=λa a=>ϗ
noncomputable def Xl:Ev->M Fl:=λa a=>ϗ
def JN:FE T X e NQ:=λpins s st H Q I ⟨b,c,σ,_,_,a⟩=>a.elim
section
variable{pins:List$ Addr × Obj}{σ:St}{H:Hp}{s:Shared}{h':Heap}
def pF(e:H b=BD u)(n:H a=L6):b≠a:=λz=>by rw[z,n]at e;cases e
def _root_.L2.Ta.Ou{a:ad}(I:Ta X pins σ H s)(k:∀ b u,b ∉ a->s.heap.get? b=BD u->h'.get? b=BD u)(h:∀ b∈a,xl X pins H b)(j:s.heap.objs.size<=p)(i:Zj X.prog X.w (Nb H p o) h' p o) :
  Ta X pins σ (Nb H p o) { s with heap:=h',toks:=t' }:=by
 have f:=I.lc.fresh j;have E:∀ b u,H b=BD u->b ∉ a:=λb u e z=>by rw[(h b z).1]at e;cases e
 refine I.step (λb g=>?_) (λb o m m d e m=>k b o d e) (λb o m m d e m=>⟨o.slots,k b o d e⟩) (λb u m q n=>by rw[Vd$ va$ Ga (ua q) j];exact n)
  (λb o d e=>⟨o,k b o d e⟩) (λb xs q=>by rw[Vd$ pF q f];exact q) (λb u xs q=>by rw[Vd$ pF q f];exact q) (λb ps q=>⟨#[],by rw[Vd$ pF q f,q];simp⟩) (λm C=>?_) (λb u e=>?_) I.bare
 ·obtain⟨f0,x,F,y,A,B⟩:=h b g;exact⟨y,x,A,B⟩
 ·obtain⟨o,t,l,D,r⟩:=C;exact⟨o,t,l,k _ o (λz=>(h _ z).2.1 rfl) D,r⟩
 ·by_cases g:b=p
  ·subst g;rw[qf]at e;cases e;exact i
  ·rw[Vd g]at e;refine(I.lc b u e).Dk (λc v d q=>k c v ?_ q) (λc q=>by rw[Vd$ pF q f];exact q) λc xs q=>by rw[Vd$ pF q f];exact q
   grind
def _root_.L2.Ta.vv{a:ad}(I:Ta X pins σ H s)(k:∀ b u,b ∉ a->s.heap.get? b=BD u->h'.get? b=BD u)(f:∀ b∈a,xl X pins H b):Ta X pins σ H { s with heap:=h',toks:=t' }:=by
 have y:∀ b u,H b=BD u->b ∉ a:=λb u e z=>by rw[(f b z).1]at e;cases e
 refine I.step (λb t=>?_) (λb o m m d e m=>k b o d e) (λb o m m d e m=>⟨o.slots,k b o d e⟩) (λb u m q n=>n)
  (λb o d e=>⟨o,k b o d e⟩) (λb xs q=>q) (λb u xs q=>q) (λb ps q=>⟨#[],by rw[q];simp⟩) (λm w=>?_) (λb u e=>?_) I.bare
 ·obtain⟨f0,i,A,j,l,p⟩:=f b t;exact⟨j,i,l,p⟩
 ·obtain⟨o,h,g,x,r⟩:=w;exact⟨o,h,g,k _ o (λz=>(f _ z).2.1 rfl) x,r⟩
 ·refine(I.lc b u e).Dk (λc v d q=>k c v ?_ q) (λm q=>q) λm m q=>q
  grind
end
def uo{h:Heap}(e:h.get? a=BD o)(i:h.get? b=BD f)(c:o.cls=ki n)(g:f.cls=ki d)(j:n≠d):a≠b:=λz=>by
 simp_all
noncomputable def vT(K:ϔ)(l:Addr):It:=
 ⟨λi H=>∃ xs x,He K H l xs/\xs[i]?=BD x,λi H v a=>∃ p x,H p=L6/\v=ϕ p/\(∀ xs,He K H l xs->xs[i]?=BD x)/\a=Nb H p (.Ha [ϣ i,x]),λi H=>∃ xs,He K H l xs/\i=xs.length⟩
noncomputable def sX(K:ϔ)(l m:Addr):It:=
 ⟨λi H=>∃ xs a x y,He K H l xs/\He K H m a/\xs[i]?=BD x/\a[i]?=BD y,λi H v b=>∃ p x y,H p=L6/\v=ϕ p/\(∀ xs,He K H l xs->xs[i]?=BD x)/\(∀ a,He K H m a->a[i]?=BD y)/\b=Nb H p (.Ha [x,y]),
  λi H=>∃ xs a,He K H l xs/\He K H m a/\i=min xs.length a.length⟩
def Ą{P:xa}{w:Ma}{K:PySem.W.Frag}{j:List Ja}{kk:Nat}{F:Td}(l e r:Addr):Xm P w K (ϰ j kk F) (vT K l) [e,r] e (λi h=>(∃ a,IsEnum h e r i a)/\h.IsListIter r l i) where
 mem:=by simp
 obj:=λi h st b f=>by
  obtain⟨⟨a,s1⟩,o,s2,c,d⟩:=st;simp only[Fa,Ve,qp]at f;rcases f with rfl|rfl;all_goals grind
 keep:=λi h h' st k=>by
  obtain⟨⟨a,s1⟩,s2⟩:=st;exact⟨⟨a,k e ⋯ _ s1⟩,s2.at λo q=>k r ⋯ o q⟩
 item:=by
  intro X O V N S i D s σ H E I ύ st ϋ;subst O V N;obtain⟨xs,x,L,ό⟩:=ϋ;obtain⟨g,rv,p,hz⟩:=I.list L;obtain⟨u,hu,ru⟩:=rv.get ό;obtain⟨⟨a,s1⟩,s2⟩:=st;obtain⟨oa,ea,ca,_⟩:=id p.isList;obtain⟨ob,G,cb,_⟩:=id s2;have a0:l≠e:=uo ea s1 ca rfl ⋯;have a1:l≠r:=uo ea G ca cb ⋯;have ϊ:e≠r:=uo s1 G rfl cb ⋯;have W:=WalksT.enumerate (prog:=X.prog) (w:=X.w) (I.ok.hd S) e r l ϊ a0 a1 g.toArray;have hi:i<g.toArray.size:=by
   have:=(ba.mp hu).1;omega
  refine W.item i s _ E hi ⟨⟨a,s1⟩,s2,p.isList⟩ λT a2 h' tk R hT v m hk=>?_;obtain⟨t,y,M,rfl⟩:=R;have ey:y=u:=by
   have:g.toArray[i]?=BD u:=by simpa using hu
   rw[this]at M;cases M;rfl
  subst ey;refine⟨xb T,rfl,W.go j kk F i T { s with heap:=h',toks:=tk } _ E m λh2 hS C=>?_⟩;have B:=W.apart i T h' m;have n:h2.IsTuple T #[Qh i t,y]:=by
   obtain⟨o,e1,c1⟩:=v;exact⟨o,C T o B e1,c1⟩
  have hn:H T=L6:=I.lc.fresh hT;refine⟨ϕ T,Nb H T _,I.Ou (λb o f q=>C b o f$ hk b o f q) ύ hT ?_,rfl,⟨T,x,hn,rfl,λys M=>by rw[I.Sj M L];exact ό,rfl⟩,⟨hS.1,hS.2.1⟩,λb f=>?_⟩
  ·exact⟨(show 2<=sizeLine by decide),[Qh i t,y],ϡ ⟨t,rfl⟩$ ϡ ru Ϥ,n⟩
  ·rw[Vd (λz=>B (by rw[<-z];exact f))];exact(ύ b f).1
 done:=by
  intro X O V N S i D s σ H E I ύ st ϋ;subst O V N;obtain⟨xs,L,ό⟩:=ϋ;obtain⟨g,rv,p,hz⟩:=I.list L;obtain⟨⟨a,s1⟩,s2⟩:=st;have hl:=rv.length;exact wpAny_pyNext_enum_end (I.ok.hd S) s1 s2 p.isList (by simp;lia) λh' G=>⟨rfl,I.vv (λb o f q=>G b o (λz=>f (by simp[z])) q) ύ⟩
 self:=λA i s Q E st h=>by
  obtain⟨⟨a,s1⟩,s2⟩:=st;exact XD s1 h
def yU{l m z TI TO r s}{xs B}(t:TI≠TO)(u:r≠s)(w:h.IsList l xs)(x:h.IsList m B)(s1:IsZip h z TI TO f)(s2:nR h TI a b)(k:nR h TO c d)(y:h.IsListIter r l k1)(A:h.IsListIter s m v):ZipApart z TI TO r s l m:=by
 obtain⟨C,p,n,_⟩:=w;obtain⟨D,q,o,_⟩:=x;obtain⟨E,i,e,_⟩:=y;obtain⟨F,j,g,_⟩:=A;exact⟨uo s2 s1 rfl rfl ⋯,uo k s1 rfl rfl ⋯,uo i s1 e rfl ⋯,uo j s1 g rfl ⋯,t,uo s2 i rfl e ⋯,uo s2 j rfl g ⋯,uo k i rfl e ⋯,uo k j rfl g ⋯,u,
  uo p s1 n rfl ⋯,uo p k n rfl ⋯,uo p i n e ⋯,uo p j n g ⋯,uo q s1 o rfl ⋯,uo q k o rfl ⋯,uo q i o e ⋯,uo q j o g ⋯⟩
def Φ{P:xa}{w:Ma}{K:PySem.W.Frag}{D:List Ja}{kk:Nat}{a0:Td}(l m z TI TO g j:Addr)(d1:TI≠TO)(d2:g≠j) :
  Xm P w K (ϰ D kk a0) (sX K l m) [z,TI,TO,g,j] z (λi h=>IsZip h z TI TO Yb/\nR h TI (xb g) (xb j)/\(∃ a b,nR h TO a b)/\h.IsListIter g l i/\h.IsListIter j m i) where
 mem:=by simp
 obj:=λi h st b e=>by
  obtain⟨s1,s2,⟨a,c,n⟩,⟨o4,r,c4,d4⟩,⟨o5,t,c5,d5⟩⟩:=st;simp at e;rcases e with rfl|rfl|rfl|rfl|rfl
  ·exact⟨_,s1,λv z=>by cases z⟩
  ·exact⟨_,s2,λv z=>by cases z⟩
  ·exact⟨_,n,λv z=>by cases z⟩
  ·exact⟨o4,r,λv z=>by rw[d4]at z;cases z⟩
  ·exact⟨o5,t,λv z=>by rw[d5]at z;cases z⟩
 keep:=λi h h' st k=>by
  obtain⟨s1,s2,⟨a,c,n⟩,r,t⟩:=st;exact⟨k z ⋯ _ s1,k TI ⋯ _ s2,⟨a,c,k TO ⋯ _ n⟩,r.at λo q=>k g ⋯ o q,t.at λo q=>k j ⋯ o q⟩
 item:=by
  intro X hP hw hK hc i ϊ s σ H E I hf st hg;subst hP hw hK;obtain⟨xs,ys,x,y,hq,B,hx,hy⟩:=hg;obtain⟨f,rv,p,V⟩:=I.list hq;obtain⟨d,ύ,ό,a2⟩:=I.list B;obtain⟨u,hu,ru⟩:=rv.get hx;obtain⟨u2,R,a4⟩:=ύ.get hy;obtain⟨s1,s2,⟨a,c,n⟩,r,t⟩:=st;have W:=LB (prog:=X.prog) (w:=X.w) (I.ok.hd hc) z TI TO g j l m (yU d1 d2 p.isList ό.isList s1 s2 n r t) f.toArray d.toArray;have hi:i<min f.toArray.size d.toArray.size:=by
   have h1:=(ba.mp hu).1;have h2:=(ba.mp R).1;simp;lia
  refine W.item i s _ E hi ⟨s1,s2,⟨a,c,n⟩,r,t,p.isList,ό.isList⟩ λT a5 h' tk a1 hT M F hk=>?_;obtain⟨v1,v2,S,ϋ,rfl⟩:=a1;have e1:v1=u:=by
   have:f.toArray[i]?=BD u:=by simpa using hu
   rw[this]at S;cases S;rfl
  have e2:v2=u2:=by
   have:d.toArray[i]?=BD u2:=by simpa using R
   rw[this]at ϋ;cases ϋ;rfl
  subst e1;subst e2;refine⟨xb T,rfl,W.go D kk a0 i T { s with heap:=h',toks:=tk } _ E F λh2 L N=>?_⟩;have G:h2.IsTuple T #[v1,v2]:=by
   obtain⟨o,e1,c1⟩:=M;exact⟨o,N T o (W.apart i T h' F) e1,c1⟩
  have hn:H T=L6:=I.lc.fresh hT;have C:∀ b,b ∉ [z,TI,TO,g,j]->b ∉ [z,TO,g,j]:=λb e O=>e (by simp at O ⊢;rcases O with h|h|h|h<;>simp[h]);have a3:∀ b∈[z,TI,TO,g,j],b<s.heap.objs.size:=λb e=>by
   simp at e;rcases e with rfl|rfl|rfl|rfl|rfl
   ·exact ua s1
   ·exact ua s2
   ·exact ua n
   ·obtain⟨o,q,_⟩:=r;exact ua q
   ·obtain⟨o,q,_⟩:=t;exact ua q
  refine⟨ϕ T,Nb H T _,I.Ou (λb o e q=>N b o (C b e)$ hk b o (C b e) q) hf hT ?_,rfl,⟨T,x,y,hn,rfl,λzs V=>by rw[I.Sj V hq];exact hx,λzs V=>by rw[I.Sj V B];exact hy,rfl⟩,⟨L.1,L.2.1,L.2.2.1,L.2.2.2.1,L.2.2.2.2.1⟩,λb e=>?_⟩
  ·exact⟨(show (2:Nat)<=sizeLine by decide),[v1,v2],ϡ ru$ ϡ a4 Ϥ,G⟩
  ·rw[Vd$ va$ Ga (a3 b e) hT];exact(hf b e).1
 done:=by
  intro X hP hw hK hc i ϊ s σ H E I hf st hg;subst hP hw hK;obtain⟨xs,ys,hq,B,hx⟩:=hg;obtain⟨f,rv,p,V⟩:=I.list hq;obtain⟨d,ύ,ό,a2⟩:=I.list B;obtain⟨s1,s2,⟨a,c,n⟩,r,t⟩:=st;have hl:=rv.length;have a6:=ύ.length;have ei:i=min f.toArray.size d.toArray.size:=by simp;lia
  subst ei;have C:∀ b,b ∉ [z,TI,TO,g,j]->b ∉ [z,TO,g,j]:=λb e O=>e (by simp at O ⊢;rcases O with h|h|h|h<;>simp[h]);exact(LB (prog:=X.prog) (w:=X.w) (A:=X.A) (I.ok.hd hc) z TI TO g j l m (yU d1 d2 p.isList ό.isList s1 s2 n r t) f.toArray d.toArray).done s _ E ⟨s1,s2,⟨a,c,n⟩,r,t,p.isList,ό.isList⟩ λh' tk hk=>⟨rfl,I.vv (t':=tk) (λb o e q=>hk b o (C b e) q) hf⟩
 self:=λA i s Q E st h=>LG st.1 h
abbrev NX:=Nat->Ca->Option (Option D)
def rz(T:Tb)(c:ad)(f:Hp)(nx:NX)(ύ:It):Prop:=∀ a H e i,pd c f a H->Xc T a H e->match nx i e with
 |none=>True
 |some L6=>ύ.stop i H
 |some (BD d)=>ύ.go i H/\∀ x b,ύ.RC i H x b->pd a H a b/\Xc T a b e/\Ka T a b d x
def S5(T:Tb)(X:Cx)(f:Ev->M NX):TI:=λb H R=>∃ a c d,sh T a H c b/\Xc T a H d/\Kb T (XE X b) (rz T) a H (f c d) R
abbrev Zq(T:Tb)(X:Cx)(b a:Ja)(f:Ev->M NX):Prop:=PI X b a$ S5 T X f
def wq(nx:NX)(e:D->Ev->Option Ev)(a:Ev->M Fl):Nat->Nat->Ev->M Fl
 |0,_,_=>pb
 |k+1,i,f=>λc=>match nx i c with
  |none=>ϗ
  |some L6=>Y (Ϙ f) c
  |some (BD d)=>match e d f with
   |none=>ϗ
   |some b=>Lc (a b) (Kt$ wq nx e a k$ i+1) c
def bW(b:D->Ev->Option Ev)(a:Ev->M Fl)(c:Ev)(nx:NX):M Fl:=wq nx b a 1001 0 c
def rm(b:Ev->M NX)(d:D->Ev->Option Ev)(a:Ev->M Fl):Ev->M Fl:=λc=>xs c (b c)$ bW d a c
section
variable{tgt iter:Ja}{body:List Stmt}{src:Ev->M NX}{t:D->Ev->Option Ev}{g:Ev->M Fl}{pos:Td}
def SA(L:ij (model X.prog X.w) X.A X.env X.xe)(hc:X.gc=A3)(hi:Zq T X tgt iter src)(hg:FG T X tgt t)(ϊ:rl T X body g)
  (hs:∀ x,ie iter X.env x=pure x:=by intro _;rfl):FS T X (.For tgt iter body [] pos)$ rm src t g:=by
 intro u s st H D I hq;refine ZR L hc hi hg ϊ hs u s st H D I ?_;obtain⟨b,n,q,E,hr,L⟩:=hq;refine⟨b,n,q,E,hr,L.xs E λnx P k ύ R J W r1 q1 p1=>?_⟩;refine⟨λi m f p=>∃ b n q,pd k R b p/\sh T b p n f/\Xc T b p q/\Kb T EN _ b p (wq nx t g m i n q) _,⟨1001,k,n,P,ϭ _ _,E.mono W,r1,p1⟩,?_⟩;rintro i m f p ⟨l,v,σ2,ex,r,S,a⟩;cases m with
 |zero=>exact a.elim
 |succ m=>
  unfold wq at a;have B:=q1 l p σ2 i ex S;cases C:nx i σ2 with
  |none=>simp only[C]at a;exact a.elim
  |some o=>
   cases o with
   |none=>
    simp only[C]at a B;exact ϖ ⟨B,Kb.here (g:=ϸ f) a S r⟩
   |some d=>
    simp only[C]at a B;obtain⟨K,hy⟩:=B;refine ϙ ⟨K,λj c=>∃ b n q,pd k R b c/\sh T b c n j/\Xc T b c q/\Kb T EN _ b c _ (dr X D),λj c h=>⟨m,yb _,h⟩,λx c y=>?_⟩;obtain⟨e,ϋ,hx⟩:=hy x c y;cases M:t d v with
    |none=>simp only[M]at a;exact a.elim
    |some z=>
     simp only[M]at a;exact⟨l,σ2,v,d,z,r.mono e,ϋ,hx,M,λj F=>⟨l,z,σ2,F,ϋ,(Kb.mono e a).bind λfl Q N gl H4 J ό V q4 p4=>ZI V q4 p4 λO a0 G p5=>⟨N,O,Q,(ex.trans e).trans ό,G,V,p5⟩⟩⟩
end
def Ts(a:D):NX:=λi b=>match Bf b a with
 |some xs=>(match xs[i]? with
  |some x=>BD (BD$ Ϗ [Z (i:Int),x])
  |none=>if i=xs.length then BD L6 else L6)
 |none=>L6
def rJ(a b:D):NX:=λi d=>match Bf d a with
 |some xs=>(match Bf d b with
  |some c=>(match xs[i]? with
   |some x=>(match c[i]? with
    |some y=>BD (BD$ Ϗ [x,y])
    |none=>if i=min xs.length c.length then BD L6 else L6)
   |none=>if i=min xs.length c.length then BD L6 else L6)
  |none=>L6)
 |none=>L6
def Xy(d:D):M NX:=λa=>match Bf a d with
 |some _=>Y (Ts d) a
 |none=>ϗ
def sx(f:Ev->M D):Ev->M NX:=λa=>Lc (f a) Xy
def eZ(a b:D):M NX:=λc=>match Bf c a with
 |some _=>(match Bf c b with
  |some _=>Y (rJ a b) c
  |none=>ϗ)
 |none=>ϗ
def zV(m:M D)(a:D):M NX:=Lc m$ eZ a
def BM(f g:Ev->M D):Ev->M NX:=λa=>Lc (f a)$ zV$ g a
section
variable{elts:List Ja}{kk:Nat}{p0 p pos:Td}{f g:Ev->M D}
def U2:bootBuiltins "enumerate" = BD (ki "enumerate"):=by decide +kernel
def ó:bootBuiltins "zip" = BD (ki "zip"):=by decide +kernel
def X9(K:ϔ)(b:TA):TI:=λd H R=>b d H λc a=>∃ l xs,c=[ϕ l]/\He K a l xs/\R (vT K l) a
def ů(o:Gl X "enumerate")(t:X.mg "enumerate" = L6)(n:PA X [a] j)(v:ka [a] X.env=[(Ŷ,Cb a X.env)]:=by rfl):PI X (ϰ elts kk p0) (ϟ (ϛ "enumerate" p) [a] [] pos)$ X9 X.K j:=by
 intro d s A H R I h;refine Call_$ Cy I o t U2$ pe (ud (n pos d s A H _ I h) λus s1 ſ=>?_) v rfl;obtain⟨E,H1,f,y,x⟩:=ſ;obtain⟨l,xs,e,u,q⟩:=x;subst e;cases y with
 |cons r z=>
  cases z;cases r;obtain⟨w,D,pl,C⟩:=f.list u;refine call_enumerate_list pl.isList λh' g k B m=>XD g ⟨s1.heap.objs.size+1,[s1.heap.objs.size+1,s1.heap.objs.size],_,_,H1,rfl,f.kept m,Ą l _ _,⟨⟨_,g⟩,k⟩,λb i=>?_,q⟩;have c:s1.heap.objs.size<=b:=by simp at i;rcases i with rfl|rfl<;>lia
  exact f.Vm c$ f.lc.fresh c
def zt9(M:Gl X "enumerate")(N:X.mg "enumerate" = L6)(h:FE T X e f)(u:ka [e] X.env=[(Ŷ,Cb e X.env)]:=by rfl):Zq T X (ϰ elts kk p0) (ϟ (ϛ "enumerate" p) [e] [] pos)$ sx f:=by
 intro k s st H R I Q;refine ů M N (yr h Nt u) u k s st H R I ?_;obtain⟨V,ρ,ϊ,L,P,O⟩:=Q;refine⟨V,ρ,ϊ,L,P,O.bind λd o W v H1 z e1 B A j=>?_⟩;unfold Xy at j;cases m:Bf o d with
 |none=>rw[m]at j;exact j.elim
 |some ds=>
  rw[m]at j;obtain⟨l,ϋ,rfl,G,h2⟩:=B.ls A m;refine⟨l,ϋ,rfl,He.of G,Kb.here j B λό D σ2 i ex C=>?_⟩;unfold Ts;cases n:Bf σ2 d with
  |none=>trivial
  |some xs=>
   apply b_;intro z_;obtain⟨l',ws,E,ύ,r⟩:=C.ls (Ka.mono ex _ _ A) n;cases E;have b:He X.K D l ws:=He.of ύ;apply z_;dsimp only;cases F:xs[i]? with
   |none=>
    by_cases t:i=xs.length
    ·rw[ia t];exact⟨ws,b,by rw[t];exact r.length⟩
    simp_all
   |some d'=>
    obtain⟨x,w,S⟩:=r.get F;refine⟨⟨ws,x,b,w⟩,λz H' y=>?_⟩;obtain⟨q,x',a,rfl,c,rfl⟩:=y;have g:=c ws b;rw[w]at g;cases g;exact⟨qj a,C.fresh a,⟨q,_,rfl,qf,Za.cons (by rw[Ka])$ Za.cons (Ka.mono (qj a) _ _ S) Za.nil⟩⟩
def yww(K:ϔ)(b:TA):TI:=λe H R=>b e H λc a=>∃ l m xs d,c=[ϕ l,ϕ m]/\He K a l xs/\He K a m d/\R (sX K l m) a
def yiv(A:Gl X "zip")(B:X.mg "zip" = L6)(z:PA X [a,b] t)(O:ka [a,b] X.env=[(Ŷ,Cb a X.env),(Ŷ,Cb b X.env)]:=by rfl)(g:ka [b] X.env=[(Ŷ,Cb b X.env)]:=by rfl):PI X (ϰ elts kk p0) (ϟ (ϛ "zip" p) [a,b] [] pos)$ yww X.K t:=by
 intro e s M H R I h;refine Call_$ Cy I A B ó$ pe (ud (z pos e s M H _ I h) λus s1 ⟨S,H1,c,ύ,F⟩=>?_) ⋯ (by rw[g];rfl);apply b_;intro z_;obtain⟨l,m,xs,T,rfl,C,f,q⟩:=F;apply z_;cases ύ with
 |cons r j=>
  cases j with
  |cons G j=>
   apply b_;intro z_;cases j;cases r;cases G;obtain⟨E,Q,pl,P⟩:=c.list C;obtain⟨o,L,i,D⟩:=c.list f;apply z_;refine call_zip_2 pl.isList i.isList λh' k u v w x N y=>LG k ⟨s1.heap.objs.size+4,[s1.heap.objs.size+4,s1.heap.objs.size+2,s1.heap.objs.size+3,s1.heap.objs.size,s1.heap.objs.size+1],_,_,H1,rfl,c.kept y,Φ l m (s1.heap.objs.size+4) _ _ s1.heap.objs.size (s1.heap.objs.size+1) (show (s1.heap.objs.size+2)≠s1.heap.objs.size+3 by omega) (show s1.heap.objs.size≠s1.heap.objs.size+1 by lia),⟨k,u,⟨_,_,v⟩,w,x⟩,λb n=>?_,q⟩;have d:s1.heap.objs.size<=b:=by simp at n;rcases n with rfl|rfl|rfl|rfl|rfl<;>lia
   exact c.Vm d$ c.lc.fresh d
def Q8(hg:Gl X "zip")(hm:X.mg "zip" = L6)(h:FE T X e f)(h':FE T X b g)(hs:ka [e,b] X.env=[(Ŷ,Cb e X.env),(Ŷ,Cb b X.env)]:=by rfl)(w:ka [b] X.env=[(Ŷ,Cb b X.env)]:=by rfl) :
  Zq T X (ϰ elts kk p0) (ϟ (ϛ "zip" p) [e,b] [] pos)$ BM f g:=by
 intro C s st H R I hw;refine yiv hg hm (yr h (yr h' Nt w)$ by simp_all) hs w C s st H R I ?_;obtain⟨μ,ρ,σ,ό,hr,hp⟩:=hw;refine⟨μ,ρ,σ,ό,hr,hp.bind λd Q P v H1 z e1 r1 q1 p1=>⟨P,ρ,Q,ό.mono e1,r1,p1.bind λϋ σ2 a2 v2 H2 z e2 M q2 n=>?_⟩⟩;unfold eZ at n;cases ύ:Bf σ2 d with
 |none=>rw[ύ]at n;exact n.elim
 |some ds=>
  rw[ύ]at n;cases o:Bf σ2 ϋ with
  |none=>rw[o]at n;exact n.elim
  |some a1=>
   rw[o]at n;have D:=Ka.mono e2 _ _ q1;obtain⟨l,vs,rfl,h1,h2⟩:=M.ls D ύ;obtain⟨m,ws,rfl,h3,h4⟩:=M.ls q2 o;refine⟨l,m,vs,ws,rfl,He.of h1,He.of h3,Kb.here n M λa3 S F i ex N=>?_⟩;unfold rJ;cases fl:Bf F d with
   |none=>trivial
   |some xs=>
    apply b_;intro z_;obtain⟨l',E,b,h5,V⟩:=N.ls (Ka.mono ex _ _ D) fl;cases b;apply z_;cases L:Bf F ϋ with
    |none=>trivial
    |some O=>
     apply b_;intro z_;obtain⟨m',a,b,h7,W⟩:=N.ls (Ka.mono ex _ _ q2) L;cases b;have j:He X.K S l E:=He.of h5;have k:He X.K S m a:=He.of h7;have l1:=V.length;have l2:=W.length;apply z_;dsimp only;cases ei:xs[i]? with
     |none=>
      by_cases u:i=min xs.length O.length
      ·rw[ia u];exact⟨E,a,j,k,by rw[u,l1,l2]⟩
      simp_all
     |some d'=>
      cases G:O[i]? with
      |none=>
       by_cases u:i=min xs.length O.length
       ·rw[ia u];exact⟨E,a,j,k,by rw[u,l1,l2]⟩
       all_goals simp_all
      |some a0=>
       apply b_;intro z_;obtain⟨x,ϊ,rx⟩:=V.get ei;obtain⟨y,hy,ry⟩:=W.get G;apply z_;refine⟨⟨E,a,x,y,j,k,ϊ,hy⟩,λz H' yy=>?_⟩;obtain⟨q,x',y',c,rfl,t,r,rfl⟩:=yy;have A:=t E j;rw[ϊ]at A;cases A;have B:=r a k;rw[hy]at B;cases B;exact⟨qj c,N.fresh c,⟨q,_,rfl,qf,Za.cons (Ka.mono (qj c) _ _ rx)$ Za.cons (Ka.mono (qj c) _ _ ry) Za.nil⟩⟩
end
open PySem.Builtin.Str (occurrences partsBetween subAt)
end L4
namespace L4
open Spec L2
def wI(h:Ev)(c:Nat)(f:Str)(x:D)(a:Int)(y:D):M Fl:=λe=>match y with
 | Z b=>(match x with
  | U n=>(match e[n]? with
   |some (ϓ g d)=>if (g == c && decide (d.length<1000))=A3 then Y (Ϙ h) (e.set n$ ϓ c$ Mh f (Z$ a+b) d)else ϗ
   |_=>ϗ)
  |_=>ϗ)
 |_=>ϗ
def gA(b:Ev)(e:dN)(f:Str)(h:Ev->M D)(x:D):M Fl:=λd=>match gk d x with
 |some (c,g)=>if e.contains c=A3 then (match g.lookup f with
  |some (Z a)=>xs b (h b) (wI b c f x a) d
  |_=>ϗ)else ϗ
 |none=>ϗ
def iH(b:dN)(f:Str)(d c:Ev->M D):Ev->M Fl:=λa=>xs a (c a)$ gA a b f d
def ZL{W V}(hK:T.K=X.K)(hc:LH T F f)(ho:FE T X o V)(hv:FE T X e W):FS T X (.AugAssign (ϝ o f v) .Add e N)$ iH F f W V:=by
 intro u s st H D I hq;refine Ŝ ho hv Ο u s st H D I ?_;obtain⟨μ,ρ,σ,t,hr,hp⟩:=hq;refine⟨μ,ρ,σ,t,hr,hp.xs t λx C Q vo H1 J G r1 q1 d=>?_⟩;unfold gA at d;cases ύ:gk C x with
 |none=>rw[ύ]at d;exact d.elim
 |some p=>
  obtain⟨c,fs⟩:=p;rw[ύ]at d;dsimp only at d;by_cases l:F.contains c=A3
  ·apply b_;intro z_;rw[ia l]at d;obtain⟨a,dx,vs,rfl,h1,h2⟩:=Kz r1 q1 ύ;apply z_;cases L:fs.lookup f with
   |none=>rw[L]at d;exact d.elim
   |some y=>
    rw[L]at d;cases y with
    |int i=>
     obtain⟨w,h3,h4⟩:=(FD h2).1 _ L;obtain⟨k1,ϊ⟩:=hc c l;rw[hK]at k1 ϊ;refine⟨a,_,dx,vs,w,rfl,h1,k1,ϊ,h3,Q,ρ,C,t.mono G,r1,d.xs (t.mono G) λz R B vz S J ϋ r2 q2 b=>?_⟩;unfold wI at b;cases z with
     |int j=>
      refine⟨i,j,bn h4,bn q2,?_⟩;have O:=Ka.mono ϋ _ _ q1;cases x with
      |ref n=>
       dsimp only at b;cases k:R[n]? with
       |none=>rw[k]at b;exact b.elim
       |some ob=>
        rw[k]at b;cases ob with
        |na _=>exact b.elim
        |Aa _=>exact b.elim
        |Fb _=>exact b.elim
        |Je _=>exact b.elim
        |jb E m=>
         dsimp only at b;by_cases g:(E == c && decide (m.length<1000))=A3
         ·apply b_;intro z_;rw[ia g]at b;rw[Da,Jc,Zg]at g;obtain⟨rfl,hl⟩:=g;obtain⟨a',ea,ό,h,A,q,r⟩:=r2.at O k;cases ea;have ex:pd B S B$ Nb S a$ .jb (T.ca E) h$ Qm f (ϣ$ i+j) A:=Js (wa ό) q (λJ z=>by cases z) (λJ J z=>by cases z);have P:=r2.write (ob:=ϓ E$ Mh f (Z _) m) ό ⟨h,_,qf,UO (by rw[Ka])$ ot.mono ex r⟩;apply z_;exact⟨h,A,q,by rw[<-r.length];exact hl,b _ (ϸ st) _ P.1 P.2$ (t.mono G).mono ϋ |>.mono P.1⟩
         ·rw[qa g]at b;exact b.elim
      |_=>exact b.elim
     |_=>exact b.elim
    |_=>exact d.elim
  ·rw[qa l]at d;exact d.elim
def Vo(y x:D):M D:=λb=>match Vi y with
 |some k=>(match mi b x with
  |some a=>Y (ϒ$ !(Rn a k).isSome) b
  |none=>ϗ)
 |none=>ϗ
noncomputable def wX:R2:=λy x H Q=>∃ a o,x=ϕ a/\wj H a y o/\Q (ϫ$ !o.isSome) H
def eY(f:X.A.units+9<cLine):Ch X (Eb .NotIn) wX:=by
 rintro b s j H y x h u Q I e d ⟨a,o,rfl,g,q⟩;obtain rfl:u=xb a:=d;exact zs0 ⋯ I g e λi c=>⟨ϫ _,H,c,rfl,q⟩
theorem ZY:zk T wX Vo:=by
 intro E o H m y x u v Q r q p h;unfold Vo at h;cases c:Vi y with
 |none=>rw[c]at h;exact h.elim
 |some k=>
  rw[c]at h;cases b:mi m x with
  |none=>rw[b]at h;exact h.elim
  |some j=>
   rw[b]at h;obtain⟨a,l,rfl,g,i⟩:=wz r p b;obtain rfl:=tz q c;refine⟨a,il l k,rfl,wj.kr g,Kb.here h r ?_⟩;rcases IC i k with⟨e,f⟩|⟨d,w,e,f,n⟩
   ·rw[e,f];rfl
   ·rw[e,f];rfl
def Rt(T:Tb)(P:xa)(w:Ma)(e:Str->Option Value)(a:Heap)(k:Nat)(f:Addr)(ps:ac)(c:b')(d:g'->M D):Prop:=
 ∃ b,Vr T.K b ps []/\Vr T.K b ps c/\qh P w T.K e a (wl P w) k f b ps (Co T ps.length d)
structure Gp(K:ϔ)(C:Addr)(x qual:Str)(st:Stmt)(ps:ac)(dv:b')(f:Addr):Prop where
 ex:∃ fd,(∃ (oc:Value) (od:Option Addr) (dV kV doc pm:Value) (an:Option Addr) (cdv ct:Value) (osl:Array (Option Value)),
  fd=Ϯ x qual (Tl st) (ck st) (sf st) dV kV doc pm an cdv ct/\K.lookup f=BD ⟨oc,od,.func fd,osl⟩/\W.codeIn K cdv qual=A3)/\Vr K fd ps []/\Vr K fd ps dv
section
variable{P:xa}{w:Ma}{K:ϔ}{mg:Str->Option Value}{base:Heap}{ca:Nat->Addr}{tx:Tx}
def FP{st}(h:Gp K C x a st ps e f)(S:rc N ps$ sf st)
  (m:∀ b A c s H E,yd k (A.deeper$ eg a (sf st) s.heap.objs.size f b)->rl ⟨K,ca,tx⟩ (Up (wl P w) P w K mg base N a (sf st) f b A c s H E) (ck st) g) :
  Rt ⟨K,ca,tx⟩ P w mg base (k+1) f ps e$ dh N.length g:=by
 obtain⟨q,⟨r,t,p,kV,l,u,o,b,ct,n,rfl,lk,d⟩,i,j⟩:=h.ex;exact⟨_,i,j,nD lk d S$ m b⟩
def Rt.Dd(h:Rt T P w mg base k f ps a b):Rt T P w mg base k f ps a$ L4.Dd b:=by rw[av];exact h
def eN{st}{kV e i a ct}
  (w:∀ t kV e i h a ct s o n g,s.heap.get? t=BD o->o.data=Ϩ j.toArray n->((g++[]).length=ps.length->Me s (Ϯ x b (Tl st) (ck st) (sf st) (xb t) kV e i h a ct) ⟨g,[]⟩ (ps.zip$ g++[]))/\
   ((g++j).length=ps.length->Me s (Ϯ x b (Tl st) (ck st) (sf st) (xb t) kV e i h a ct) ⟨g,[]⟩ (ps.zip$ g++j)))
  (l:K.lookup f=BD ⟨y,z,.func$ Ϯ x b (Tl st) (ck st) (sf st) (xb t) kV e i h a ct,k⟩)
  (c:W.codeIn K a b=A3) (d:K.lookup t=BD ⟨r,u,Ϩ j.toArray q,v⟩):Gp K C x b st ps j f:=
 ⟨⟨_,⟨y,z,_,kV,e,i,h,a,ct,k,rfl,l,c⟩,λs g m p=>(w t kV e i h a ct s _ q g (m _ _ d) rfl).1 p,λs g m p=>(w t kV e i h a ct s _ q g (m _ _ d) rfl).2 p⟩⟩
end
def L9{pl}(hK:T.K=X.K)(he:FE T X o f)(hC:pr T.K$ T.ca c)(R:Cu T.K (T.ca c) m fa)
  (h:Rt T X.prog X.w X.mg X.base k fa ps dv p) (hr:yd k X.A) (ha:FA T X (e::n) O)
  (ό:ka (e::n) X.env=(Ŷ,Cb e X.env)::ka n X.env:=by rfl) (ϋ:(Ub b$ ka n X.env).any (·.1)=Ŷ:=by rfl)
  (ht:Cb (ϟ (ϝ o m i) (e::n) [] b) X.env=(do
   let ov <-Cb o X.env
   Kg i.atName
   let (f,first) <-Od [ov] (Gh ov m pl)
   Bn b f first (Ub b$ ka (e::n) X.env) (Pg b$ Fe [] X.env)):=by rfl) :
  FE T X (ϟ (ϝ o m i) (e::n) [] b)$ Qd [(c,p)] ps.length m f O:=by
 rintro j s st H Q I ⟨μ,ρ,σ,hE,V,hp⟩;have P:=hE;refine W.methodCall_KW (ud (he j s st H (λx t=>∃ a G l,x=ϕ a/\t a=BD (.jb (T.ca c) G l)/\l.lookup m=L6/\tL T X O st t λus L=>Co T ps.length p (x::(us++[])) L Q$ XE X st) I ⟨μ,ρ,σ,hE,V,hp.bind λd F a0 v t D e1 r1 q1 g=>?_⟩) λu s1 ⟨x,t,I1,rx,a,G,l,ex,ea,B,q⟩=>?_) ht
 ·unfold oj at g;cases N:gk F d with
  |none=>rw[N]at g;exact g.elim
  |some z=>
   obtain⟨c',gs⟩:=z;rw[N]at g;dsimp only at g;by_cases C:c=c'
   ·subst C;have ύ:ur [(c,p)] c=BD p:=by unfold ur;rw[ia$ W0 c]
    cases B:gs.lookup m with
    |some y=>rw[ύ,B]at g;exact g.elim
    |none=>
     rw[ύ,B]at g;dsimp only at g;obtain⟨a,G,l,rfl,h1,h2⟩:=Kz r1 q1 N;refine⟨a,G,l,rfl,h1,(FD h2).2 B,a0,ρ,F,P.mono e1,r1,g.bind λds σ2 a1 us L D e2 r2 ϊ E=>?_⟩;unfold Ai at E;by_cases S:ds.length+1=ps.length
     ·rw[ia S]at E;exact⟨a1,σ2,d::ds,Za.cons (Ka.mono e2 _ _ q1) (by rw[kf];exact ϊ),by rw[Pb];exact S,r2,E⟩
     ·rw[qa S]at E;exact E.elim
   ·have ύ:ur [(c,p)] c'=L6:=by unfold ur;rw[qa (by simpa using C)];rfl
    rw[ύ]at g;exact g.elim
 ·apply b_;intro z_;subst ex;obtain rfl:u=xb a:=rx;obtain⟨fd,hb,_,hF⟩:=h;rw[hK]at hC R hF hb;apply z_;refine CM I1 ea hC R B ?_;refine ϻ I.ok.mod.Cw R.kp (ud (ha b j s1 st t _ I1 q) λus s2 ⟨l,L,I2,r,ϊ⟩=>⟨I2.Ri,?_⟩) ό ϋ;exact gF (vs:=ϕ a::l) hF hr hb Ϥ I2 (ϡ rfl r) ϊ
noncomputable def CC(a:dN)(b:Ev):Ev:=L6::L6::a.map λi=>(b[i]?).getD L6
noncomputable def bA(a:dN)(st:St):St:=L6::L6::a.map λi=>(st[i]?).getD L6
def Θ{st} a(h:sh T b H ρ st):sh T b H (CC a ρ)$ bA a st:=by
 refine⟨by simp[CC,bA],λi d e=>?_⟩;cases i with
 |zero=>cases e
 |succ j=>exact(sS a h).2 j d e
section
variable{pins:List$ Addr × Obj}{st:St}{H:Hp}{s:Shared}{x z0:Str}{M':ac}{ix:dN}{scope:Scope}{fp:ad}
def ψ(I:Ta X pins st H s)(L:yk X x M' ix scope)(g:∀ b∈fp,xl X pins H b/\b<s.heap.objs.size)(K:h'.Ns s.heap.objs.size m)
  (D:∀ b o,s.heap.get? b=BD o->h'.get? b=BD o) :
  Ta (Ro X (x::z0::M') scope (jj X.env scope.names []) s.heap.objs.size s H fp) [] (bA ix st) H { s with heap:=h',toks:=t' }:=by
 have d:∀ n c,(jj X.env scope.names []).lookup n=BD c->X.env.cells.lookup n=BD c:=λn c e=>sM X.env scope.names [] n c (λJ J q=>by simp at q) e;have t:H s.heap.objs.size=L6:=I.lc.fresh$ pa _;refine⟨⟨I.ok.mod,L.kind,I.ok.glob,I.ok.blt,pa _,λa b c A r=>I.ok.inj a b c (d a c A)$ d b c r,λa ha=>?_,λa c h=>(by cases h),I.ok.hd,I.ok.frames,ϖ rfl,λb w=>⟨va (g b w).2,λa c e=>?_⟩,λb o e=>I.bs b o e,ub I.ok.Wu I.sz,λb o e w=>?_,λb w z=>?_,I.stack,I.Ej⟩,
  rfl,I.bare,Un.kept D,⟨m,K,λi y v V F e3=>?_⟩,λa c e=>?_,t,λa c e=>I.Dg a c$ d a c e,λp hp=>absurd (show p∈[]from hp) ⋯,I.lc.kept D,?_⟩
 ·
  have G:(scope.names.map λ(n,k)=>if (k == db && X.env.scope.kind == ϥ && X.env.kindOf n == BD Bc)then (n,Bc)else (n,k)).lookup a=BD Bc\/(scope.names.map λ(n,k)=>if (k == db && X.env.scope.kind == ϥ && X.env.kindOf n == BD Bc)then (n,Bc)else (n,k)).lookup a=BD db:=ha;have S:scope.names.lookup a=BD db:=by
   rcases G with z|z
   ·obtain⟨k0,A,r⟩:=gN z;rcases r with r|⟨r,_⟩
    ·subst r;exact absurd rfl$ aG L _$ jw A
    ·rw[r]at A;exact A
   ·obtain⟨k0,A,r⟩:=gN z;all_goals simp_all
  exact sF X.env scope.names [] a (jw S)$ GA I L _ (jw S) rfl
 ·exact(g b w).1.2.2.2.2.1 a c$ d a c e
 ·rcases(g b w).1.2.2.2.1 with z|z
  ·exact I.ok.Us b o e z
  ·exact absurd (Ga (ua e)$ ub I.ok.Wu z)$ qd _
 ·rcases Fa.mp (I.ar b z)with q|q
  ·exact(g b w).1.2.1 q
  ·exact(g b w).1.2.2.1 q
 ·
  cases i with
  |zero=>simp[bA]at F
  |succ i=>
  cases i with
  |zero=>simp[bA]at F
  |succ j=>
   have E:M'[j]?=BD y:=V;have f:(ix.map λi=>(st[i]?).getD L6)[j]?=BD _:=F;rw[Na]at f;cases R:ix[j]? with
   |none=>rw[R]at f;cases f
   |some C=>
    rw[R]at f;have P:(st[C]?).getD L6=BD v:=Sb f;have W:st[C]?=BD (BD v):=by
     cases q:st[C]? with
     |none=>rw[q]at P;cases P
     |some o=>simp_all
    have ό:X.N[C]?=BD y:=by
     have z:=Ab (λl=>l[j]?) L.at_
     simp_all
    have q:=qb.mp L.pZ y$ wa E;simp only[Da,vg]at q;have T:X.env.scope.names.lookup y=BD Bc\/X.env.scope.names.lookup y=BD db:=by
     all_goals simp_all
    have O:scope.names.lookup y=BD db:=eq_of_beq q.2;obtain⟨m0,a0,ύ⟩:=I.loc;obtain⟨u,ru,lu⟩:=ύ C y v ό W (by rcases T with z|z;exact ϙ$ ϖ z;exact ϙ$ ϙ z);refine⟨u,ru,ϙ ⟨SR (env:=X.env) O,?_⟩⟩;rcases lu with⟨z,_⟩|⟨_,c,ϊ,zc⟩
    ·rcases T with k|k
     ·rw[show X.env.kindOf y=X.env.scope.names.lookup y from rfl,k]at z;cases z
     ·rw[show X.env.kindOf y=X.env.scope.names.lookup y from rfl,k]at z;cases z
    ·obtain⟨ϋ,B⟩:=sF X.env scope.names [] y (jw O) (GA I L _ (jw O) rfl);have Q:=d y ϋ B;rw[ϊ]at Q;cases Q;obtain⟨o,M,hd⟩:=zc;exact⟨c,B,o,D _ _ M,hd⟩
 ·obtain⟨v,o,M,hd⟩:=I.cell a c (d a c e);exact⟨v,o,D _ _ M,hd⟩
 ·simp[bA,Ro];simpa using (Ab List.length L.at_)
end
noncomputable def oq(l:dl):dl:=l.mergeSort λa b=>decide$ a<=b
def Xw l:(oq l).Perm l:=List.mergeSort_perm l _
def fJ l:(oq l).Pairwise (·<=·):=by
 have:=List.pairwise_mergeSort (le:=λa b:Int=>decide$ a<=b) (λa b c d e=>by simp at *;lia) (λa b=>by simp;lia) l;exact this.imp λh=>by simpa using h
theorem cF:∀ {l m:dl},l.Perm m->l.Pairwise (·<=·)->m.Pairwise (·<=·)->l=m
 |[],m,h,_,_=>by rw[List.nil_perm]at h;exact h.symm
 |a::l,[],h,_,_=>by have:=h.length_eq;simp at this
 |a::l,b::m,h,c,d=>by
  rw[List.pairwise_cons]at c d;have f:=h.subset ya;have g:=h.symm.subset ya;have e:a=b:=by
   rcases Fa.mp f with e|f
   ·exact e
   ·rcases Fa.mp g with e|g
    ·exact e.symm
    ·have:=c.1 b g;have:=d.1 a f;lia
  subst e;rw[cF (zaE h) c.2 d.2]
def lL(K:ϔ):gV->Hp->VK->Prop:=λxs H Q=>∃ (p:Addr) (is:dl),xs=[ϕ p]/\He K H p (is.map ϣ)/\is.length<64/\∀ l,H l=L6->Q (ϕ l) (Nb H l$ ϯ$ (oq is).map ϣ)
def i7:jm X (Ϟ "sorted")$ lL X.K:=by
 rintro g s x H xs v Q I r ⟨p,d,rfl,n,c,q⟩;obtain⟨u,rfl,rfl⟩:=Nq r;obtain⟨f,h,pl,t⟩:=I.list n;have a:=h.length;rw[Ra]at a;refine sorted_ints pl.isList (kL h) ⋯ λb o i j k=>?_;obtain⟨e,m⟩:=sortedAll_at s.heap f b;have l:=cF (j.trans (Xw d).symm) k$ fJ d;subst l;exact⟨ϕ _,_,I.laid (λy y=>sortedAll_old) (Eh _) (show Zj X.prog X.w _ _ _ (ϯ _)from⟨by rw[Ra,((Xw d).length_eq)];exact ub (Ed c) ⋯,b.toList,e,OF i,by rw[fj];exact m⟩),rfl,q _$ I.lc.fresh$ Eh _⟩
def MQ(xs:g'):M D:=λa=>match xs with
 |[x]=>(match Bf a x with
  |some b=>(match Ls b with
   |some is=>if is.length<64 then yA ((oq is).map Z) a else ϗ
   |none=>ϗ)
  |none=>ϗ)
 |_=>ϗ
theorem NN{b:ad}{H:Hp}:∀ a:dl,Za T b H (a.map Z) (a.map ϣ)
 |[]=>Za.nil
 |i::a=>Za.cons (by rw[Ka]) (NN a)
def yat(m:T.K=X.K):br T (lL X.K) MQ:=by
 intro E q H σ xs o Q r p h
 match xs with
 |[]=>trivial
 |[x]=>
  obtain⟨v,w,rfl,j,d⟩:=p;rw[Za]at d;subst d;unfold MQ at h;cases e:Bf σ x with
  |none=>simp[e]at h;exact h.elim
  |some k=>
   simp[e]at h;cases a:Ls k with
   |none=>simp[a]at h;exact h.elim
   |some is=>
    simp[a]at h;by_cases c:is.length<64
    ·rw[ia c]at h;obtain⟨b,n,rfl,f,g⟩:=r.ls j e;obtain rfl:=lF g a;exact⟨b,is,rfl,He.of f,c,λl i=>dC h r (NN _) i⟩
    ·rw[qa c]at h;exact h.elim
 |_::_::_=>cases h
def yw(c a:List$ Nc × V):List$ Nc × V:=a.foldl (λb d=>mm b d.1 d.2) c
def ez(c a:List$ Nc × D):List$ Nc × D:=a.foldl (λb d=>Dm b d.1 d.2) c
def yg2:∀ {a} {d} {b} {e},KV a d->KV b e->KV (yw b a) (merged e d):=by
 intro a;induction a with
 |nil=>intro d b e c f;cases c;exact f
 |cons p a g=>
  intro d b e c f;cases c with
  |cons q c=>
   obtain⟨h,i⟩:=q;have:=g c$ f.put p.1 i;simpa [yw,merged,h]using this
def P4:∀ a b,(yw b a).length<=b.length+a.length:=by
 intro a;induction a with
 |nil=>intro b;simp[yw]
 |cons p a d=>
  intro b;have e:=d$ mm b p.1 p.2;have f:=YG b p.1 p.2;have c:yw b (p::a)=yw _ a:=rfl;rw[c,Pb]
  lia
def pX:V->gV->Hp->VK->Prop:=λx e H Q=>∃ a b d c,x=ϕ a/\e=[ϕ b]/\a≠b/\H a=BD (Ϝ d)/\Rd H b (Ϝ c)/\d.length+c.length<=sizeLine/\Q .Lb (Nb H a$ Ϝ$ yw d c)
def Ų:qw X "dict.update" pX:=by
 intro p s ύ H x L v K Q I B A h;obtain⟨a,b,g,d,rfl,rfl,l,o,k,E,q⟩:=h;cases B;obtain⟨u,rfl,rfl⟩:=Nq A;obtain⟨z,hd,ws,e,n⟩:=KF I.lc o;obtain⟨M,m,i,c,j⟩:=cu I.lc k;have C:g.length=ws.length:=by unfold KV at e;exact Paired.length e
 have D:d.length=i.length:=by unfold KV at c;exact Paired.length c
 refine wh rn n.typeIs PySem.F.entry_dict_update (PySem.F.args_dict_update_2 _ _) (meets_dict_update (ek X.prog X.w) a b l m) ⟨ws,i,n,j,by lia,λh' f J y=>?_⟩;have r:∃ q,h'.get? a=BD q:=let ⟨q,_,_,t,_⟩:=f;⟨q,t⟩;have G:=P4 d g;exact⟨.Lb,_,BC I (by rw[o];exact ϵ) y r$ cC ⋯ hd (yg2 c e) f,rfl,q⟩
noncomputable def apart(n:Nat):D->Bool
 | U m=>!(m == n)
 |_=>A3
def Yz(x:D)(xs:g'):M D:=λb=>match x,xs with
 | U n,[y]=>(match b[n]? with
  |some (J a)=>(match mi b y with
   |some more=>if (apart n y && decide (a.length+more.length<=Yf))=A3 then Y Ϛ (b.set n$ J$ ez a more)else ϗ
   |none=>ϗ)
  |_=>ϗ)
 |_,_=>ϗ
def ì:∀ {a} {d} {b} {e},Wg T g H a d->Wg T g H b e->Wg T g H (ez b a) (yw e d):=by
 intro a;induction a with
 |nil=>intro d b e c f;unfold Wg at c;cases c;exact f
 |cons p a h=>
  intro d b e c f;cases c with
  |cons q c=>
   have:=h c$ OM f p.1 q.2;simpa [ez,yw,q.1]using this
def ġ:lB T pX Yz:=by
 intro E D H F x xs v O Q r p q h;cases x with
 |ref n=>
  match xs with
  |[]=>exact h.elim
  |[y]=>
   obtain⟨w,z,rfl,s,B⟩:=q;rw[Za]at B;subst B;unfold Yz at h;cases d:F[n]? with
   |none=>simp[d]at h;exact h.elim
   |some ob=>
    cases ob with
    |Aa g=>
     simp only[d]at h;cases i:mi F y with
     |none=>simp[i]at h;exact h.elim
     |some more=>
      simp only[i]at h;by_cases f:(apart n y && decide (g.length+more.length<=Yf))=A3
      ·rw[ia f]at h;simp[Da,Jc]at f;obtain⟨a,rfl,j,t,u,k⟩:=r.at p d;obtain⟨b,ws,rfl,I,l⟩:=wz r s i;have L:t.length=g.length:=by unfold Wg at k;exact(Paired.length k).symm
       have M:ws.length=more.length:=by unfold Wg at l;exact(Paired.length l).symm
       have o:a≠b:=by
        cases y with
        |ref m=>
         obtain⟨G,e,K⟩:=s;cases e;intro e;subst e;have:=f.1;simp[apart,(WH r.nd K j)]at this
        |Aa ks ds=>
         obtain⟨G,A,e,ύ,_⟩:=s;cases e;intro e;subst e;exact ύ$ wa j
        |_=>cases i
       refine⟨a,b,t,ws,rfl,rfl,o,u,I,by rw[L,M];exact ub f.2 ⋯,?_⟩;have C:=r.write (ob:=J _) j ⟨_,qf,by
        have ex:pd D H D$ Nb H a$ Ϝ$ yw t ws:=Js (wa j) u (λR z=>by cases z) (λR R z=>by cases z);exact ì (Wg.mono ex l)$ Wg.mono ex k⟩
       exact h _ _ _ C.1 C.2 (by rw[Ka])
      ·rw[qa f]at h;exact h.elim
    |na P=>simp only[d]at h;exact h.elim
    |jb c N=>simp[d]at h;exact h.elim
    |Fb _=>simp only[d]at h;exact h.elim
    |Je _=>simp only[d]at h;exact h.elim
  |_::_::_=>exact h.elim
 |_=>exact h.elim
def QY:bootBuiltins "sorted" = BD (Ϟ "sorted"):=by decide +kernel
theorem cU:∀ {ks:List Nc} {a:b'},a.length=ks.length->(∀ (j:Nat) (v:Value) (k:Nc),a[j]?=BD v->ks[j]?=BD k->gd (kV k) v)->de (ks.map kV) a
 |[],[],_,_=>Ϥ
 |[],_::_,h,_=>by simp at h
 |_::_,[],h,_=>by simp at h
 |k::ks,v::a,h,b=>ϡ (b 0 v k rfl rfl) (cU ⋯ λj v k c d=>b (j+1) v k c d)
def Z2(h:(ek P w).is k v=A3):gd (kV k) v:=by
 rcases Lq h with⟨i,t,rfl,rfl⟩|⟨x,t,rfl,rfl⟩<;>exact⟨t,rfl⟩
theorem cV:∀ {a:List$ Nc × V} {ws:List$ Nc × Value},KV a ws->ws.map (·.1)=a.map (·.1)
 |[],_,h=>by cases h;rfl
 |p::a,_,h=>by
  cases h with
  |cons q h=>simp only[gb];rw[cV h,q.1]
noncomputable def kH:Nc->D
 | .inl i=>Z i
 | .inr x=>ϐ x
end L4
namespace L4
open Spec Calls W PyProof.V
def y9
  (K:KdlSrc j w B r d n P v) (C:A.handled=L6) (m:v s.heap) (D:n<=sizeLine)
  (t:∀ h tk a,(∀ b o,s.heap.get? b=BD o->h.get? b=BD o)->s.heap.objs.size<=h.objs.size->Cn P a n->R a.toList { s with heap:=h,toks:=tk }) :
  wpAny (model j w) A (collect$ xb r) R E s:=by
 have lt:=K.there _ m;let S:Addr:=s.heap.objs.size;let ϊ:No->Shared->Prop:=λq u=>∃ (h:Heap) (tk:Nat) (a:Array Value) (c:Nat),q=.ok (.ret$ xb S)/\u={ s with heap:=h,toks:=tk }/\(∀ b o,s.heap.get? b=BD o->h.get? b=BD o)/\
  h.get? S=BD { cls:=ki "list",dict:=L6,data:=Ϩ a c,slots:=#[] }/\Cn P a n
 have i:∀ {h:Heap} {tk c:Nat} {a:Array Value},(∀ b o,s.heap.get? b=BD o->h.get? b=BD o)->h.get? S=BD { cls:=ki "list",dict:=L6,data:=Ϩ a c,slots:=#[] }->Cn P a n->R a.toList { s with heap:=h,toks:=tk }:=
  λl g k=>t _ _ _ l (Ed$ ua g) k
 have p:(s.heap.push { cls:=ki "list",data:=Ϩ ([]:b').toArray }).get? S=BD { cls:=ki "list",data:=Ϩ #[] }:=za _ rfl;have dh:=kdl_extend (A:=A) (s:={ s with heap:=s.heap.push { cls:=ki "list",data:=Ϩ ([]:b').toArray } }) (R:=ϊ) K C (K.keep _ _ m λb F o e=>da _ e) S (Fd lt.1) (Fd lt.2) (xb S) 0 p
  (λh tk a c l g k=>⟨h,tk,a,c,rfl,rfl,λb o e=>l b o (va$ ua e)$ da _ e,g,k⟩) D
 refine aa$ Hr$ Kc xy$ aa$ Gc$ ga ⟨Sd Wn _,Kc MG$ dc dh (λf u x=>?_) (λe u x=>by obtain⟨_,_,_,_,z,_⟩:=x;cases z)⟩;cases f with
 |done f=>
  obtain⟨h,tk,a,c,e,rfl,l,g,k⟩:=x;cases e;exact aa$ wm g$ ga$ i l g k
 |again G=>
  refine⟨x.1,mf x.2 λq s2 y=>?_⟩;obtain⟨h,tk,a,c,rfl,rfl,l,g,k⟩:=y;exact aa$ wm g$ ga$ i l g k
end L4
namespace L4
open Spec L2
def NO:gV->Hp->VK->Prop:=λxs H Q=>∃ (a:Addr) (b:List (Nc × V)) (is:dl),xs=[ϕ a]/\Rd H a (Ϝ b)/\b.map (·.1)=is.map Sum.inl/\is.length<64/\∀ l,H l=L6->Q (ϕ l) (Nb H l$ ϯ$ (oq is).map ϣ)
theorem JZ:∀ {a:dl} {b:b'},de ((a.map (Sum.inl:Int->Nc)).map kV) b->Bh b a
 |[],_,h=>by cases h;exact .nil
 |i::a,_,h=>by
  cases h with
  |cons q h=>
   obtain⟨t,rfl⟩:=q;exact .cons i t$ JZ h
def Ê(ό:X.gc=A3):jm X (Ϟ "sorted") NO:=by
 rintro N s σ H xs us Q I r ⟨a,g,n,rfl,V,i,p,q⟩;obtain⟨u,rfl,rfl⟩:=Nq r;obtain⟨z,hd,ws,C,S⟩:=cu I.lc V;obtain⟨F,t⟩:=S.dictAt;have G:=cV C;have a4:ws.length=g.length:=by have:=Ab List.length G;simpa using this
 have a0:g.length=n.length:=by have:=Ab List.length i;simpa using this
 have K:ws.length<=sizeLine:=by lia
 refine Yn kind_sorted plain_sorted entry_sorted (args_sorted1 _) ?_;unfold ui.«sorted»;refine aa (m:=checkCount "sorted" 1 1 _)$ ga$ aa (y9 (A:=X.A.in1) (W.kdl_dict (knd:=ek X.prog X.w) (kvs:=ws) (ep:=F) hd) (I.ok.hd ό) t K λh' tk d M l c=>?_);have ύ:d.toList.length=ws.length:=by rw[Db];exact c.1
 have L:de ((ws.map (·.1)).map kV) d.toList:=cU (by rw[Ra];exact ύ) λj v k T D=>by
  obtain⟨k',x,hx,y⟩:=c.2 j v (by rw[<-Nd];exact T);rw[Na,hx]at D;cases D;exact Z2 y
 rw[G,i]at L;refine aa$ Et ?_ (by rw[ύ];exact K);have f:(h'.push _).get? h'.objs.size=BD (zm "list" d.toList.toArray 0):=za _ rfl;refine aa$ Xb$ Dc bR ⟨_,f,rfl⟩ mK (cR f (JZ L) ⋯ λh B O P R=>⟨_,rfl,(ga ⟨_,rfl,?_⟩)⟩)$ dR _;have ϋ:B=oq n:=cF (P.trans (Xw n).symm) R$ fJ n;subst ϋ;obtain⟨e,ϊ⟩:=Y0 (out:=h) f;exact⟨ϕ h'.objs.size,_,I.laid (t':=tk) (λb o E=>by
  have lt:b<h'.objs.size:=ua$ M b o E;rw[eR (va lt) (by rw[MB];exact Jb lt)];exact da _$ M b o E) l (show Zj X.prog X.w _ _ _ (ϯ _)from⟨by rw[Ra,((Xw n).length_eq)];exact ub (Ed p) ⋯,h.toList,e,OF O,by rw[fj];exact ϊ⟩),rfl,q _$ I.lc.fresh l⟩
noncomputable def Tu:List (Nc × D)->Option (dl)
 |[]=>BD []
 |(.inl i,_)::r=>(Tu r).map (i::·)
 |_::_=>L6
theorem LX{c:ad}{H:Hp}:∀ {a:List$ Nc × D} {us:List$ Nc × V} {is:dl},Wg T c H a us->Tu a=BD is->us.map (·.1)=is.map Sum.inl
 |[],_,is,h,e=>by unfold Wg at h;cases h;cases e;rfl
 |(k,d)::a,_,is,h,e=>by
  cases h with
  |cons q h=>
   cases k with
   |inr x=>cases e
   |inl i=>
    unfold Tu at e;cases b:Tu a with
    |none=>simp_all
    |some f=>
     rw[b]at e;cases e;simp only[gb];rw[LX h b,<-q.1]
def AE(xs:g'):M D:=λb=>match xs with
 |[x]=>(match mi b x with
  |some a=>(match Tu a with
   |some is=>if is.length<64 then yA ((oq is).map Z) b else ϗ
   |none=>ϗ)
  |none=>ϗ)
 |_=>ϗ
def C1:br T NO AE:=by
 intro E o H σ xs n Q r p h
 match xs with
 |[]=>trivial
 |[x]=>
  obtain⟨v,w,rfl,k,f⟩:=p;rw[Za]at f;subst f;unfold AE at h;cases e:mi σ x with
  |none=>simp only[e]at h;exact h.elim
  |some d=>
   simp only[e]at h;cases b:Tu d with
   |none=>simp[b]at h;exact h.elim
   |some is=>
    simp only[b]at h;by_cases c:is.length<64
    ·rw[ia c]at h;obtain⟨a,m,rfl,g,i⟩:=wz r k e;exact⟨a,m,is,rfl,g,LX i b,c,λl j=>dC h r (NN _) j⟩
    ·rw[qa c]at h;exact h.elim
 |_::_::_=>exact h.elim
def dX(K:ϔ):gV->Hp->VK->Prop:=λxs H Q=>lL K xs H Q\/NO xs H Q
def Ř(d:X.gc=A3):jm X (Ϟ "sorted")$ dX X.K:=by
 intro a s c H xs b Q I r h;rcases h with h|h
 ·exact i7 a s c H xs b Q I r h
 ·exact Ê d a s c H xs b Q I r h
def Ux(xs:g'):M D:=λa=>match xs with
 |[x]=>(match Bf a x with
  |some _=>MQ [x] a
  |none=>AE [x] a)
 |_=>ϗ
def zqx(d:T.K=X.K):br T (dX X.K) Ux:=by
 intro E c H a xs b Q r p h
 match xs with
 |[]=>trivial
 |[x]=>
  unfold Ux at h;cases e:Bf a x with
  |some f=>simp[e]at h;exact ϖ$ yat d E c H a [x] b Q r p h
  |none=>simp[e]at h;exact ϙ$ C1 E c H a [x] b Q r p h
 |_::_::_=>trivial
theorem Bo:∀ (ks:List Nc) (us:gV),(ks.map kV).zip us=(ks.zip us).map λa=>(kV a.1,a.2)
 |[],_=>by simp
 |_::_,[]=>by simp
 |k::ks,u::us=>by simp[Bo ks us]
end L4
namespace L4
def Py(xs:Array Nat):Prop:=∀ i k:Nat,∀ a b:Nat,i<k->xs[i]?=BD a->xs[k]?=BD b->a<b
def Cut(xs:Array Nat)(j p:Nat):Prop:=p<=xs.size/\(∀ i a:Nat,i<p->xs[i]?=BD a->a<j)/\∀ i a:Nat,p<=i->xs[i]?=BD a->j<=a
def N7{xs}(p:Py xs) j:∀ c lo b,b - lo<=c->lo<=b->b<=xs.size->(∀ i a:Nat,i<lo->xs[i]?=BD a->a<j)->(∀ i a:Nat,b<=i->xs[i]?=BD a->j<=a)->Cut xs j (Dn xs j c lo b):=by
 intro c;induction c with
 |zero=>
  intro lo b t u h k l;have e:lo=b:=by lia
  subst e;exact⟨h,k,l⟩
 |succ f r=>
  intro lo b t u h k l;unfold Dn;by_cases o:lo<b
  ·rw[ia o];dsimp only;have q:(lo+b) / 2<xs.size:=by lia
   have g:=Bb q;have s:xs.getD ((lo+b) / 2) j=xs[(lo+b) / 2]:=by simp[q]
   rw[s];by_cases m:xs[(lo+b) / 2]<j
   ·rw[ia m];refine r _ _ ⋯ ⋯ h (λi a n d=>?_) l;by_cases e:i=(lo+b) / 2
    ·subst e;rw[g]at d;cases d;exact m
    ·have:=p i _ a _ ⋯ d g;lia
   ·rw[qa m];refine r _ _ ⋯ ⋯ ⋯ k (λi a n d=>?_);by_cases e:i=(lo+b) / 2
    ·subst e;rw[g]at d;cases d;lia
    ·have:=p _ i _ a ⋯ g d;lia
  ·rw[qa o];have e:lo=b:=by lia
   subst e;exact⟨h,k,l⟩
def LV{xs}(c:Py xs) j:Cut xs j$ Ge xs j:=by
 exact N7 c j _ _ _ ⋯ ⋯ (pa _) (λi a h=>by lia) (λi a h b=>by
  have:=(Qc.mp b).1;lia)
def K2{xs}(a:Cut xs j p)(b:Cut xs j q):p=q:=by
 rcases Rw p q with h|h|h
 ·have f:=Ga h b.1;have e:=Bb f;have c:=b.2.1 p _ h e;have d:=a.2.2 p _ (pa _) e
  lia
 ·exact h
 ·have g:=Ga h a.1;have e:=Bb g;have c:=a.2.1 q _ h e;have d:=b.2.2 q _ (pa _) e
  lia
def zde{xs:Array Nat}(d:p<=xs.size) i:(Dj xs p x)[i]?=if i<p then xs[i]? else if i=p then BD x else xs[i - 1]?:=by
 unfold Dj;have s1:(xs.extract 0 p).size=p:=by simp;lia
 rw[Array.getElem?_append,Array.size_push,s1];by_cases a:i<p
 ·rw[ia ⋯,ia a,Fs,qa (by rw[s1];lia),iq];simp;lia
 ·rw[qa a];by_cases b:i=p
  ·subst b;rw[ia ⋯,ia rfl,Fs,ia (by rw[s1])]
  ·rw[qa ⋯,qa b,iq];by_cases c:i - 1<xs.size
   ·rw[ia ⋯];congr 1;lia
   ·rw[qa ⋯,jq ⋯]
def ŧ{xs}(m:Py xs)(l:Cut xs x p)(t:¬ xs[p]?=BD x):Py$ Dj xs p x:=by
 have r:∀ i a:Nat,p<=i->xs[i]?=BD a->x<a:=λi a s c=>by
  have g:=l.2.2 i a s c;rcases Nat.lt_or_ge x a with h|h
  ·exact h
  ·have e:a=x:=by lia
   subst e;by_cases o:i=p
   ·subst o;exact absurd c t
   ·have v:=(Qc.mp c).1;have u:p<xs.size:=by lia
    have q:=Bb u;have:=m p i _ _ ⋯ q c;have:=l.2.2 p _ (pa _) q
    lia
 intro i k a b n c d;rw[zde l.1]at c d;by_cases g:i<p
 ·rw[ia g]at c;by_cases j:k<p
  ·rw[ia j]at d;exact m i k a b n c d
  ·rw[qa j]at d;by_cases f:k=p
   ·rw[ia f]at d;cases d;exact l.2.1 i a g c
   ·rw[qa f]at d;exact m i _ a b ⋯ c d
 ·rw[qa g]at c;have j:¬ k<p:=by lia
  rw[qa j,qa ⋯]at d;by_cases f:i=p
  ·rw[ia f]at c;cases c;exact r _ b ⋯ d
  ·rw[qa f]at c;exact m (i - 1) (k - 1) a b ⋯ c d
structure Fj(b:Bool)(t:Md):Prop where
 led:t.led = !b
 vH:Py t.place
 wP:t.dummies=#[]
def aU j:Tw #[] j=Ŷ:=by
 unfold Tw;simp
def t6(h:Fj b t) j:t.slot j=.empty/\¬ t.place[Ge t.place j]?=BD j\/∃ i,t.slot j=.live i:=by
 unfold SetTable.slot;by_cases e:(t.place[Ge t.place j]? == BD j)=A3
 ·rw[ia e];exact ϙ ⟨_,rfl⟩
 ·rw[qa e,h.wP,aU]
  simp_all
def ê(h:Fj b t) d k:∀ a p m,p.dummy=L6->ig t d k a p=BD m->(∃ j,m=.empty j L6/\¬ t.place[Ge t.place j]?=BD j)\/∃ j i nx,m=.candidate j i nx:=by
 intro a;induction a with
 |zero=>intro p m _ e;unfold ig at e;cases e
 |succ f n=>
  intro p m hd e;unfold ig at e;rcases t6 h p.j with⟨c,l⟩|⟨i,c⟩
  ·rw[c]at e;dsimp only at e;cases e;rw[hd];exact ϖ ⟨_,rfl,l⟩
  ·rw[c]at e;dsimp only at e;by_cases g:(d i == k)=A3
   ·rw[ia g]at e;cases e;exact ϙ ⟨_,_,_,rfl⟩
   ·rw[qa g]at e;refine n _ m ?_ e;unfold SetTable.advance;split<;>exact hd
def ŭ(h:Fj b t)(e:t.freeSlot c=BD (j,f)):¬ t.place[Ge t.place j]?=BD j:=by
 unfold SetTable.freeSlot SetTable.probe at e;cases a:ig t _ c _ _ with
 |none=>rw[a]at e;cases e
 |some m=>
  rcases ê h _ _ _ _ m rfl a with⟨d,rfl,g⟩|⟨d,i,nx,rfl⟩;all_goals simp_all
theorem Fj.put(h:Fj b t)(a:¬ t.place[Ge t.place j]?=BD j):Fj b (t.put j).1:=by
 unfold SetTable.put;refine⟨h.led,ŧ h.vH (LV h.vH j) a,?_⟩;rw[h.wP,aU];rfl
def Fj.plain(h:Fj b t):Fj b { t with plain:=p }:=⟨h.led,h.vH,h.wP⟩
def Ū n:Py$ Array.range n:=by
 intro i k a c e b d;have f:=(Qc.mp b).1;have g:=(Qc.mp d).1
 simp_all
def Fj.Cs(h:Fj b t) n:Fj b$ t.standIn n:=⟨h.led,Ū n,rfl⟩
def Fj.or(h:Fj b t) n:Fj b$ t.orStandIn n:=by
 unfold SetTable.orStandIn;split
 ·exact h
 ·exact h.Cs n
def Fj.lay(h:Fj b t) c a x:Fj b (layNew t c a x).2.1:=by
 unfold layNew;cases e:t.freeSlot a with
 |none=>exact h.Cs _
 |some q=>
  obtain⟨j,d⟩:=q;dsimp only;exact(h.put$ ŭ h e).or _
def Ν m(f:Nat->Option Nat):Py ((((List.range m).filterMap λj=>(f j).map (j,·)).map (·.1)).toArray):=by
 have p:List.Pairwise (·<·) (((List.range m).filterMap λj=>(f j).map (j,·)).map (·.1)):=by
  have n:List.Pairwise (·<·)$ List.range m:=List.pairwise_lt_range;have e:((List.range m).filterMap λj=>(f j).map (j,·)).map (·.1)=(List.range m).filter λj=>(f j).isSome:=by
   rw[List.map_filterMap];rw[<-List.filterMap_eq_filter];congr 1;funext j;cases o:f j<;>simp[Option.guard,o]
  rw[e];exact n.sublist List.filter_sublist
 intro i k a c b d g;rw[Yi]at d g;obtain⟨q,h⟩:=ba.mp d;obtain⟨r,l⟩:=ba.mp g;rw[<-h,<-l];exact Ko.mp p i k q r b
def Fj.BF(h:Fj b t) d c:Fj b (En t d c).2.1:=by
 unfold En;cases e:t.relaid _ c with
 |none=>exact h.Cs _
 |some q=>
  obtain⟨g,f⟩:=q;dsimp only;split
  ·unfold SetTable.relaid SetTable.laid at e;cases a:SetTable.layClean _ _ with
   |none=>rw[a]at e;cases e
   |some ow=>
    rw[a]at e;cases e;exact⟨h.led,Ν _ _,rfl⟩
  ·exact h.Cs _
def Fj.fresh b:Fj b$ yu 0 0$ !b:=⟨rfl,λi k a c e d e=>by simp[yu]at d,rfl⟩
end L4
namespace L4
open Spec
section
variable{prog:xa}{w:Ma}{K:Type}[DecidableEq K][BEq K][LawfulBEq K]{knd:KeyKind prog w K}{A:Ia}{E:Value->Shared->Prop}{s:Shared}{b:Bool}{a:Addr}{k:K}{x:Value}
def Cr(knd:KeyKind prog w K)(b:Bool)(h:Heap)(a:Addr)(S:K->Bool)(n:Nat):Prop:=
 ∃ o c d t,h.get? a=BD o/\o.ExactSet/\o.data=.set c d t/\fE knd c.toList/\(∀ k,S k=A3 ↔ ∃ e∈c.toList,knd.is k e.2=A3)/\c.size<scanBound/\t.fits c.size=A3/\c.size=n/\Fj b t
def tU{h:Heap}(q:h.get? a=BD o)(i:o.ExactSet)(r:o.data=.set p f t)(j:fE knd c.toList)
  (l:∀ k,S' k=A3 ↔ ∃ e∈c.toList,knd.is k e.2=A3) (m:c.size<scanBound) (n:d.fits c.size=A3) (s:Fj b d) :
  (h.update a$ Yv c d).get? a=BD { o with data:=.set c (f+1) d }/\Cr knd b (h.update a$ Yv c d) a S' c.size:=by
 obtain⟨g,_⟩:=SetOf_store q i r j l m n;exact⟨g,_,c,f+1,d,g,i,rfl,j,l,m,n,rfl,s⟩
def CZ{g:Bool->Om Unit}(N:∀ c s1 n,n () s1->wpAny (model prog w) A (g c) n E s1)
  (u:s.heap.get? a=BD o) (v:o.ExactSet) (x:o.data=.set L ύ t) (B:fE knd d.toList) (C:∀ k,j k=A3 ↔ ∃ e∈d.toList,knd.is k e.2=A3) (D:d.size<scanBound) (M:f.fits d.size=A3) (F:Fj b f)
  (q:∀ m,md a s.heap m->Cr knd b m a j d.size->R (BD A3) { s with heap:=m }) :
  wpAny (model prog w) A (do
    storeSet a d f
    if (!O && f.tooFull)=A3 then do
      g (En f d$ rf d.size).2.2
      storeSet a (En f d$ rf d.size).1 (En f d$ rf d.size).2.1
      pure (BD A3)
     else pure (BD A3)) R E s:=by
 refine aa$ YD u x ?_$ ag D;obtain⟨r,I⟩:=tU u v x B C D M F;have h:=Rb s.heap a$ Yv d f;split
 ·have i:=relayAll_perm f d$ rf d.size;have G:=relayAll_fits f d$ rf d.size;have H:=F.BF d$ rf d.size;generalize En f d _=ϊ at i G H ⊢;obtain⟨l,P,gv⟩:=ϊ;have z:l.size=d.size:=by rw[<-Db,i.length_eq,Db]
  refine aa$ N _ _ _$ aa$ YD r rfl ?_$ ag ⋯;obtain⟨_,p⟩:=tU (S':=j) r v rfl (B.perm i) (λk=>(C k).trans ⟨λ⟨e,he,y⟩=>⟨e,i.mem_iff.mpr he,y⟩,λ⟨e,he,y⟩=>⟨e,i.mem_iff.mp he,y⟩⟩) ⋯ G H;rw[z]at p;exact ga$ q _ (h.trans$ Rb _ a _) p
 ·exact ga$ q _ h I
def V9(M:knd.is k x=A3)(N:x.scannable=A3)(hS:Cr knd b s.heap a S n)(hn:n+1<scanBound)
  (q:∀ d,md a s.heap d->Cr knd b d a (λF=>S F || decide (F=k)) (if S k then n else n+1)->Q (!S k) { s with heap:=d }):wpAny (model prog w) A (setAddHashed a x$ knd.hash k) Q E s:=by
 apply b_;intro z_;obtain⟨o,f,ό,t,m,ύ,r,C,D,T,L,ϋ,V⟩:=hS;apply z_;refine Xb$ aa$ We m r L ?_;dsimp only;rw[byScan_of N T C];refine aa$ aa$ vm$ aa$ wpAny_setScan_of M m r L C ?_;cases W:List.findIdx? (λe=>knd.is k e.2) f.toList with
 |some j=>
  obtain⟨hj,pj,_⟩:=List.findIdx?_eq_some_iff_getElem.mp W;have v:=(D k).mpr ⟨f.toList[j],di hj,pj⟩;refine ga$ ga ?_;have z:=q s.heap (nK a s.heap) ⟨o,f,ό,t,m,ύ,r,C,λF=>by
   rw[vg,Jc,<-D F];exact⟨λy=>y.elim id λe=>e ▸ v,ϖ⟩,T,L,by rw[v];exact ϋ,V⟩
  rw[v]at z
  simp_all
 |none=>
  have v:S k=Ŷ:=by
   cases y:S k with
   |false=>rfl
   |true=>obtain⟨e,he,p⟩:=(D k).mp y;have:=List.findIdx?_eq_none_iff.mp W e he;rw[p]at this;cases this
  have I:∀ c {s1:Shared} {i:Unit->Shared->Prop},i () s1->wpAny (model prog w) A (match c with|true=>rule "set.scan.the-table-gave-way" | false=>pure ()) i E s1:=λc s1 i y=>by
   cases c
   ·exact ga y
   ·exact vm y
  have u:=layNew_perm t f (knd.hash k) x;have G:=layNew_fits t f (knd.hash k) x;have H:=V.lay f (knd.hash k) x;generalize layNew t f _ x=ϊ at u G H ⊢;obtain⟨g,t1,wd,gv⟩:=ϊ;rw[Array.toList_push]at u;have O:=(C.push M N).perm u;have P:=mem_push_iff M D u;have X:g.size=n+1:=by rw[<-Db,u.length_eq,Ic,Db,ϋ];rfl
  have R:g.size<scanBound:=by omega
  have l:∀ d,md a s.heap d->Cr knd b d a _ g.size->Q A3 { s with heap:=d }:=λd B h=>by
   have:=q d B;rw[v]at this;rw[X]at h;exact this h
  refine aa$ I _ ?_;split
  ·refine aa ?_;rw[hashByValue_scannable 8 N];refine ga$ CZ (b:=b) ?_ m ύ r O P R ?_ ?_ ?_
   ·exact λc s1 i y=>I c y
   ·split
    ·exact G
    ·exact SetTable.fits_plain_off G
   ·split
    ·exact H
    ·exact H.plain
   ·exact λd B h=>ga$ l d B h
  ·refine aa$ ga ?_;refine CZ ?_ m ύ r O P R G H ?_
   ·exact λc s1 i y=>I c y
   ·exact λd B h=>ga$ l d B h
end
noncomputable def bT(w:Ma):Bool:=w.params.followText "set-order"
section
variable{prog:xa}{w:Ma}{A:Ia}
def zq1(g:Cr (Hf prog w) b h a S n)(e:∀ k,S k=c k)(f:n=d):Cr (Hf prog w) b h a c d:=by
 obtain rfl:S=c:=funext e
 simp_all
def CQ(f:Cr (Hf prog w) b h a S n)(k:∀ o,h.get? a=BD o->c.get? a=BD o):Cr (Hf prog w) b c a S n:=by
 obtain⟨o,e,d,t,g,r⟩:=f;exact⟨o,e,d,t,k o g,r⟩
def Z7{St}(W:WalksS prog w A.in1 I u j G n P St) a(x:a ∉ u) f(ύ:∀ i v,P i v->∃ t,v=Qh (f i) t)(O:n+1<scanBound) :
  ∀ k i s,n - i=k->i<=n->St i s->Cr (Hf prog w) b s.heap a (λy=>(zf f i).any (·== y)) (zf f i).length->
   (∀ d,Moved (a::j) G s d->Cr (Hf prog w) b d.heap a (λy=>(zf f n).any (·== y)) (zf f n).length->R (.ok$ .ret Yb) d)->codeAny (model prog w) A (.builtin "set.update.loop" ⟨[xb a,xb I],[]⟩) R s:=by
 have r:a ∉ j:=λz=>x$ W.sub _ z;have h:∀ c∈j,c∈a::j:=λc g=>ra _ g;intro k;induction k with
 |zero=>
  intro i s L K st l q;obtain rfl:i=n:=by lia
  exact Kc Gs$ aa (W.done s _ _ st λd m=>(ga$ q d (m.mono h)$ CQ l λo e=>m.heap a _ r e))
 |succ k M=>
  intro i s L K st l q;have lt:i<n:=by lia
  refine Kc Gs$ aa (W.item i s _ _ lt st λv d H p m=>?_);obtain⟨t,rfl⟩:=ύ i v H;refine aa$ Xb$ Xb$ aa$ (Hf prog w).pyHash (intKind_is _ _ _ _) ?_;refine V9 (intKind_is _ _ _ _) rfl (CQ l λo e=>m.heap a _ r e) (by have:=NB f i;lia) λh' B C=>?_;have D:Cr _ b h' a (λy=>(zf f$ i+1).any (·== y)) (zf f$ i+1).length:=zq1 C (λy=>by rw[Z0,step_any]) (by rw[Z0,step_length]);refine ga ⟨Sd F.plain_set_update_loop _,M (i+1) _ ⋯ lt (W.frame _ d _ _ p (Eh _) λc g o e=>?_) D λs2 N E=>?_⟩
  ·rw[B.2 c (λz:c=a=>x (by rw[<-z];exact g))];exact e
  ·refine q s2 (Moved.trans W.gtrans ((m.mono h).then_heap (Eh _) λc o g e=>?_) N) E;rw[B.2 c (λz:c=a=>g (by rw[z];exact ya))];exact e
variable{E:Value->Shared->Prop}{s:Shared}
def ő x(q:Q (xb s.heap.objs.size) { s with heap:=s.heap.push { cls:=ki "set",dict:=L6,data:=.set #[] 0 (.fresh 0 0$ !bT w) } }) :
  codeAny (model prog w) A (.call (Ϟ "set.__new__") ⟨[ki "set",x],[]⟩) (wants Q E) s:=by
 refine oK$ aa$ zy (PySem.F.newCall_set_1 x)$ ga ⟨Sd PySem.F.plain_set_new _,Kc PySem.F.entry_set_new ?_⟩;unfold ui.«set.__new__» Ay;have a:=sub_set_self;obtain⟨b,g,d,tk,c⟩:=s
 wp_walk
 exact Fg$ ga$ aa$ wpAny_alloc$ ga$ ga q
end
section
variable{prog:xa}{w:Ma}{A:Ia}{E:Value->Shared->Prop}{s:Shared}
abbrev mx(w:Ma):Obj:={ cls:=ki "set",dict:=L6,data:=.set #[] 0 (.fresh 0 0$ !bT w) }
set_option maxHeartbeats 3200000 in
def J1{l}{a}{h}{Q}(ϋ:A.handled=L6)(W:s.heap.IsList l a)(V:Bh a.toList h)(S:a.size+1<scanBound)
  (q:∀ d tk,Cr (Hf prog w) (bT w) d s.heap.objs.size (λy=>(zf (λi=>h.getD i 0) a.size).any (·== y)) (zf (λi=>h.getD i 0) a.size).length->
   (∀ b o,b<s.heap.objs.size->s.heap.get? b=BD o->d.get? b=BD o)->Q (xb s.heap.objs.size) { s with heap:=d,toks:=tk }) :
  wpAny (model prog w) A (call (ki "set") [xb l]) Q E s:=by
 obtain⟨c,tl,ύ⟩:=Zc.mro;have f1:=Zc.made;have f2:=Zc.sub;refine yj$ oK (show wpAny _ _ (callAny (ki "set") _) _ _ _ from ga ⟨Code.quiet_builtin _ (by decide +kernel),Kc PySem.F.entry_type_call ?_⟩);rw[Around.under_plain (weight_type_call_type "set" [xb l] []) rfl];have f3:=Zc.notType;have f4:=Zc.canCreate;have f5:=PySem.F.typeCall_set_1$ xb l;repeat (any_goals (first|assumption|wp_step))
 refine mf (ő (xb l) (E:=E) (Q:=λob s1=>ob=xb s.heap.objs.size/\s1={ s with heap:=s.heap.push (mx w) }) ⟨rfl,rfl⟩) λr s1 B=>?_;cases r with
 |error e=>exact B
 |ok N=>
  cases N with
  |ret ob=>
   apply b_;intro z_;obtain⟨rfl,rfl⟩:=B;have H:(s.heap.push$ mx w).get? s.heap.objs.size=BD (mx w):=za _ rfl;have tS:io { s with heap:=s.heap.push (mx w) } (xb s.heap.objs.size) "set":=⟨_,H,rfl⟩
   apply z_;have i1:=Zc.init.lookup;have i2:=Zc.init.bind$ xb s.heap.objs.size;repeat (any_goals (first|assumption|wp_step))
   refine mf (Gk (R:=wants (λr s2=>r=Yb/\∃ d tk,s2={ s with heap:=d,toks:=tk }/\Cr (Hf prog w) (bT w) d s.heap.objs.size (λy=>(zf (λi=>h.getD i 0) a.size).any (·== y)) (zf (λi=>h.getD i 0) a.size).length/\
     (∀ b o,b<s.heap.objs.size->s.heap.get? b=BD o->d.get? b=BD o)) E) Zc.init.plain PySem.F.entry_set_init$ check_set_init_1 tS ?_) λr2 s2 g=>?_
   ·obtain⟨⟨oc,od,a0,D⟩,I,j,L,m⟩:=W;simp only at j m;subst j;subst m;have u:(s.heap.push$ mx w).get? l=BD { cls:=ki "list",dict:=od,data:=Ϩ a L,slots:=D }:=da _ I;have g1:=PySem.F.sub_list_set;have g2:=PySem.F.sub_list_frozenset;have g3:(ki "list" == ki "dict")=Ŷ:=by decide
    have n:(s.heap.push$ mx w).IsList l a:=⟨_,u,rfl,L,rfl⟩
    unfold ui.«set.__init__» noKeywords By;generalize x:pyIter=PI
    wp_walk
    subst x;refine pi n$ aa$ Hr ?_;have K:l<s.heap.objs.size:=ua I;have P:A.in1.in1.in1.handled=L6:=by simp[ϋ]
    have ό:l≠(s.heap.push$ mx w).objs.size:=by rw[Tc];exact va$ Jb K
    have ϊ:s.heap.objs.size ∉ [(s.heap.push$ mx w).objs.size,l]:=by
     rw[Tc];simp only[Fa,Ve,qp,not_or];exact⟨va$ yb _,Fd K⟩
    refine Z7 (b:=bT w) ((Vj P _ l ό a).toS) s.heap.objs.size ϊ (λi=>h.getD i 0) (λi v X=>IntsAre.int_at V i v (by rw[Nd];exact X)) S (a.size - 0) 0 _ ⋯ (Dh _) ⟨⟨_,za _ rfl,rfl,rfl⟩,(n.push _)⟩ ?S0 ?RR;case S0=>
     exact⟨mx w,#[],0,_,da _ H,⟨rfl,rfl,rfl⟩,rfl,λe T=>by simp at T,λk=>by simp[w1],by decide,by rfl,by simp[w1],Fj.fresh _⟩
    case RR=>
     intro s' p f;obtain⟨d,O,M,G,C⟩:=s';obtain rfl:O=s.gens:=p.gens;obtain rfl:M=s.drawn:=p.drawn;obtain rfl:C=s.os:=p.os;refine ga$ ga ⟨rfl,d,G,rfl,f,λb o lt e=>?_⟩;refine p.heap b o ?_$ da _$ da _ e;rw[Tc];simp only[Fa,Ve,qp,not_or];exact⟨va lt,va$ Jb lt⟩
   ·cases r2 with
    |error e=>exact g
    |ok t=>
     cases t with
     |ret r=>
      obtain⟨rfl,d,tk,rfl,f,z⟩:=g;repeat (any_goals (first|assumption|wp_step))
      exact q _ _ f z
     |_=>exact g
  |_=>exact B
end
def Fu:lR "set_iterator" "__next__" "set_iterator.__next__":=.of (owner:="set_iterator") (n:="__next__") (by rw[pK,Sw];kernel_rfl) (by decide +kernel) (by decide +kernel) (by decide +kernel) (ϖ$ by decide +kernel) (by rw[Ir];kernel_rfl)
def dH:oR table "set_iterator.__next__" = BD ui.«set_iterator.__next__»:=entryFor_of_tree (by kernel_rfl)
def oH a:Lr "set_iterator.__next__" ⟨[a],[]⟩:=by unfold Lr;kernel_rfl
def A2:oR table "set.__iter__" = BD ui.«frozenset.__iter__»:=fR (id':="frozenset.__iter__") (by kernel_rfl) (by first|rfl|decide +kernel) (by decide +kernel) (by kernel_rfl)
def Zp(h:Heap)(a:Addr)(c:Array$ Int × Value)(b:Nat)(t:Md):Prop:=∃ o,h.get? a=BD o/\o.ExactSet/\o.data=.set c b t
def uq(h:Heap)(I a:Addr)(first:Value)(i n b:Nat):Prop:=∃ o,h.get? I=BD o/\o.cls=ki "set_iterator"/\o.data=ϩ #[first,jc i,xb a,jc n,jc b]
section
variable{prog:xa}{w:Ma}{A:Ia}{E:Value->Shared->Prop}{s:Shared}{I a:Addr}{es:Array$ Int × Value}{ep:Nat}{t:Md}{i:Nat}
def uq.ty(h:uq s.heap I a first i n ep):s.TypeIs (xb I) "set_iterator":=let ⟨o,b,c,_⟩:=h;⟨o,b,c⟩
def j7{f:Nat}(e:uq s.heap I a (jc f) i es.size ep)(l:Zp s.heap a es ep t)(n:t.fits es.size=A3)(r:a≠I)
  (p:∀ A E (Q:Option (Value × Nat)->Shared->Prop),Q (BD (v,b)) s->wpAny (model prog w) A (Zv a f i ep) Q E s)
  (q:∀ d,uq d I a (jc b) (i+1) es.size ep->md I s.heap d->Q (BD v) { s with heap:=d }):wpAny (model prog w) A (pyNext$ xb I) Q E s:=by
 obtain⟨o,g,m,hd⟩:=id e;obtain⟨u,k,x,j⟩:=id l;refine aa$ Vl$ Ad e.ty Fu$ Dc Fu e.ty dH ?_$ oH _;refine aa$ ga$ aa$ Hk g hd$ aa$ yf k j n ?_;rw[qa ⋯];refine aa$ p _ _ _$ aa$ bg g hd ⋯ ?_;have h:=Ec (mq (·.setIfInBounds 0$ Qh b 0)) g$ Le$ cc hd _;have c:=cc hd (·.setIfInBounds 0$ Qh b 0);refine aa$ bg h c ⋯$ ga ⟨_,rfl,ga$ q _ ⟨_,(Ec _ h$ Le$ cc c _),?_,?_⟩$ (Rb ..).trans$ Rb ..⟩
 ·rw[Ql,Ql];exact m
 ·rw[cc c];simp[jc]
def jS{Q}{first:Value}{n:Nat}{f}(g:A.handled=L6)(h:md I s.heap f)(q:∀ d,Am I s.heap d->Q L6 { s with heap:=d }) :
  wpAny (model prog w) A.in1 (do let e <-newExc (ki "StopIteration") [];raiseNew e:Om PySem.Fin) (λa b=>∃ v,a=Fin.done (Flow.ret v)/\wpAny (model prog w) A (pure$ BD v) Q E b)
   (λe b=>wpAny (model prog w) A (do let c <-SB e (ki "StopIteration");if c=A3 then pure L6 else throw e) Q E b) { s with heap:=f }:=by
 refine aa$ aa$ Gc (aa$ zy (by rfl)$ Gc (aa$ wpAny_handled ?_)$ by size_fits) (by size_fits);rw[g];refine aa$ ga$ wpAny_throw ?_;refine aa$ Io ⟨_,za _ rfl,rfl⟩ isSubtype_stop ?_;exact ga$ q _$ (h.extBut.push _).push _
def z9{f:Nat}(k:A.handled=L6)(b:uq s.heap I a (jc f) i es.size ep)(h:Zp s.heap a es ep t)(j:t.fits es.size=A3)
  (l:∀ A E Q,Q L6 s->wpAny (model prog w) A (Zv a f i ep) Q E s)
  (q:∀ c,Am I s.heap c->Q L6 { s with heap:=c }):wpAny (model prog w) A (pyNext$ xb I) Q E s:=by
 obtain⟨o,d,m,hd⟩:=id b;obtain⟨p,g,r,e⟩:=id h;refine aa$ Vl$ Ad b.ty Fu$ Dc Fu b.ty dH ?_$ oH _;refine aa$ ga$ aa$ Hk d hd$ aa$ yf g e j ?_;rw[qa ⋯];exact aa$ l _ _ _$ aa$ bg d hd ⋯$ jS (first:=Yb) (n:=0) k (Rb ..) q
end
theorem lO{a:Type}:∀ (l:List a) (i:Nat) (h:i<l.length),(l[i]::l.eraseIdx i).Perm l
 |x::l,0,_=>.refl _
 |x::l,i+1,h=>by
  have:=lO l i ⋯;exact(List.Perm.swap _ _ _).trans$ this.cons x
theorem pT{d:Type}(nx:Nat->Nat):∀ (a k:Nat) (left:List d) (out:Array d),left.length=a->∃ b:List d,(Fn nx a k left out).toList=out.toList++b/\b.Perm left
 |0,k,left,out,h=>by
  obtain rfl:=lq.mp h;exact⟨[],by unfold Fn;simp,.refl _⟩
 |a+1,k,left,out,h=>by
  have c:nx k % left.length<left.length:=gR _ ⋯;unfold Fn;rw[Va c];obtain⟨b,e,p⟩:=pT nx a (k+1) _ (out.push left[nx k % left.length]) (by rw[Zn c];lia);exact⟨left[nx k % left.length]::b,by rw[e];simp,((p.cons _).trans$ lO left _ c)⟩
def zZ nx(xs:Array a):(Qo nx xs).toList.Perm xs.toList:=by
 obtain⟨b,e,p⟩:=pT nx xs.size 0 xs.toList #[] ⋯;unfold Qo
 simp_all
noncomputable def fB(pl:Array Nat)(i:Nat):Nat:=if i=0 then 0 else pl.getD (i - 1) 0+1
def P7{pl}(d:Py pl)(k:i<=pl.size):Ge pl (fB pl i)=i:=by
 refine K2 (LV d _) ⟨k,λj a l b=>?_,λj a l b=>?_⟩
 ·unfold fB;rw[qa ⋯];have c:i - 1<pl.size:=by lia
  have f:=Bb c;have h:pl.getD (i - 1) 0=pl[i - 1]:=by simp[c]
  by_cases e:j=i - 1
  ·subst e;rw[f]at b;cases b;lia
  ·have:=d j _ a _ ⋯ b f;lia
 ·unfold fB;by_cases g:i=0
  ·rw[ia g];lia
  ·rw[qa g];have c:i - 1<pl.size:=by lia
   have h:pl.getD (i - 1) 0=pl[i - 1]:=by simp[c]
   have:=d _ j _ a ⋯ (Bb c) b;lia
section
variable{prog:xa}{w:Ma}{A:Ia}{E:Value->Shared->Prop}{s:Shared}{a:Addr}{es:Array$ Int × Value}{ep:Nat}{t:Md}{i:Nat}
def nH(q:Q (bT w) s):wpAny (model prog w) A setsByText Q E s:=by
 exact aa$ Fg$ ga q
def yp7(b:bT w=A3)(f:Zp s.heap a es ep t)(c:t.fits es.size=A3)(q:Q (((Qo (w.params.setOrder a ep) es)[i]?).map λe=>(e.2,0)) s):wpAny (model prog w) A (Zv a 0 i ep) Q E s:=by
 obtain⟨o,g,x,d⟩:=f;refine aa$ We g d c$ aa$ nH ?_;rw[b];simp;refine aa$ aa$ We g d c$ aa$ nH ?_;rw[b];exact aa$ Fg$ ga$ ga q
def Ţ(j:bT w=Ŷ)(h:Fj (bT w) t)(u:(!t.plain && decide (es.size > 1))=Ŷ)(r:i<=es.size)(p:Zp s.heap a es ep t)(c:t.fits es.size=A3)(q:Q ((es[i]?).map λe=>(e.2,fB t.place (i+1))) s):wpAny (model prog w) A (Zv a (fB t.place i) i ep) Q E s:=by
 apply b_;intro z_;obtain⟨o,g,x,d⟩:=p;have l:t.place.size=es.size:=by simp[SetTable.fits,Da]at c;exact c.1
 apply z_;refine aa$ We g d c$ aa$ nH ?_;rw[j];simp;refine Ff (λz=>?_) (λv=>?_)
 ·have:(!t.plain && decide (es.size > 1))=A3:=z;rw[u]at this;cases this
 ·refine aa ?_;refine Ff (λz=>?_) (λv=>ga ?_)
  ·have:=z;rw[h.led,j]at this;cases this
  ·rw[P7 h.vH (by rw[l];exact r)];refine ga ?_;by_cases k:i<es.size
   ·have f:es[i]?=BD es[i]:=Bb k;have b:i<t.place.size:=by rw[l];exact k
    have m:t.place[i]?=BD t.place[i]:=Bb b;rw[f]at q ⊢;rw[m];have n:fB t.place (i+1)=t.place[i]+1:=by unfold fB;simp[b]
    rwa [n]at q
   ·have f:es[i]?=L6:=jq ⋯
    simp_all
end
section
variable{prog:xa}{w:Ma}{A:Ia}{E:Value->Shared->Prop}{s:Shared}{I a p:Addr}{es:Array$ Int × Value}{ep:Nat}{t:Md}{i:Nat}
def B9{M}{a}(b:n≠0)(q:∀ i,i<n->∀ c,Q i { s with drawn:=c }):wpAny M A (choose a n) Q E s:=λd ps d=>⟨b,q _ (gR _$ Nat.pos_of_ne_zero b) _⟩
theorem mX{M:gj}{d:Type}:∀ (n:Nat) (xs:List d) (s:Shared) (Q:List d->Shared->Prop),xs.length=n->(∀ b c,b.Perm xs->Q b { s with drawn:=c })->wpAny M A (drawOrder n xs) Q E s
 |0,xs,s,Q,h,q=>by
  obtain rfl:=lq.mp h;exact ga$ q [] s.drawn$ .refl _
 |n+1,[],s,Q,h,q=>by cases h
 |n+1,x::xs,s,Q,h,q=>by
  refine aa (B9 ⋯ λi a c=>?_);rw[Va a];exact aa (mX n _ _ _ (by rw[Zn a];simpa using h) λb e p=>ga$ q _ e$ (p.cons _).trans$ lO _ i a)
def cA(h:Heap)(p:Addr)(ps:dN):Prop:=∃ o n,h.get? p=BD o/\o.data=Ϩ (ps.map λ(i:Nat)=>jc i).toArray n
def zfp(c:uq s.heap I a (xb p) i es.size ep)(l:Zp s.heap a es ep t)(h:t.fits es.size=A3)(m:cA s.heap p ps)(r:ps[i]?=BD j)(u:es[j]?=BD v)
  (q:∀ b,uq b I a (xb p) (i+1) es.size ep->md I s.heap b->Q (BD v.2) { s with heap:=b }):wpAny (model prog w) A (pyNext$ xb I) Q E s:=by
 obtain⟨o,d,n,hd⟩:=id c;obtain⟨y,g,B,f⟩:=id l;obtain⟨z,x,k,dT⟩:=m;refine aa$ Vl$ Ad c.ty Fu$ Dc Fu c.ty dH ?_$ oH _;refine aa$ ga$ aa$ Hk d hd$ aa$ yf g f h ?_;rw[qa ⋯];refine aa$ Zf k dT ?_;dsimp only;have e:(ps.map λ(i:Nat)=>jc i).toArray[(i:Int).toNat]?=BD (Qh j 0):=by
  rw[Int.toNat_natCast,Yi,Na,r];rfl
 rw[e];simp;refine aa$ aa$ We g f h ?_;dsimp only;rw[qa ⋯];rw[u];refine ga$ aa$ bg d hd ⋯$ ga ⟨_,rfl,ga$ q _ ⟨_,(Ec _ d$ Le$ cc hd _),?_,?_⟩$ Rb ..⟩
 ·rw[Ql];exact n
 ·rw[cc hd];simp
def zhn(m:A.handled=L6)(b:uq s.heap I a (xb p) i es.size ep)(j:Zp s.heap a es ep t)(l:t.fits es.size=A3)(k:cA s.heap p ps)(u:ps[i]?=L6)
  (q:∀ d,Am I s.heap d->Q L6 { s with heap:=d }):wpAny (model prog w) A (pyNext$ xb I) Q E s:=by
 obtain⟨o,c,r,hd⟩:=id b;obtain⟨x,g,z,f⟩:=id j;obtain⟨y,v,h,dT⟩:=k;refine aa$ Vl$ Ad b.ty Fu$ Dc Fu b.ty dH ?_$ oH _;refine aa$ ga$ aa$ Hk c hd$ aa$ yf g f l ?_;rw[qa ⋯];refine aa$ Zf h dT ?_;dsimp only;have e:(ps.map λ(i:Nat)=>jc i).toArray[(i:Int).toNat]?=L6:=by
  simp_all
 rw[e];refine aa (bg c hd ⋯ (aa (bg (Ec _ c$ Le$ cc hd _) (cc hd (·.setIfInBounds 0 _)) ⋯ ?_)));exact jS (s:=s) (first:=Yb) (n:=0) m ((Rb ..).trans$ Rb ..) q
noncomputable abbrev aB(a:Addr)(first:Value)(n ep:Nat):Obj:={ cls:=ki "set_iterator",data:=ϩ #[first,jc 0,xb a,jc n,jc ep] }
noncomputable abbrev iL(ps:dN):Obj:={ cls:=ki "tuple",data:=Ϩ (ps.map λ(i:Nat)=>jc i).toArray }
def D1(l:Zp s.heap a es ep t)(c:t.fits es.size=A3)(n:es.size<scanBound)
  (j:(!bT w && (!t.plain && decide (es.size > 1)))=Ŷ->Q (xb s.heap.objs.size) { s with heap:=s.heap.push (aB a (jc 0) es.size ep) })
  (k:(!bT w && (!t.plain && decide (es.size > 1)))=A3->∀ b e,b.Perm (List.range es.size)->Q (xb$ s.heap.objs.size+1) { s with heap:=(s.heap.push$ iL b).push (aB a (xb s.heap.objs.size) es.size ep),drawn:=e }) :
  wpAny (model prog w) A (pyIter$ xb a) Q E s:=by
 apply b_;intro z_;obtain⟨o,g,x,d⟩:=id l;have h:s.TypeIs (xb a) "set":=⟨o,g,x.1⟩
 apply z_;refine ZD h rp$ Dc rp h A2 (aa$ ga$ aa$ aa$ yf g d c$ ga$ aa$ aa$ We g d c$ aa$ nH$ ga$ Ff (λz=>?_)$ λz=>?_)$ PySem.F.args_set_iter_1 _
 ·have f:=z;refine aa (mX _ _ _ _ ⋯ λb e i=>?_);have m:b.length=es.size:=by rw[i.length_eq,xh]
  refine aa$ wpAny_newTuple (aa$ aE (da _ g) d c ?_) (by rw[Ra,m];exact ag n);refine aa$ Gc (ga ⟨_,rfl, "set_iterator",_,⟨_,za _ rfl,rfl⟩,Fu.lookup,?_⟩) (by size_fits);have:=k f b e i;rw[<-Tc s.heap _]at this;omega
 ·have f:(!bT w && (!t.plain && decide (es.size > 1)))=Ŷ:=by
   cases y:(!bT w && (!t.plain && decide (es.size > 1)))with
   |false=>rfl
   |true=>exact absurd y z
  refine aa$ ga$ aa$ aE g d c$ aa$ Gc (ga ⟨_,rfl, "set_iterator",_,⟨_,za _ rfl,rfl⟩,Fu.lookup,?_⟩) (by size_fits);exact j f
end
def zW:lR "set_iterator" "__iter__" "set_iterator.__iter__":=.of (owner:="set_iterator") (n:="__iter__") (by rw[pK,Sw];kernel_rfl) (by decide +kernel) (by decide +kernel) (by decide +kernel) (by first|exact ϖ (by decide +kernel)|exact .inr _) (by rw[Ir];kernel_rfl)
def ú:oR table "set_iterator.__iter__" = BD ui.«dict_keyiterator.__iter__»:=fR (id':="dict_keyiterator.__iter__") (by kernel_rfl) (by first|rfl|decide +kernel) (by decide +kernel) (by kernel_rfl)
def zkr a:Lr "set_iterator.__iter__" ⟨[a],[]⟩:=by unfold Lr;kernel_rfl
section
variable{prog:xa}{w:Ma}{A:Ia}{I a p:Addr}{es:Array$ Int × Value}{ep:Nat}{t:Md}
def OY(h:uq s.heap I a first i n ep)(q:Q (xb I) s):wpAny (model prog w) A (pyIter$ xb I) Q E s:=by
 exact ZD h.ty zW$ Dc zW h.ty ú (ga ⟨_,rfl, "set_iterator",_,h.ty,Fu.lookup,q⟩)$ zkr _
def uq.keep(x:uq h I a first i n ep)(k:∀ o,h.get? I=BD o->b.get? I=BD o):uq b I a first i n ep:=let ⟨o,e,r⟩:=x;⟨o,k o e,r⟩
def Zp.keep(x:Zp h a es ep t)(k:∀ o,h.get? a=BD o->b.get? a=BD o):Zp b a es ep t:=let ⟨o,e,r⟩:=x;⟨o,k o e,r⟩
def cA.keep{h a}(x:cA h p ps)(k:∀ o,h.get? p=BD o->a.get? p=BD o):cA a p ps:=let ⟨o,n,e,r⟩:=x;⟨o,n,k o e,r⟩
def LU{f:Nat->Nat}{ord:List$ Int × Value}(F:A.handled=L6)(p:t.fits es.size=A3)(g:a≠I)(G:ord.length=es.size)
  (u:∀ (s:Shared) (i:Nat),Zp s.heap a es ep t->i<=es.size->∀ (A:Ia) (E:Value->Shared->Prop) (Q:Option (Value × Nat)->Shared->Prop),Q ((ord[i]?).map λe=>(e.2,f (i+1))) s->wpAny (model prog w) A (Zv a (f i) i ep) Q E s) :
  Walks prog w A I [I,a] [I] es.size (λi v=>(ord[i]?).map (·.2)=BD v) (λi h=>uq h I a (jc$ f i) i es.size ep/\Zp h a es ep t) where
 sub:=λb c=>by simp at c;simp[c]
 frame:=λH H H st r=>⟨st.1.keep λo e=>r I ⋯ o e,st.2.keep λo e=>r a ⋯ o e⟩
 item:=λi s Q E q st d=>by
  have n:i<ord.length:=by rw[G];exact q
  have B:=Va n;exact j7 st.1 st.2 p g (λj k l x=>u s i st.2 (Ed q) j k l (by rw[B];exact x)) λm C y=>(d _ m s.toks ⋯ ⟨C,st.2.keep λo e=>by rw[y.2 a g];exact e⟩ λb o c e=>by rw[y.2 b (λz=>c (by simp[z]))];exact e)
 done:=λs Q E st d=>by
  exact z9 F st.1 st.2 p (λj k l x=>u s es.size st.2 (pa _) j k l ⋯) λm D=>d m s.toks λb o c e=>D b o (λz=>c (by simp[z])) e
 self:=λH H H H st d=>OY st.1 d
def œ{ps:dN}(D:A.handled=L6)(y:t.fits es.size=A3)(n:a≠I)(r:p≠I)(q:ps.Perm$ List.range es.size) :
  Walks prog w A I [I,a,p] [I] es.size (λi v=>((ps[i]?).bind λj=>es[j]?).map (·.2)=BD v) (λi h=>(uq h I a (xb p) i es.size ep/\Zp h a es ep t)/\cA h p ps) where
 sub:=λb c=>by simp at c;simp[c]
 frame:=λG G G st l=>⟨⟨st.1.1.keep λo e=>l I ⋯ o e,st.1.2.keep λo e=>l a ⋯ o e⟩,st.2.keep λo e=>l p ⋯ o e⟩
 item:=λi s Q E F st d=>by
  have m:ps.length=es.size:=by rw[q.length_eq,xh]
  have f:i<ps.length:=by rw[m];exact F
  have g:=Va f;have x:=Bb$ ke.mp$ q.mem_iff.mp$ di f;exact zfp st.1.1 st.1.2 y st.2 g x λk B u=>(d _ k s.toks (by rw[g,Fh,x];rfl) ⟨⟨B,st.1.2.keep λo e=>by rw[u.2 a n];exact e⟩,st.2.keep λo e=>by rw[u.2 p r];exact e⟩ λb o c e=>by rw[u.2 b (λz=>c (by simp[z]))];exact e)
 done:=λs Q E st d=>by
  have m:ps.length=es.size:=by rw[q.length_eq,xh]
  have g:ps[es.size]?=L6:=by rw[<-m];simp
  exact zhn D st.1.1 st.1.2 y st.2 g λk C=>d k s.toks λb o c e=>C b o (λz=>c (by simp[z])) e
 self:=λG G G G st d=>OY st.1.1 d
def zm9(d:s.TypeIs (xb a) "set")(h:Q Ŷ s):wpAny (model prog w) A (Xj$ xb a) Q E s:=by
 refine aa$ eh d PySem.F.slot_set_len.lookup ?_;generalize e:("set.__len__")=f;subst e;exact aa$ Io (b:=A3) d (by rw[Ir];kernel_rfl)$ Ff (λc=>absurd c ⋯) (λg=>(Ff (λg=>(aa$ xj d$ ga h))$ λc=>absurd (by decide +kernel) c))
end
end L4
namespace L4
open Spec Calls W PyProof.V
section
variable{prog:xa}{w:Ma}{A:Ia}{E:Value->Shared->Prop}{s:Shared}{a:Addr}{es:Array$ Int × Value}{ep:Nat}{t:Md}
def QM{D}{St}(W:Walks prog w A.in1 I y [I] n P St)(N:n<=sizeLine)(k:S ∉ y)(K:s.TypeIs (xb a) "set")(st:St 0 s.heap)
  (t:s.heap.get? S=BD { cls:=ki "list",data:=Ϩ #[] x })
  (ύ:∀ h' tk g c,(∀ b o,b≠S->b≠I->s.heap.get? b=BD o->h'.get? b=BD o)->h'.get? S=BD { cls:=ki "list",dict:=L6,data:=Ϩ g c,slots:=#[] }->Cn P g n->R (.ok$ .ret d) { s with heap:=h',toks:=tk }) :
  wpAny (model prog w) A.in1 (do
    let p <-Od [xb I] (Xj$ xb a)
    if (p || D)=A3 then do
     rule "list.extend.makes-room"
     wK (xb S)
     again (.builtin "list.extend.loop" ⟨[xb S,xb I,d],[]⟩)
    else again (.builtin "list.extend.loop" ⟨[xb S,xb I,d],[]⟩))
   (λr j=>match r with | .done f=>R (.ok f) j | .again v=>v.quiet=A3/\codeAny (model prog w) A v R j) (λe j=>R (.error e) j) s:=by
 have l:∀ h q tk,St 0 h->(∀ b o,b≠S->s.heap.get? b=BD o->h.get? b=BD o)->h.get? S=BD { cls:=ki "list",data:=Ϩ #[] q }->codeAny (model prog w) A (.builtin "list.extend.loop" ⟨[xb S,xb I,d],[]⟩) R { s with heap:=h,toks:=tk }:=by
  intro h q tk u M G;refine codeAny_extend_loopS W.toS N S k d n 0 _ #[] q rfl (Dh _) u G (ItemsOf.nil _) λj g c C E L=>?_;rw[Moved.eq_with C];refine ύ j.heap j.toks g c (λb o i H e=>C.heap b o (λz=>?_)$ M b o i e) E L;rcases Fa.mp z with z|z
  ·exact i z
  ·exact H$ Oa.mp z
 refine aa$ Xb$ zm9 K$ Ff (λF=>(aa$ vm$ aa ?_)) (λF=>ga ⟨Sd Mm _,l _ x _ st (λb o F e=>e) t⟩);refine aa$ jh t rfl ?_;have B:=Ec (Be (·.push Yb)) t rfl;refine jh B rfl ?_;have m:∀ b o,b≠S->s.heap.get? b=BD o->((s.heap.update S (Be (·.push Yb))).update S (Be (·.pop))).get? b=BD o:=λb o i e=>(ye _ _$ Jd i).trans$ (ye _ _$ Jd i).trans e;exact ga ⟨Sd Mm _,l _ _ _ (W.frame 0 _ _ st λb i o e=>m b o (λz=>k$ z ▸ i) e) (λb o i e=>m b o i e) (Ec (Be (·.pop)) B rfl)⟩
theorem NL{a b:Type}{f:a->Option b}{g:a->b}:∀ {l:List a},(∀ j∈l,f j=BD (g j))->l.filterMap f=l.map g
 |[],_=>rfl
 |x::l,h=>by rw[Ze,h x ya,gb,NL λj c=>h j$ ra _ c]
def S9{a}{b:List$ Int × Value}(c:b.length=n)(h:Cn (λi v=>(b[i]?).map (·.2)=BD v) a n):a.toList=b.map (·.2):=by
 apply Cf;intro i;rw[Nd,Na];cases e:a[i]? with
 |none=>
  have:n<=i:=by have:=vn.mp e;rw[h.1]at this;exact this
  simp_all
 |some v=>exact(h.2 i v e).symm
def zf1(es:Array$ Int × Value):(List.range es.size).filterMap (λj=>(es[j]?).map (·.2))=es.toList.map (·.2):=by
 apply Cf;intro i;have e:(List.range es.size).filterMap (λj=>(es[j]?).map (·.2))=(List.range es.size).map (λj=>((es[j]?).map (·.2)).getD Yb):=by
  refine NL λj b=>?_
  simp_all
 rw[e,Na,Na];by_cases a:i<es.size<;>simp[a]
def Q1{a}{ps:dN}(b:ps.Perm$ List.range es.size)(h:Cn (λi v=>((ps[i]?).bind λj=>es[j]?).map (·.2)=BD v) a es.size):a.toList.Perm (es.toList.map (·.2)):=by
 have k:ps.length=es.size:=by rw[b.length_eq,xh]
 have e:a.toList=ps.filterMap (λj=>(es[j]?).map (·.2)):=by
  have d:ps.filterMap (λj=>(es[j]?).map (·.2))=ps.map (λj=>((es[j]?).map (·.2)).getD Yb):=by
   refine NL λj g=>?_;have:=ke.mp$ b.mem_iff.mp g
   simp_all
  rw[d];apply Cf;intro i;rw[Nd,Na];cases c:a[i]? with
  |none=>
   have:es.size<=i:=by have:=vn.mp c;rw[h.1]at this;exact this
   simp_all
  |some v=>
   have this:((ps[i]?).bind λj=>es[j]?).map (·.2)=BD v:=h.2 i v c;cases f:ps[i]? with
   |none=>simp_all
   |some j=>rw[f]at this;simp only[Fh]at this;rw[Option.map_some,this];rfl
 rw[e,<-zf1];exact b.filterMap _
def W1(hh:A.handled=L6)(hA:Zp s.heap a es ep t)(ύ:t.fits es.size=A3)(hk:Fj (bT w) t)(hz:es.size<scanBound)
  (D:∀ h tk n (d:Array Value),(∀ b o,s.heap.get? b=BD o->h.get? b=BD o)->s.heap.objs.size<=h.objs.size->d.toList.Perm (es.toList.map (·.2))->R d.toList { s with heap:=h,toks:=tk,drawn:=n }) :
  wpAny (model prog w) A (collect$ xb a) R E s:=by
 have hn:es.size<=sizeLine:=ag hz;have la:a<s.heap.objs.size:=let ⟨_,g,_⟩:=hA;ua g;let S:Addr:=s.heap.objs.size;let ϊ:No->Shared->Prop:=λq r=>∃ (h:Heap) (tk:Nat) (n:yp) (d:Array Value) (c:Nat),q=.ok (.ret$ xb S)/\r={ s with heap:=h,toks:=tk,drawn:=n }/\(∀ b o,s.heap.get? b=BD o->h.get? b=BD o)/\
  h.get? S=BD { cls:=ki "list",dict:=L6,data:=Ϩ d c,slots:=#[] }/\d.toList.Perm (es.toList.map (·.2))
 let s1:Shared:={ s with heap:=s.heap.push { cls:=ki "list",data:=Ϩ ([]:b').toArray } }
 have V:s1.heap.get? S=BD { cls:=ki "list",data:=Ϩ #[] }:=za _ rfl;have u:Zp s1.heap a es ep t:=hA.keep λo e=>da _ e;have L:s1.heap.objs.size=S+1:=Tc ..;have dh:wpAny (model prog w) A.in1 (xK (xb S) (xb a)$ xb S) (λD r=>match D with | .done f=>ϊ (.ok f) r | .again c'=>c'.quiet=A3/\codeAny (model prog w) A c' ϊ r) (λe r=>ϊ (.error e) r) s1:=by
  have W:s1.TypeIs (xb a) "set":=let ⟨o,g,x,_⟩:=u;⟨o,g,x.1⟩;refine aa$ xj (T:="set") W ?_;have ns:ll (xb S) (xb a)=Ŷ:=by simp only[ll,jd];exact Fd la
  have n1:(ki "set" == ki "list")=Ŷ:=by decide
  simp only[ns];refine aa$ D1 u ύ hz (λhc=>?_) (λhc ps n K=>?_)
  ·have ϋ:uq (s1.heap.push$ aB a (jc 0) es.size ep) s1.heap.objs.size a (jc 0) 0 es.size ep:=⟨_,za _ rfl,rfl,rfl⟩
   have j:Zp (s1.heap.push$ aB a (jc 0) es.size ep) a es ep t:=u.keep λo e=>da _ e;have B:io { s1 with heap:=s1.heap.push (aB a (jc 0) es.size ep) } (xb a) "set":=let ⟨o,g,x,_⟩:=j;⟨o,g,x.1⟩;have N:a≠s1.heap.objs.size:=by rw[L];exact va$ Jb la
   have M:S ∉ [s1.heap.objs.size,a]:=by rw[L];simp only[Fa,Ve,qp,not_or];exact⟨va$ yb _,Fd la⟩
   have Q:∀ (l:List$ Int × Value),l.length=es.size->l.Perm es.toList->∀ h tk d c,(∀ b o,b≠S->b≠s1.heap.objs.size->(s1.heap.push$ aB a (jc 0) es.size ep).get? b=BD o->h.get? b=BD o)->h.get? S=BD { cls:=ki "list",dict:=L6,data:=Ϩ d c,slots:=#[] }->
     Cn (λi v=>(l[i]?).map (·.2)=BD v) d es.size->ϊ _ { s1 with heap:=h,toks:=tk }:=λl H K h tk d c k g C=>⟨h,tk,s.drawn,d,c,rfl,rfl,λb o e=>by
      have P:=ua e;exact k b o (va P) (by rw[L];exact va$ Jb P)$ da _$ da _ e,g,by rw[S9 H C];exact K.map _⟩
   cases ό:bT w with
   |true=>
    have H:(Qo (w.params.setOrder a ep) es).toList.length=es.size:=by rw[(zZ _ _).length_eq,Db]
    exact QM (LU (f:=λF=>0) (ord:=(Qo (w.params.setOrder a ep) es).toList) hh ύ N H λr i G F A' E' Q' q'=>yp7 ό G ύ (by rw[<-Nd];exact q')) hn M B ⟨ϋ,j⟩ (da _ V)$ Q _ H$ zZ _ _
   |false=>
    have K:(!t.plain && decide (es.size > 1))=Ŷ:=by rw[ό]at hc;simpa using hc
    have H:es.toList.length=es.size:=Db;exact QM (LU (f:=fB t.place) (ord:=es.toList) hh ύ N H λr i G hi A' E' Q' q'=>Ţ ό hk K hi G ύ (by rw[<-Nd];exact q')) hn M B ⟨ϋ,j⟩ (da _ V)$ Q _ H$ .refl _
  ·let I:Heap:=(s1.heap.push$ iL ps).push$ aB a (xb s1.heap.objs.size) es.size ep;have k2:∀ b o,s1.heap.get? b=BD o->I.get? b=BD o:=λb o e=>da _$ da _ e;have z2:(s1.heap.push$ iL ps).objs.size=s1.heap.objs.size+1:=Tc ..;have ϋ:uq I (s1.heap.objs.size+1) a (xb s1.heap.objs.size) 0 es.size ep:=⟨_,by rw[<-z2];exact za _ rfl,rfl,rfl⟩
   have j:Zp I a es ep t:=u.keep λo e=>k2 a o e;have X:cA I s1.heap.objs.size ps:=⟨_,_,da _$ za _ rfl,rfl⟩
   have B:io { s1 with heap:=I,drawn:=n } (xb a) "set":=let ⟨o,g,x,_⟩:=j;⟨o,g,x.1⟩;refine QM (s:={ s1 with heap:=I,drawn:=n }) (œ (p:=s1.heap.objs.size) hh ύ (by rw[L];exact va$ Jb$ Jb la) (va$ yb _) K) hn (by rw[L];simp only[Fa,Ve,qp,not_or];exact⟨va$ Jb$ yb _,Fd la,va$ yb _⟩) B ⟨⟨ϋ,j⟩,X⟩ (k2 _ _ V) λh tk d c k g C=>⟨h,tk,n,d,c,rfl,rfl,λb o e=>?_,g,Q1 K C⟩
   have P:=ua e;exact k b o (va P) (by rw[L];exact va$ Jb$ Jb P)$ k2 b o$ da _ e
 have m:∀ {h:Heap} {tk c:Nat} {n:yp} {d:Array Value},(∀ b o,s.heap.get? b=BD o->h.get? b=BD o)->h.get? S=BD { cls:=ki "list",dict:=L6,data:=Ϩ d c,slots:=#[] }->d.toList.Perm (es.toList.map (·.2))->R d.toList { s with heap:=h,toks:=tk,drawn:=n }:=λO g C=>D _ _ _ _ O (Ed$ ua g) C;refine aa$ Hr$ Kc xy$ aa$ Gc$ ga ⟨Sd Wn _,Kc MG$ dc dh (λf r x=>?_) (λe r x=>by obtain⟨_,_,_,_,_,z,_⟩:=x;cases z)⟩;cases f with
 |done f=>
  obtain⟨h,tk,n,d,c,e,rfl,O,g,C⟩:=x;cases e;exact aa$ wm g$ ga$ m O g C
 |again c1=>
  refine⟨x.1,mf x.2 λq s2 y=>?_⟩;obtain⟨h,tk,n,d,c,rfl,rfl,O,g,C⟩:=y;exact aa$ wm g$ ga$ m O g C
end
end L4
namespace L4
open Spec L2
set_option tactic.hygienic true in
def zhj d:(Rm d).Nodup:=by
 have h:∀ (l c:dl),c.Nodup->(l.foldl RB c).Nodup:=by
  intro l;induction l with
  |nil=>simp_all
  |cons x l f=>
   intro c h;refine f _ ?_;unfold RB;split
   ·exact h
   ·rename_i j
    rw[Uc];refine⟨h,by simp,λa g b i=>?_⟩;intro e
    simp_all
 exact h d [] oe
theorem AT{f:Type}[DecidableEq f]:∀ {a b:List f},a.Nodup->(∀ x∈a,x∈b)->b.length<=a.length->a.Perm b
 |[],b,_,_,h=>by
  simp_all
 |x::a,b,c,d,i=>by
  rw[lf]at c;exact((AT c.2 (λy g=>(List.mem_erase_of_ne$ show y≠x from λe=>c.1 ⋯).mpr$ d y$ ra _ g)$ by simp_all).cons x).trans (List.perm_cons_erase$ d x ya).symm
theorem KU:∀ {a:xa} {w:Ma} {l:List$ Int × Value},fE (Hf a w) l->∃ d,Bh (l.map (·.2)) d/\d.length=l.length/\∀ k,k∈d ↔ ∃ e∈l,(Hf a w).is k e.2=A3
 |a,w,[],_=>⟨[],.nil,rfl,λk=>by simp⟩
 |a,w,e::l,h=>by
  obtain⟨d,i,j,m⟩:=KU (λx b=>h x$ .tail _ b);obtain⟨⟨k,f,_⟩,_⟩:=h e (.head _);have c:=f;obtain⟨t,g⟩:=qu f;refine⟨k::d,by rw[gb,g];exact .cons k t i,by simp[j],λn=>?_⟩;rw[Fa,m n];constructor
  ·rintro (rfl|⟨x,b,q⟩)
   ·exact⟨e,.head _,c⟩
   ·exact⟨x,.tail _ b,q⟩
  ·rintro ⟨x,b,q⟩;rcases Fa.mp b with rfl|b
   ·exact ϖ$ (Hf a w).inj _ _ _ q c
   ·exact ϙ ⟨x,b,q⟩
def A6(p:c.Perm l):∀ {b},Bh l b->∃ a,Bh c a/\a.Perm b:=by
 induction p with
 |nil=>intro b h;exact⟨b,h,.refl _⟩
 |cons x p f=>
  intro b h;cases h with
  |cons n t h=>obtain⟨a,d,e⟩:=f h;exact⟨n::a,.cons n t d,e.cons n⟩
 |swap x y l=>
  intro b h;cases h with
  |cons n t h=>
   cases h with
   |cons m u h=>exact⟨m::n::_,.cons m u$ .cons n t h,.swap _ _ _⟩
 |trans j k g i=>grind
def TJ(P:xa)(w:Ma)(b:dl)(a:Addr):Heap->Prop:=λh=>Cr (Hf P w) (bT w) h a (λk=>(Rm b).any (·== k)) (Rm b).length
def Þ:∀ b c:Heap,TJ P w d a b->(∀ u,b.get? a=BD u->c.get? a=BD u)->TJ P w d a c:=λb c x k=>CQ x k
def Ĵ(X:Cx):gV->Hp->VK->Prop:=λxs H Q=>∃ (p:Addr) (ns:dl),xs=[ϕ p]/\He X.K H p (ns.map ϣ)/\ns.length<64/\∀ l,H l=L6->Q (ϕ l) (Nb H l$ Ϧ$ TJ X.prog X.w ns l)
def č(j:X.gc=A3):jm X (ki "set")$ Ĵ X:=by
 rintro h s v H xs w Q I r ⟨p,f,rfl,m,l,q⟩;apply b_;intro z_;obtain⟨u,rfl,n⟩:=Nq r;cases n;obtain⟨a,i,pl,t⟩:=I.list m;have d:a.length=f.length:=by rw[<-i.length,Ra]
 apply z_;refine J1 (I.ok.hd j) pl.isList (kL i) (by rw[Ea,d];exact MX$ ub (Ed l) ⋯) λh' tk c k=>?_;rw[show a.toArray.size=f.length by rw[Ea,d],tM]at c;refine⟨ϕ s.heap.objs.size,_,I.laid (λb o e=>k b o (ua e) e) (pa _) ?_,rfl,q _$ I.lc.fresh$ pa _⟩;exact⟨c,let ⟨o,_,_,_,g,_⟩:=c;⟨o,g⟩,Þ⟩
def T2(I:Ta X a b H s) d':Ta X a b H { s with drawn:=d' }:=⟨I.ok,I.os,I.bare,I.base,I.loc,I.cell,I.free,I.Dg,I.pin,I.lc,I.len⟩
def ã(X:Cx):gV->Hp->VK->Prop:=λxs H Q=>∃ (a:Addr) (ns:dl),xs=[ϕ a]/\H a=BD (Ϧ$ TJ X.prog X.w ns a)/\ns.length<64/\(Rm ns).length<=ns.length/\∀ l,H l=L6->Q (ϕ l) (Nb H l$ ϯ$ (oq$ Rm ns).map ϣ)
def j8(W:X.gc=A3):jm X (Ϟ "sorted")$ ã X:=by
 intro C s σ H xs us Q I r h;apply b_;intro z_;obtain⟨a,i,rfl,T,S,ό,q⟩:=h;obtain⟨u,rfl,rfl⟩:=Nq r;obtain⟨⟨o,l,ep,t,ύ,K,L,M,N,y,O,P,R⟩,_,_⟩:=I.lc a _ T;obtain⟨is,i1,i2,i3⟩:=KU M;have hp:is.Perm$ Rm i:=(AT (zhj i) (λx hx=>(i3 x).mpr$ (N x).mp$ Ld.mpr ⟨x,hx,by simp⟩)$ by rw[i2,Db,P];exact pa _).symm;have j:l.size<64:=by lia
 apply z_;have hn:l.size<=sizeLine:=ag y;refine Yn kind_sorted plain_sorted entry_sorted (args_sorted1 _)$ aa (m:=checkCount "sorted" 1 1 _)$ ga$ aa (W1 (A:=X.A.in1) (I.ok.hd W) ⟨o,ύ,K,L⟩ O R y λh' tk d' d B k c=>?_);obtain⟨a0,ϋ,n⟩:=A6 c i1;have z:d.toList.length=l.size:=by rw[c.length_eq,Ra,Db]
 refine aa$ Et ?_ (by rw[z];exact hn);have f:(h'.push$ zm "list" d.toList.toArray 0).get? h'.objs.size=BD (zm "list" d.toList.toArray 0):=za _ rfl;refine aa$ Xb$ Dc bR ⟨_,f,rfl⟩ mK (cR f ϋ (by rw[z];exact j) λg p D E F=>⟨_,rfl,(ga ⟨_,rfl,?_⟩)⟩)$ dR _;have G:p=oq (Rm i):=cF (E.trans$ n.trans$ hp.trans (Xw _).symm) F$ fJ _;subst G;obtain⟨e,ϊ⟩:=Y0 (out:=g) f;exact⟨ϕ h'.objs.size,_,(T2 I d').laid (t':=tk) (λb o v=>by
  have lt:b<h'.objs.size:=ua$ B b o v;rw[eR (va lt) (by rw[MB];exact Jb lt)];exact da _$ B b o v) k (show Zj X.prog X.w _ _ _ (ϯ$ (oq$ Rm i).map ϣ)from⟨by rw[Ra,((Xw$ Rm i).length_eq)];exact ub (show (Rm i).length<=1000 by lia) ⋯,g.toList,e,OF D,by rw[fj];exact ϊ⟩),rfl,q _$ I.lc.fresh k⟩
def mC(x:D):M D:=λa=>match (Bf a x).bind Ls with
 |some ns=>if ns.length<64 then yA ((oq$ Rm ns).map Z) a else ϗ
 |none=>ϗ
def ydi a:(Rm a).length<=a.length:=by rw[<-tM];exact NB _ _
theorem kX{b:ad}{H:Hp}:∀ (a:dl),Za T b H (a.map Z) (a.map ϣ)
 |[]=>Za.nil
 |i::a=>Za.cons (by rw[Ka]) (kX a)
def Q2(hK:T.K=X.K)(y:X.gc=A3)(O:Gl X "sorted")(P:X.mg "sorted" = L6)(q:Gl X "set")(r:X.mg "set" = L6)(N:FE T X e f)
  (A:ka [e] X.env=(Ŷ,Cb e X.env)::ka [] X.env:=by rfl) (u:(Ub b$ ka [] X.env).any (·.1)=Ŷ:=by rfl)
  (i:ka [ϟ (ϛ "set" w) [e] [] b] X.env=(Ŷ,Cb (ϟ (ϛ "set" w) [e] [] b) X.env)::ka [] X.env:=by rfl) (g:(Ub k$ ka [] X.env).any (·.1)=Ŷ:=by rfl) :
  FE T X (ϟ (ϛ "sorted" p) [ϟ (ϛ "set" w) [e] [] b] [] k)$ Vc mC f:=by
 intro j s V H Q I h;refine dG (j8 y) O P L4.QY (yr (rE (č y) q r rfl (yr N Nt A) ⋯ ⋯ A u) Nt i) ⋯ ⋯ i g j s V H Q I ?_;obtain⟨W,ρ,σ,L,S,R⟩:=h;refine⟨W,ρ,σ,L,S,R.bind λd x ό v ϊ D e1 B ϋ c=>?_⟩;unfold mC at c;cases n:(Bf x d).bind Ls with
 |none=>rw[n]at c;exact c.elim
 |some ns=>
  rw[n]at c;dsimp only at c;by_cases m:ns.length<64
  ·rw[ia m]at c;obtain⟨ys,C,E⟩:=pf.mp n;obtain⟨a,vs,rfl,G,ύ⟩:=B.ls ϋ C;have F:=lF ύ E;subst F;exact⟨a,ns,rfl,He.of G,m,λl z=>⟨l,ns,rfl,qf,m,ydi ns,λl2 t=>(dC (Kb.mono (qj (o:=Ϧ _) z) c) (B.fresh z) (kX _) t)⟩⟩
  ·rw[qa m]at c;exact c.elim
noncomputable def yhk(x:D)(xs:g'):M D:=λa=>match x,xs with
 | U n,[]=>(match a[n]? with
  |some (J _)=>Y Ϛ (a.set n$ J [])
  |_=>ϗ)
 |_,_=>ϗ
def aD(c:g'):M D:=λb=>match c with
 |[x]=>(match mi b x with
  |some a=>Y (U b.length) (b++[J a])
  |none=>ϗ)
 |_=>ϗ
def Q9:br T YN aD:=by
 intro E n H j d m Q r p h
 match d with
 |[]=>cases h
 |[x]=>
  unfold aD at h;dsimp only at h;cases b:mi j x with
  |none=>rw[b]at h;exact h.elim
  |some g=>
   rw[b]at h;obtain⟨v,k,rfl,i,rfl⟩:=p;obtain⟨a,ws,rfl,e,f⟩:=wz r i b;exact⟨a,ws,rfl,e,λl c=>(h _ _ _ (iw c) (r.push c ⟨ws,qf,Paired.bq f λl l z=>⟨z.1,Ka.mono (iw c) _ _ z.2⟩⟩)$ KC r)⟩
 |_::_::_=>trivial
section
variable{pins:List$ Addr × Obj}{σ:St}{H:Hp}{s:Shared}
def _root_.L2.Ta.freeze(I:Ta X pins σ H s)(hd:H a=BD (Ϝ d))(e:s.heap.get? a=BD h):Ta X pins σ (Nb H a$ ϧ h$ Ϝ d) s:=by
 have f:∀ b u,H b=BD u->u≠ Ϝ d->b≠a:=λb u q n z=>by rw[z,hd]at q;exact n (Sb q).symm
 refine I.step (ch:=[]) (λj z=>nomatch z) (λb o j j j q j=>q) (λb o j j j q j=>⟨o.slots,q⟩) (λb o j q n=>?_) (λb o j q=>⟨o,q⟩)
  (λb xs q=>by rw[Vd$ f b _ q (λz=>by cases z)];exact q) (λb u xs q=>by rw[Vd$ f b _ q (λz=>by cases z)];exact q) (λb ps q=>⟨#[],by rw[Vd$ f b _ q (λz=>by cases z),q];simp⟩) (λm i=>i) (λb u q=>?_) I.bare
 ·rw[Vd (λz=>by rw[z,hd]at n;cases n)];exact n
 ·by_cases g:b=a
  ·subst g;rw[qf]at q;cases q;exact⟨e,I.lc b _ hd⟩
  ·rw[Vd g]at q;exact(I.lc b u q).Dk (λc v j z=>z) (λc z=>by rw[Vd$ f c _ z (λy=>by cases y)];exact z) λc xs z=>by rw[Vd$ f c _ z (λy=>by cases y)];exact z
def Lf(I:Ta X pins σ H s)(hd:H a=BD (ϧ g$ Ϝ b)):∃ f d c,KV b f/\g.data=.dict d c/\s.heap.DictAt (ek X.prog X.w) a f c:=by
 obtain⟨e,_,_,f,h,o,d,c,j,ex,i,r⟩:=I.lc a _ hd;rw[e]at j;cases j;exact⟨f,d,c,h,i,g,d,e,ex,i,r⟩
end
noncomputable def Itm(d:Addr)(b:Obj)(a:List$ Nc × V):It:=
 ⟨λi H=>H d=BD (ϧ b$ Ϝ a)/\∃ x,a[i]?=BD x,λi H v c=>∃ p k x,H p=L6/\v=ϕ p/\a[i]?=BD (k,x)/\c=Nb H p (.Ha [kV k,x]),λi H=>H d=BD (ϧ b$ Ϝ a)/\i=a.length⟩
theorem lH{d:Type}:∀ {c:List$ d × V} {g:List$ d × Value} (r:KV c g) (i:Nat) {k:d} {x:V},c[i]?=BD (k,x)->∃ u,g[i]?=BD (k,u)/\gd x u
 |_,_,Ϥ,i,_,_,h=>by simp at h
 |_,_,ϡ (b:=q) a b,0,k,x,h=>by
  simp at h;obtain⟨e,f⟩:=a;rw[h]at e f;exact⟨q.2,by simp[List.getElem?_cons_zero];exact A0 e.symm rfl,f⟩
 |_,_,ϡ a b,i+1,k,x,h=>by
  exact lH b i h
def HX(h:(ek P w).is k v=A3):gd (kV k) v:=by
 rcases Lq h with⟨i,t,rfl,rfl⟩|⟨x,t,rfl,rfl⟩<;>exact⟨t,rfl⟩
def Ĩ{P:xa}{w:Ma}{K:ϔ}{j:List Ja}{kk:Nat}{N:Td}(d f:Addr)(T:Obj)(t:List$ Nc × V)(a0:d≠f){ό:Array zu}{O:Nat}(n:T.data=.dict ό O) :
  Xm P w K (ϰ j kk N) (Itm d T t) [f] f (λi h=>∃ ok e,IsItemIter h f d i t.length O ok e) where
 mem:=by simp
 obj:=λi h st b c=>by
  obtain⟨ok,e,s1⟩:=st
  simp_all
 keep:=λi h h' st k=>by
  obtain⟨ok,e,s1⟩:=st;exact⟨ok,e,k f ⋯ _ s1⟩
 item:=by
  intro X F M D R i v s σ H E I y st G;subst F M D;obtain⟨hd,⟨k,x⟩,S⟩:=G;obtain⟨vs,C,B,a,g,L⟩:=Lf I hd;rw[n]at g;cases g;obtain⟨u,hu,ru⟩:=lH a i S;obtain⟨ok,e,s1⟩:=st;rw[a.length]at s1;refine wpAny_pyNext_items_item s1 L hu λr h' m ho ϊ a1 hk=>?_;have l:=Fd$ ua s1;refine⟨xb s.heap.objs.size,rfl,wpAny_letOwnedTupleGo_items ho λh2 ύ p=>⟨ϕ s.heap.objs.size,Nb H s.heap.objs.size _,I.Ou (λb o c q=>p.extBut b o (λz=>c (by simp[z]))$ hk b o (λz=>c (by simp[z])) q) y (pa _) ?_,rfl,⟨_,k,x,(I.lc.fresh$ pa _),rfl,S,rfl⟩,⟨r,u,by rw[a.length];exact ύ⟩,λb c=>?_⟩⟩
  ·exact⟨(show 2<=sizeLine by decide),[r,u],ϡ (HX m)$ ϡ ru Ϥ,⟨_,(p.extBut _ _ l ϊ),rfl,_,rfl⟩⟩
  ·obtain rfl:b=f:=by simpa using c
   rw[Vd (λz=>l z.symm)];exact(y b c).1
 done:=by
  intro X F M D R i v s σ H E I y st G;subst F M D;obtain⟨hd,hi⟩:=G;obtain⟨vs,C,B,a,g,L⟩:=Lf I hd;rw[n]at g;cases g;obtain⟨ok,e,s1⟩:=st;rw[a.length]at s1 hi;exact wpAny_pyNext_items_end (I.ok.hd R) s1 L ⋯ λh' ϋ=>⟨rfl,I.vv (λb o c q=>ϋ b o (λz=>c (by simp[z])) q) y⟩
 self:=λA i s Q E st h=>by
  obtain⟨ok,e,s1⟩:=st;exact W.kcp_self s1 h
def cr(l a:Addr):Heap->Prop:=λh=>h.IsItemsView l a
def g7:V->gV->Hp->VK->Prop:=λx xs H Q=>∃ a b,x=ϕ a/\xs=[]/\Rd H a (Ϝ b)/\∀ l,H l=L6->Q (ϕ l) (Nb H l$ Ϧ$ cr l a)
def Ex(h:H a=BD o):Nb H a o=H:=by
 funext b;unfold Nb;split;all_goals simp_all
def qB(h:Heap) o(a:o.data≠.freed):(h.push o).get? h.objs.size=BD o:=by
 obtain⟨c,d,x,b⟩:=o;simp[Heap.get?,Heap.push]
 simp_all
section
variable{elts:List Ja}{kk:Nat}{p0:Td}
def mV:qw X "dict.items" g7:=by
 rintro f s st H x t v r Q I l j ⟨a,h,rfl,rfl,g,q⟩;cases l;cases j;obtain⟨z,hd,ws,i,d⟩:=cu I.lc g;refine wh yh d.typeIs PySem.F.entry_dict_items (PySem.F.args_dict_items_1 _) (meets_dict_items _ a hd) ⟨⟨ws,d⟩,⟨ϕ s.heap.objs.size,_,I.laid (λb o e=>da _ e) (pa _) ?_,rfl,q _$ I.lc.fresh$ pa _⟩⟩;refine⟨⟨_,qB _ _ (λz=>by cases z),rfl,rfl⟩,⟨_,qB _ _ (λz=>by cases z)⟩,λm n p k=>?_⟩;obtain⟨o,e,c⟩:=p;exact⟨o,k o e,c⟩
def O9(e:TE):TI:=λf H R=>e f H λv c=>∃ l a b,v=ϕ l/\c l=BD (Ϧ$ cr l a)/\Rd c a (Ϝ b)/\∀ d,c a=BD (Ϝ b)\/c a=BD (ϧ d$ Ϝ b)->R (Itm a d b) (Nb c a$ ϧ d$ Ϝ b)
def CW(A:PE X d r):PI X (ϰ elts kk p0) d$ O9 r:=by
 intro g s σ H R I h;refine ud (A g s σ H _ I h) λv s1 ſ=>?_;obtain⟨x,H1,k,D,C⟩:=ſ;obtain⟨l,a,i,rfl,B,c,q⟩:=C;cases D;obtain⟨f,n,m⟩:∃ f,(H1 a=BD _\/H1 a=BD (ϧ f _))/\Ta X g σ (Nb H1 a$ ϧ f _) s1:=by
  rcases c with c|⟨f,c⟩
  ·obtain⟨_,_,E,j,o,w,u,e,_⟩:=k.lc a _ c;exact⟨o,ϖ c,k.freeze c e⟩
  ·exact⟨f,ϙ c,by rw[Ex c];exact k⟩
 obtain⟨E,w,u,j,t,p⟩:=Lf m qf;refine wpAny_pyIter_items ((k.lc l _ B).1) p ⟨s1.heap.objs.size,[s1.heap.objs.size],_,Itm a f i,_,rfl,m.kept (λb o e=>da _ e),Ĩ a _ f i (va p.lt_size) t,⟨Yb,Yb,by rw[j.length];exact qB _ _ (λz=>by cases z)⟩,λb y=>?_,q f n⟩;obtain rfl:b=s1.heap.objs.size:=by simpa using y
 exact m.Vm (pa _)$ m.lc.fresh$ pa _
noncomputable def gm(a:List$ Nc × D):NX:=λi b=>match a[i]? with
 |some p=>BD (BD$ Ϗ [kH p.1,p.2])
 |none=>if i=a.length then BD L6 else L6
def ZG(d:D):M NX:=λa=>match d with
 | Ϭ ks xs=>if ks.length=xs.length then Y (gm$ ks.zip xs) a else ϗ
 |_=>ϗ
def EA(f:Ev->M D):Ev->M NX:=λa=>Lc (f a) ZG
def JM k:Ka T a H (kH k)$ kV k:=by
 cases k<;>(unfold kH kV;rw[Ka])
def rO(d:H a=BD (Ϝ c)):pd μ H μ$ Nb H a$ ϧ od$ Ϝ c:=by
 have f:∀ b u,H b=BD u->u≠ Ϝ c->b≠a:=λb u q n z=>by rw[z,d]at q;exact n (Sb q).symm
 refine⟨⟨[],by simp⟩,λp xs h=>by rw[Vd$ f p _ h (λz=>by cases z)];exact h,λp o u h=>by rw[Vd$ f p _ h (λz=>by cases z)];exact h,λp o h n=>⟨?_,n⟩⟩;by_cases e:p=a
 ·subst e;rw[d]at h;cases h;exact⟨_,qf,ϙ$ ϖ ⟨od,c,rfl,rfl⟩⟩
 ·exact⟨o,by rw[Vd e];exact h,ϖ rfl⟩
theorem kE{c e:Type}{R:c->e->Prop}:∀ {xs:List c} {d:List e},Paired R xs d->∀ (i:Nat) {x:c},xs[i]?=BD x->∃ y,d[i]?=BD y/\R x y:=by
 intro _ _ h;induction h with
 |nil=>intro i _ h;simp at h
 |cons a _ k=>
  intro i x h;cases i with
  |zero=>clear k;simp_all
  |succ i=>exact k i h
def CO(h:FE T X e f)(m:Wc e "items" X.env (Cb e X.env)=Cb e X.env:=by rfl)(o:(j.endLine == k.line)=A3:=by rfl) :
  Zq T X (ϰ elts kk p0) (ϟ (ϝ e "items" j) [] [] k)$ EA f:=by
 intro G s st H R I hw;refine CW (xO sd yh bo mV h m o) G s st H R I ?_;obtain⟨μ,ρ,σ,hE,hr,hp⟩:=hw;refine⟨μ,ρ,σ,hE,hr,hp.bind λd ύ c v A b e1 r1 q1 w=>?_⟩;unfold ZG at w;cases d with
 |Aa ks xs=>
  dsimp only at w;by_cases ό:ks.length=xs.length
  ·rw[ia ό]at w;obtain⟨a,g,rfl,hn,n,O,Q⟩:=q1;refine⟨⟨a,g,rfl,n⟩,a,g,rfl,rfl,n,λl t=>?_⟩;have S:a≠l:=by rcases n with n|⟨_,n⟩<;>exact Cm n t
   have N:Rd (Nb A l$ Ϧ$ cr l a) a$ Ϝ g:=by unfold Rd;rw[Vd S];exact n
   refine⟨l,a,g,rfl,qf,N,λϋ B=>?_⟩;have x1:pd c A c$ Nb A l$ Ϧ$ cr l a:=qj t;have x:Xc T c (Nb A l$ Ϧ$ cr l a) ύ:=r1.fresh t;obtain⟨x2,V⟩:pd c A c _/\Xc T c _ ύ:=by
    rcases B with B|B
    ·have y:=rO (μ:=c) (od:=ϋ) B;exact⟨x1.trans y,x.keep y (λb K=>Vd (λz=>hn (by rw[<-z];exact K)))$ x.tb.out (λb K=>Vd K)$ ϙ ⟨_,B⟩⟩
    ·rw[Ex B];exact⟨x1,x⟩
   have h3:Nb (Nb A l$ Ϧ$ cr l a) a _ a=BD (ϧ ϋ$ Ϝ g):=qf;refine Kb.here (Kb.mono x2 w) V λa0 H2 σ2 i ex r2=>?_;have W:=ex.Oc _ _ _ h3;have E:=Wg.mono (x2.trans ex)$ BG O Q;unfold gm;cases ei:(ks.zip xs)[i]? with
   |none=>
    by_cases L:i=(ks.zip xs).length
    ·rw[ia L];exact⟨W,by rw[L];exact Paired.length E⟩
    ·rw[qa L];trivial
   |some p=>
    obtain⟨q,ϊ,P,rx⟩:=kE E i ei;refine⟨⟨W,q,ϊ⟩,λz H' y=>?_⟩;obtain⟨r,k',x',u,rfl,C,rfl⟩:=y;rw[ϊ]at C;cases C;refine⟨qj u,r2.fresh u,?_⟩;rw[Ka,P];exact⟨r,_,rfl,qf,Za.cons (JM _)$ Za.cons (Ka.mono (qj u) _ _ rx) Za.nil⟩
  ·rw[qa ό]at w;exact w.elim
 |_=>exact w.elim
end
def aj(nx:NX)(n:Nat)(e:D->Ev->Option Ev)(fi:Ev->M Bool)(b:Ev->M D):Nat->Nat->Ev->M Unit
 |0,_,_=>pb
 |k+1,i,g=>λf=>match nx i f with
  |none=>ϗ
  |some L6=>Y () f
  |some (BD d)=>match e d g with
   |none=>ϗ
   |some a=>Lc (Qt$ fi a) (λc=>if c=A3 then Lc (Qt$ b a) λy=>Lc (lj (U n) [y]) λh=>aj nx n e fi b k (i+1) a else aj nx n e fi b k (i+1) a) f
def aW(d:D->Ev->Option Ev)(c:Ev->M Bool)(b:Ev->M D)(e:Ev)(nx:NX):M D:=λa=>
 Lc (aj nx a.length d c b 1001 0 e) (λf=>ret$ U a.length)$ a++[ϑ []]
def Tk(a:Ev->M NX)(e:dN)(f:D->Ev->Option Ev)(d:Ev->M Bool)(c:Ev->M D):Ev->M D:=λb=>Lc (a b)$ aW f d c$ CC e b
def nX {st}
  (hc:X.gc=A3) (L:yk X x M' ix a)
  (d7:∀ cl C O G ex,FG T (Ro X (x::z0::M') a cl C O G ex) a9 S)
  (d4:∀ cl C O G ex,gy T (Ro X (x::z0::M') a cl C O G ex) b2 fi)
  (c6:∀ cl C O G ex,FE T (Ro X (x::z0::M') a cl C O G ex) b1 H)
  (I3:Ta X b6 st H3 s3) (c7:∀ b∈fp,xl X b6 H3 b/\b<s3.heap.objs.size) (d6:I.Ns s3.heap.objs.size m) (kp:∀ b o,s3.heap.get? b=BD o->I.get? b=BD o)
  (TT:Xm X.prog X.w X.K a9 ύ fp it tn) (b5:tn 0 I) (so:rz T P H3 nx ύ) (hE:sh T P H3 ρ st) (r3:Xc T P H3 c3) (hn:P[n]?=BD D0)
  (p3:Kb T E (Ka T) P H3 (Lc (aj nx n S fi H 1001 0$ CC ix ρ) (λr=>ret$ U n) c3) Q)
  (d2:∀ s6 q m6,s6.heap.Ns s3.heap.objs.size m6->q s3.heap.objs.size=L6->Un (dk X.stack) fp H3 q s3.heap s6.heap->s6.os=s3.os->Xh X.prog X.w q s6.heap->Ah s6.gens->Q (ϕ D0) q->RR (.ok .next) s6) :
  codeAny (model X.prog X.w) X.A (.compStart (ϴ b1 [⟨a9,a4,b2,0⟩] a b9) 0 (xb it) (xb D0)$ compEnvC a (jj X.env a.names []) s3.heap.objs.size X.env)
   RR { s3 with heap:=I,toks:=t' }:=by
 have I4:=ψ (z0:=z0) (t':=t') I3 L c7 d6 kp;let ό:Cx:=Ro X (x::z0::M') a (jj X.env a.names []) s3.heap.objs.size s3 H3 fp;have a8:∀ {q:Hp},(∀ b∈fp,q b=L6)->∀ b∈fp,xl ό [] q b:=fun {q} hn b hb=>⟨hn b hb,(I4.ok.NF b hb).1,I4.ok.Ss b hb,ϖ hb,(I4.ok.NF b hb).2,λp hp=>absurd (show p∈([]:em)from hp) ⋯⟩
 have Qj:codeAny (model X.prog X.w) X.A (.compLoop (ϴ b1 [⟨a9,a4,b2,0⟩] a b9) 0 (xb it) (xb D0) ό.env) RR { s3 with heap:=I,toks:=t' }:=by
  refine codeAny_loop rfl (λk s'=>∃ i g q h t F,Ta ό [] F q s'/\tn i s'.heap/\(∀ b∈fp,q b=L6)/\pd P H3 g q/\sh T g q t F/\Xc T g q h/\
   Kb T E (Ka T) g q (Lc (aj nx n S fi H k i t) (λr=>ret$ U n) h) Q) ?_ 1001 ⟨0,P,H3,c3,CC ix ρ,bA ix st,I4,b5,λb hb=>(c7 b hb).1.1,ϭ _ _,Θ ix hE,r3,p3⟩
  rintro k s' ⟨i,g,q,h,t,F,I',c9,c4,ϊ,b8,r',p'⟩;show wpAny _ X.A ((compTurn (ϴ b1 [⟨a9,a4,b2,0⟩] a b9) 0 _ (xb D0) ό.env).onRaise$ λx=>do Hh x ό.env;theTreesLotGoes x) _ _ s';refine wpAny_noted$ dc (E:=λr r=>False) ?_ (λr r z=>z) (λr r z=>z.elim);refine aa$ zt ?_;cases k with
  |zero=>exact p'.elim
  |succ k=>
   have b4:=so g q h i ϊ r';cases en:nx i h with
   |none=>
    have e1:aj nx n S fi H (k+1) i t h=ϗ:=by unfold aj;simp only[en]
    rw[cJ (m':=pb) e1]at p';exact p'.elim
   |some od=>
    rw[en]at b4;cases od with
    |none=>
     have e1:aj nx n S fi H (k+1) i t h=Y () h:=by unfold aj;simp only[en]
     rw[cJ (m':=ret ()) e1]at p';refine aa (ud (TT.done ό rfl rfl rfl hc i [] s' F q (λr r=>False) I' (a8 c4) c9 b4) λr s6 ⟨er,I6⟩=>?_);subst er;refine ga ?_;obtain⟨m6,d5,_⟩:=I6.loc;exact d2 s6 q m6 d5 I6.free I6.base I6.os I6.lc I6.bare$ Kb.here p' r' (by rw[Ka];exact⟨_,rfl,ϊ.get hn⟩)
    |some d=>
     refine aa (ud (TT.item ό rfl rfl rfl hc i [] s' F q (λr r=>False) I' (a8 c4) c9 b4.1) λr s6 ſ=>?_);obtain⟨u,er,h6⟩:=ſ;subst er;refine aa (ud h6 λr s7 ſ=>?_);obtain⟨xv,H7,I7,r7,y7,c2,d3⟩:=ſ;obtain⟨b7,d8,hd⟩:=b4.2 xv H7 y7;replace p':=Kb.mono b7 p';replace b8:=b8.mono b7;replace ϊ:=ϊ.trans b7;replace r':=d8;cases et:S d t with
     |none=>
      have e1:aj nx n S fi H (k+1) i t h=ϗ:=by unfold aj;simp only[en,et]
      rw[cJ (m':=pb) e1]at p';exact p'.elim
     |some l=>
      have e1:aj nx n S fi H (k+1) i t h=Lc (Qt$ fi l) (λc=>if c=A3 then Lc (Qt$ H l) λy=>Lc (lj (U n) [y]) λr=>aj nx n S fi H k (i+1) l else aj nx n S fi H k (i+1) l) h:=by
       conv=>lhs;unfold aj
       simp only[en,et]
      rw[cJ e1,xL]at p';refine aa (ud (d7 _ _ _ _ _ _ s7 F H7 xv u (λN H8=>H8=H7/\sh T g H7 l N) (I7.pinned (a8 d3)$ TT.obj _ _ c2) r7 ⟨g,h,t,d,l,b8,r',hd,et,λN a3=>⟨rfl,a3⟩⟩) λr s8 ſ=>?_);obtain⟨N,H8,I8,d1,a3⟩:=ſ;subst d1;refine aa (ud (d4 _ _ _ _ _ _ s8 N H8 (λc H9=>∃ V a0,pd g H8 V H9/\Xc T V H9 a0/\Kb T E (Ka T) V H9 (Lc (if c=A3 then Lc (Qt$ H l) λy=>Lc (lj (U n) [y]) λr=>aj nx n S fi H k (i+1) l else aj nx n S fi H k (i+1) l) (λr=>ret$ U n) a0) Q) I8
       ⟨g,l,h,a3,r',p'.Pu λc a0 V c' H9 r e9 r9 q9 p9=>by cases q9;exact⟨V,a0,e9,r9,p9⟩⟩) λc s9 ⟨H9,I9,V,a0,e9,r9,p9⟩=>?_)
      have a2:∀ {a7:Shared} {s:Hp} {f:ad} {j:Ca},Ta ό ([]++DE fp s7.heap) N s a7->pd g H8 f s->Xc T f s j->Kb T E (Ka T) f s (Lc (aj nx n S fi H k (i+1) l) (λr=>ret$ U n) j) Q->
        ∃ m,m<k+1/\∃ i g q h t F,Ta ό [] F q a7/\tn i a7.heap/\(∀ b∈fp,q b=L6)/\pd P H3 g q/\sh T g q t F/\Xc T g q h/\Kb T E (Ka T) g q (Lc (aj nx n S fi H m i t) (λr=>ret$ U n) h) Q:=by
       intro a7 s f j a1 W a6 a5;refine⟨k,yb _,i+1,f,s,j,l,N,a1.Mj,TT.keep _ _ _ c2 (λb hb o e=>(a1.pin (b,o)$ Qa _$ Qa _$ MJ hb e).1),λb hb=>?_,ϊ.trans W,a3.mono W,a6,a5⟩;obtain⟨o,e,_⟩:=TT.obj _ _ c2 b hb;exact(a1.pin (b,o)$ Qa _$ Qa _$ MJ hb e).2.1
      cases c with
      |false=>
       exact ga ⟨rfl,a2 I9 e9 r9 p9⟩
      |true=>
       rw[ia rfl,xL]at p9;refine aa$ aa (ud (c6 _ _ _ _ _ _ s9 N H9 (λv ϋ=>∃ y B R,pd g H8 B ϋ/\Xc T B ϋ R/\Ka T B ϋ y v/\Kb T E (Ka T) B ϋ (Lc (lj (U n) [y]) (λr=>Lc (aj nx n S fi H k (i+1) l) (λr=>ret$ U n)) R) Q) I9
        ⟨V,l,a0,a3.mono e9,r9,p9.Pu λy R B v ϋ r b0 c1 c0 b3=>⟨y,B,R,e9.trans b0,c1,c0,by rw[xL]at b3;exact b3⟩⟩) λw d9 ⟨v,ϋ,d0,c8,y,B,R,b0,c1,c0,b3⟩=>?_)
       have c5:=zr7 (Q:=λr s=>∃ f j,pd g H8 f s/\Xc T f s j/\Kb T E (Ka T) f s (Lc (aj nx n S fi H k (i+1) l) (λr=>ret$ U n) j) Q) c1 ((ϊ.trans b0).get hn) c0
        (b3.bind λr j f e0 s r W a6 e2 a5=>⟨f,j,b0.trans W,a6,a5⟩)
       refine aa (ud (GL (X:=ό) _ d9 N ϋ (ϕ D0) [v] (xb D0) [w] _ d0 rfl (ϡ c8 Ϥ) c5) λr a7 ſ=>?_);obtain⟨e0,s,a1,_,f,j,W,a6,a5⟩:=ſ;exact ga$ ga ⟨rfl,a2 a1 W a6 a5⟩
 exact codeAny_compStart_list Qj$ TT.self X.A 0 _ _ _ b5 Qj
def uM
  (hc:X.gc=A3) (L:yk X x M' ix a) (G:Zq T X u h O)
  (a1:∀ cl C d c ex,FG T (Ro X (x::z0::M') a cl C d c ex) u tg)
  (W:∀ cl C d c ex,gy T (Ro X (x::z0::M') a cl C d c ex) N fi)
  (B:∀ cl C d c ex,FE T (Ro X (x::z0::M') a cl C d c ex) z fe)
  (hs:∀ y,ie h X.env y=pure y:=by intro _;rfl) :
  FE T X (ϴ z [⟨u,h,N,0⟩] a a3)$ Tk O ix tg fi fe:=by
 rintro p s st H Q I ⟨R,ρ,σ,hE,hr,hp⟩;refine Ft rfl hs (xM X.env a$ GA I L) L.kind (λy hy e=>?_) ?_
 ·have q:=qb.mp L.names y hy;rw[e]at q;exact eq_of_beq q
 have h1:=G p s st H (λύ j=>∃ nx f w,pd R H f j/\Xc T f j w/\rz T f j nx ύ/\Kb T _ _ f j _ Q) I
  ⟨R,ρ,σ,hE,hr,hp.bind λnx a5 a4 ύ H1 v e1 r1 q1 p1=>⟨nx,a4,a5,e1,r1,q1,p1⟩⟩
 refine ud h1 λv s1 h2=>ud h2 λa6 s2 h3=>?_;obtain⟨it,fp,tn,ύ,j,rfl,I2,TT,P,f2,nx,f,w,S,r2,so,p2⟩:=h3;refine Gc$ Ik (aG L) (by intro y hy;simp at hy) (λK l m=>?_) L.kind;have I3:=I2.iA (t':=s2.toks) Ϥ ⋯;have A:j s2.heap.objs.size=L6:=I2.lc.fresh$ pa _;have t:pd f j _$ Nb j s2.heap.objs.size$ ϯ []:=iw A;have a0:s2.heap.objs.size<(s2.heap.push { cls:=ki "list",data:=Ϩ [].toArray }).objs.size:=by rw[Tc];exact yb _
 have kp:∀ b o,(s2.heap.push { cls:=ki "list",data:=Ϩ [].toArray }).get? b=BD o->K.get? b=BD o:=λb o e=>m.extBut b o (va$ ua e)$ da _ e;have g:∀ b∈fp,xl X p (Nb j s2.heap.objs.size$ ϯ []) b/\b<(s2.heap.push { cls:=ki "list",data:=Ϩ [].toArray }).objs.size:=λb k=>by
  obtain⟨o,e,_⟩:=TT.obj 0 _ P b k;have lt:=ua e;exact⟨⟨by rw[Vd$ va lt];exact(f2 b k).1,(f2 b k).2⟩,Gr lt a0⟩
 refine nX (n:=w.length) hc L a1 W B I3 g l kp TT (TT.keep 0 _ _ P λb k o e=>kp b o$ da _ e)
  (λR H σ i ex r=>so R H σ i (t.trans ex) r) ((hE.mono S).mono t) (r2.push (ob:=ϑ []) A ⟨[],qf,Za.nil⟩) (by rw[<-r2.len];simp) (p2.mono t) (λs6 H' m6 ό ϋ a2 ϊ E V hq=>⟨m6,ό,λh7 F=>?_⟩)
 exact⟨ϕ s2.heap.objs.size,H',(L2.Ta.mv (s':={ s6 with heap:=h7 }) (ch:=fp) I3 ϊ (E5 a2 F$ pa _) (F3 E F ϋ) V$ λb k=>⟨(g b k).1.2.2.2.1,(g b k).1.2.1,(g b k).1.2.2.2.2.1,(g b k).1.2.2.2.2.2⟩),rfl,hq⟩
def wF(K:ϔ)(b:Str->Option Value)(x:Str)(c:ac):Prop:=∃ a,b x=BD (xb a)/\LC K a c
noncomputable def sA:b'->ac->Bool
 |[],[]=>A3
 | .str y _::a,x::ss=>(y == x) && sA a ss
 |_,_=>Ŷ
def IQ(K:ϔ)(a:Addr)(c:ac):Bool:=match K.lookup a with
 |some o=>(o.cls == ki "tuple") && (match o.data with
  | Ϩ b _=>decide (b.size<=sizeLine) && sA b.toList c
  |_=>Ŷ)
 |none=>Ŷ
theorem zS:∀ {a:b'} {ss:ac},sA a ss=A3->de (ss.map V.str) a
 |[],[],_=>Ϥ
 |[],_::_,h=>by simp[sA]at h
 |v::a,[],h=>by cases v<;>simp[sA]at h
 |v::a,x::ss,h=>by
  cases v with
  |str y t=>
   simp only[sA,Da]at h;obtain rfl:=eq_of_beq h.1;exact ϡ ⟨t,rfl⟩$ zS h.2
  |_=>simp[sA]at h
def LC.of{K}(h:IQ K a f=A3):LC K a f:=by
 unfold IQ at h;cases e:K.lookup a with
 |none=>rw[e]at h;cases h
 |some o=>
  rw[e]at h;simp only[Da]at h;obtain⟨g,b⟩:=h;cases d:o.data with
  |seq c n=>
   rw[d]at b;simp only[Da,Jc]at b;exact⟨o,c,n,e,eq_of_beq g,d,b.1,zS b.2⟩
  |_=>simp_all
def aK(a:Bool)(b:ac)(x:D):M D:=λc=>match x with
 | ϐ z=>Y (ϒ$ if a then !iC (.str z) (b.map V.str)else iC (.str z) (b.map V.str)) c
 |_=>ϗ
section
variable{e:Ja}{f:Ev->M D}{x:Str}{p pos:Td}{ss:ac}
def R8(ss:ac):(ss.map V.str).all Wi=A3:=by simp[Wi]
def ř(j:LC X.K a ss)(h:tF T X (Vc (aK b ss) f) g H Q):VB (ZH X.K b) (tF T X f) (tC$ ϕ a) g H Q:=by
 obtain⟨n,ρ,p,i,l,k⟩:=h;refine⟨n,ρ,p,i,l,k.bind λd q o v r t s m e c=>?_⟩;cases d with
 |str z=>rw[Ka]at e;subst e;exact⟨a,ss.map V.str,rfl,ϙ$ ϙ j,rfl,R8 ss,Kb.here c m (by rw[Ka])⟩
 |_=>exact c.elim
def Ģ(l:Gl X x)(i:wF X.K X.mg x ss)(c:FE T X e f)(hd:(x == ("__debug__" : Str))=Ŷ:=by decide):FT T X (.Compare e [.In] [ϛ x p] pos)$ eT$ Vc (aK Ŷ ss) f:=by
 obtain⟨a,m,j⟩:=i;intro b s st H Q I h;refine WN YM c (qI l m (v:=ϕ a) rfl hd) rfl b s st H Q I$ ř j ?_;obtain⟨w,ρ,z,c,o,n⟩:=h;refine⟨w,ρ,z,c,o,n.bind λd A y v B d C u r t=>?_⟩;obtain⟨k,g,q⟩:=RM r t;exact⟨k,g,q.here u rfl⟩
end
noncomputable def MN(a:List$ Nc × D)(k:Nc):List$ Nc × D:=a.filter λb=>decide$ b.1≠k
theorem jZ{e:ad}{H:Hp}(k:Nc):∀ {c:List$ Nc × D} {us:List$ Nc × V},Wg T e H c us->Wg T e H (MN c k) (fy us k)
 |[],_,h=>by unfold Wg at h;cases h;exact Ϥ
 |p::c,_,h=>by
  cases h with
  |@cons _ q _ us a b=>
   have d:=jZ k b;unfold MN fy at *;rw[Ue,Ue,a.1];split
   ·exact ϡ a d
   ·exact d
def AZ:V->gV->Hp->VK->Prop:=λx c H Q=>∃ a b k v,x=ϕ a/\c=[kV k]/\H a=BD (Ϝ b)/\il b k=BD v/\Q v (Nb H a$ Ϝ$ fy b k)
def g6:qw X "dict.pop" AZ:=by
 rintro b s st H x n v m Q I j i ⟨a,f,k,y,rfl,rfl,d,e,q⟩;cases j;obtain⟨u,rfl,h⟩:=i.one;exact Ę I d h e (ϖ rfl) λo l c g=>⟨y,_,c,g,q⟩
def AA(x:D)(xs:g'):M D:=λb=>match x,xs with
 | U n,[y]=>(match Vi y with
  |some k=>(match b[n]? with
   |some (J a)=>(match Rn a k with
    |some d=>Y d (b.set n$ J$ MN a k)
    |none=>ϗ)
   |_=>ϗ)
  |none=>ϗ)
 |_,_=>ϗ
def zqw:lB T AZ AA:=by
 intro E f H B x xs v D Q r p q h;cases x with
 |ref n=>
  match xs with
  |[]=>exact h.elim
  |[y]=>
   unfold AA at h;cases b:Vi y with
   |none=>simp[b]at h;exact h.elim
   |some k=>
    simp[b]at h;cases c:B[n]? with
    |none=>rw[c]at h;exact h.elim
    |some ob=>
     rw[c]at h;cases ob with
     |Aa s=>
      dsimp only at h;obtain⟨a,rfl,j,m,g,i⟩:=r.at p c;obtain⟨w,z,rfl,t,l⟩:=q;rw[Za]at l;subst l;obtain rfl:=tz t b;rcases IC i k with⟨e,_⟩|⟨C,o,e,u,A⟩
      ·rw[e]at h;exact h.elim
      ·rw[e]at h;have ex:pd f H f$ Nb H a$ Ϝ$ fy m k:=Js (wa j) g (λF z=>by cases z) (λF F z=>by cases z);have d:=r.write (ob:=J _) j ⟨_,qf,Wg.mono ex$ jZ k i⟩;exact⟨a,m,k,o,rfl,rfl,g,u,h f o _ d.1 d.2$ Ka.mono d.1 _ _ A⟩
     |na _=>exact h.elim
     |jb _ _=>exact h.elim
     |Fb _=>exact h.elim
     |Je _=>exact h.elim
  |_::_::_=>trivial
 |_=>trivial
def mkT{K:ϔ}(X:K.In h)(G:h.Ns mainGlobals c)(a:W.nsIn K mainGlobals x=BD (BD$ xb C))(b:IQ K C d=A3):wF K c x d:=⟨C,W.mg_of X G a,LC.of b⟩
section
variable{prog:xa}{w:Ma}{A:Ia}{E:Value->Shared->Prop}{l q I S:Addr}{n:Nat}{P:Nat->Value->Prop}{R:No->Shared->Prop}{Q:Value->Shared->Prop}
def i8(G:Nat->Value->Int->Shared->Prop)(hh:A.handled=L6)(ό:l≠I)(H:S≠I)(a7:l≠S)
  (hl:∀ j d a s,G j d a s->∃ y:b',y.length=n/\(∀ j v,y[j]?=BD v->P j v)/\s.heap.IsList l y.toArray)
  (u:∀ j d a s B tk,G j d a s->(∀ b o,b≠I->b≠S->s.heap.get? b=BD o->B.get? b=BD o)->G j d a { s with heap:=B,toks:=tk })
  (a4:∀ j d a s v oI oS,G j d a s->P j v->s.heap.get? I=BD oI->s.heap.get? S=BD oS->(∀ v,oI.data≠.cell v)->(∀ v,oS.data≠.cell v)->
   wpAny (model prog w) A.in1 (call (xb q) [v]) (λx s'=>∃ k t,x=Qh k t/\s'.heap.get? I=BD oI/\s'.heap.get? S=BD oS/\G (j+1) (if k<a then v else d) (if k<a then k else a) s') (λF F=>False) s)
  (hR:∀ d a s,G n d a s->R (.ok$ .ret d) s) :
  ∀ r j s d a tb c,n - j=r->j<=n->G j d a s->s.heap.get? S=BD (zm "list" #[d,Qh a tb] c)->s.heap.IsListIter I l j->
   codeAny (model prog w) A (.builtin "min.loop" ⟨[xb I,xb q,xb S],[]⟩) R s:=by
 have a6:(toString "min"++toString ".loop" : String) = "min.loop":=by decide
 intro r;induction r with
 |zero=>
  intro j s d a tb c hr hj g V hit;have W:j=n:=by lia
  apply b_;intro z_;obtain⟨y,O,a2,K⟩:=hl j d a s g;have N:y.toArray.size=n:=(Ea ..).trans O;apply z_;refine Kc Oh ?_;rw[Around.under_plainId qe _];show wpAny _ A.in1 (seqItems? (xb S) >>= _) _ _ _;refine aa$ Zf V rfl ?_;show wpAny _ A.in1 (tryCatch (pyNext$ xb I) _ >>= _) _ _ _;refine aa$ ze ((Vj (prog:=prog) (w:=w) (A:=A.in1) hh I l ό y.toArray).done _ _ _ ⟨by rw[N,<-W];exact hit,K⟩ λB a3 ύ=>?_);have m:∀ b o,b≠I->s.heap.get? b=BD o->B.get? b=BD o:=λb o n e=>ύ b o (by simpa using n) e;have D:=m S _ H V;have s1:=Rb B S (Be λF=>(#[]:Array Value));refine aa$ jh D rfl$ aa$ vp$ ga ?_;subst W;exact hR d a _ (u _ _ _ s _ _ g λb o n1 n2 e=>by rw[s1.2 b n2];exact m b o n1 e)
 |succ r ih=>
  intro j s d a tb c hr hj g V hit;have L:j<n:=by lia
  obtain⟨y,O,a2,K⟩:=hl j d a s g;have N:y.toArray.size=n:=(Ea ..).trans O;refine Kc Oh ?_;refine aa$ Zf V rfl ?_;refine aa$ ze ((Vj (prog:=prog) (w:=w) (A:=A.in1) hh I l ό y.toArray).item j _ _ _ (by rw[N];exact L) ⟨hit,K⟩ λv B a3 hP a1 ύ=>?_);have m:∀ b o,b≠I->s.heap.get? b=BD o->B.get? b=BD o:=λb o n e=>ύ b o (by simpa using n) e;have hv:P j v:=a2 j v (by simpa using hP);obtain⟨Q,ϊ,a0,M⟩:=id a1.1;have D:=m S _ H V;refine aa$ ze$ Xb (dc (a4 j d a _ v Q _ (u _ _ _ s B a3 g λb o n1 n2 e=>m b o n1 e) hv ϊ D (λv z=>by rw[M]at z;cases z)$ λv z=>by cases z) (λx p he=>?_) λF F hF=>hF.elim);obtain⟨C,T,rfl,ϋ,E,g2⟩:=he;have X:p.heap.IsListIter I l$ j+1:=⟨Q,ϋ,a0,M⟩
  refine aa$ ze$ Xb$ aa$ CmpOf.ints_lt (prog:=prog) (w:=w) (A:=A.in1) (P:=λ(i:Nat) v=>∃ t,v=Qh (if i=0 then C else a) t) (λi=>if i=0 then C else a) (λi v h=>h) 0 1 _ _ _ _ _ ⟨T,rfl⟩ ⟨tb,rfl⟩ ?_;refine aa$ Xb$ Yc ?_;refine aa$ vp$ ga ?_;by_cases f:C<a
  ·have s1:=Rb p.heap S (Be λF=>#[v,Qh C T]);obtain⟨c2,a5⟩:∃ c2,(p.heap.update S$ Be λF=>#[v,Qh C T]).get? S=BD (zm "list" #[v,Qh C T] c2):=⟨_,qK E λF=>#[v,Qh C T]⟩
   rw[ia f,ia f]at g2;simp only[f,decide_true,dj,Qz,lp];refine aa ?_;refine jh E rfl$ aa$ vp$ ga ⟨Sd qe _,ih (j+1) _ v C T c2 ⋯ L (u _ _ _ p _ _ g2 λb o n1 n2 e=>by rw[s1.2 b n2];exact e) a5 ⟨Q,(s1.2 I H.symm).trans ϋ,a0,M⟩⟩
  ·rw[qa f,qa f]at g2;simp only[f,decide_false,uu,lp,dj,Qz];refine aa$ vp ?_;exact ga ⟨Sd qe _,ih (j+1) _ d a tb c ⋯ L (u _ _ _ p _ _ g2 λb o F F e=>e) E X⟩
def L8(R:Shared->Prop)(G:Addr->Addr->Nat->Value->Int->Shared->Prop)(hh:A.handled=L6)(g0:R s){f:b'}(a5:f.length=n)(a4:∀ j v,f[j]?=BD v->P j v)(h:s.heap.IsList l f.toArray)(ύ:0<n)
  (W:∀ s h' tk,R s->(∀ b o,s.heap.get? b=BD o->h'.get? b=BD o)->R { s with heap:=h',toks:=tk })
  (first:∀ I S s1 v oI i,s.heap.objs.size<=I->s.heap.objs.size<=S->S≠I->(∃ s0,R s0/\(∀ b o,b≠I->s0.heap.get? b=BD o->s1.heap.get? b=BD o)/\(s1={ s0 with heap:=s1.heap,toks:=s1.toks }))->P 0 v->s1.heap.get? I=BD oI->s1.heap.get? S=BD i->(∀ v,oI.data≠.cell v)->(∀ v,i.data≠.cell v)->
   wpAny (model prog w) A.in1 (call (xb q) [v]) (λx m=>∃ k t,x=Qh k t/\m.heap.get? I=BD oI/\m.heap.get? S=BD i/\G I S 1 v k m) (λJ J=>False) s1)
  (hl:∀ I S j c a s,G I S j c a s->∃ f:b',f.length=n/\(∀ j v,f[j]?=BD v->P j v)/\s.heap.IsList l f.toArray)
  (H:∀ I S j c a s h' tk,G I S j c a s->(∀ b o,b≠I->b≠S->s.heap.get? b=BD o->h'.get? b=BD o)->G I S j c a { s with heap:=h',toks:=tk })
  (O:∀ I S j c a s v oI i,G I S j c a s->P j v->s.heap.get? I=BD oI->s.heap.get? S=BD i->(∀ v,oI.data≠.cell v)->(∀ v,i.data≠.cell v)->
   wpAny (model prog w) A.in1 (call (xb q) [v]) (λx m=>∃ k t,x=Qh k t/\m.heap.get? I=BD oI/\m.heap.get? S=BD i/\G I S (j+1) (if k<a then v else c) (if k<a then k else a) m) (λJ J=>False) s)
  (hQ:∀ I S c a s,G I S n c a s->Q c s) :
  wpAny (model prog w) A (call (Ϟ "min") [xb l] [(Pi "key",xb q)]) Q E s:=by
 obtain⟨ol,a3,_⟩:=id h;have D:=ua a3;refine kmk_tree PySem.F.kind_min PySem.F.plain_min PySem.F.entry_min (kmk_min_key _ _)$ aa$ zy (rfl)$ aa$ ga$ aa$ pi h$ aa$ Et ?_$ Dh _;have ό:(s.heap.push { cls:=ki "list_iterator",data:=ϩ #[xb l,Qh 0 0] }).objs.size=s.heap.objs.size+1:=MB ..;have C:=va D;have d:(s.heap.push { cls:=ki "list_iterator",data:=ϩ #[xb l,Qh 0 0] }).objs.size≠s.heap.objs.size:=by rw[ό];exact Fd$ yb _
 have a1:l≠(s.heap.push { cls:=ki "list_iterator",data:=ϩ #[xb l,Qh 0 0] }).objs.size:=by rw[ό];exact va$ Jb D
 have u:s.heap.objs.size<=(s.heap.push { cls:=ki "list_iterator",data:=ϩ #[xb l,Qh 0 0] }).objs.size:=by rw[ό];exact Eh _
 refine ga ⟨Sd qe _,?_⟩;have gI:((s.heap.push { cls:=ki "list_iterator",data:=ϩ #[xb l,Qh 0 0] }).push$ zm "list" #[] 0).get? s.heap.objs.size=BD { cls:=ki "list_iterator",data:=ϩ #[xb l,Qh 0 0] }:=
  da _$ za _ rfl
 have gS:((s.heap.push { cls:=ki "list_iterator",data:=ϩ #[xb l,Qh 0 0] }).push _).get? (s.heap.push { cls:=ki "list_iterator",data:=ϩ #[xb l,Qh 0 0] }).objs.size=BD (zm "list" #[] 0):=za _ rfl;have B:∀ b o,s.heap.get? b=BD o->((s.heap.push { cls:=ki "list_iterator",data:=ϩ #[xb l,Qh 0 0] }).push$ zm "list" #[] 0).get? b=BD o:=λb o e=>da _$ da _ e;generalize (s.heap.push { cls:=ki "list_iterator",data:=ϩ #[xb l,Qh 0 0] }).objs.size=S at *;generalize ((s.heap.push { cls:=ki "list_iterator",data:=ϩ #[xb l,Qh 0 0] }).push _)=hp at *;refine Kc Oh$ aa$ Zf gS rfl$ aa$ ze ((Vj (prog:=prog) (w:=w) (A:=A.in1) hh s.heap.objs.size l C f.toArray).item 0 _ _ _ (by rw[((Ea ..).trans a5)];exact ύ) ⟨⟨_,gI,rfl,rfl⟩,h.at λo e=>B _ _ e⟩ λv h' a6 hP M a0=>?_);have y:=λb o n e=>a0 b o (by simpa using n) e;obtain⟨N,K,a2,L⟩:=id M.1;refine aa$ ze$ Xb (dc (first s.heap.objs.size S _ v N _ (pa _) u d ⟨{ s with heap:=hp,toks:=s.toks },W s hp _ g0 B,λb o n e=>y b o n e,rfl⟩ (a4 0 v$ by simpa using hP) K (y S _ d gS) (λv z=>by rw[L]at z;cases z)$ λv z=>by cases z) (λx p he=>?_) λJ J hF=>hF.elim);obtain⟨T,ϋ,rfl,X,r,g2⟩:=he;have s1:=Rb p.heap S (Be λJ=>#[v,Qh T ϋ]);obtain⟨V,ϊ⟩:∃ V,(p.heap.update S _).get? S=BD (zm "list" #[v,Qh T ϋ] V):=⟨_,qK r λJ=>#[v,Qh T ϋ]⟩
 exact aa$ jh r rfl$ ga ⟨Sd qe _,i8 (G _ _) hh C d a1 (hl _ _) (H _ _) (O _ _) (λc a s g=>hQ _ _ c a s g) _ 1 _ v T ϋ V rfl ύ (H _ _ _ _ _ p _ _ g2 λb o n1 n2 e=>by rw[s1.2 b n2];exact e) ϊ ⟨N,(s1.2 _ d.symm).trans X,a2,L⟩⟩
end
noncomputable def kG(X:Cx)(A:Ia)(d:ac)(b:Str)(a:Scope)(q:Addr)(c:Value)(cl:List$ Str × Addr)(s₀:Shared)(H₀:Hp):Cx:=
 { X with A:=A.deeper (W.envX b a s₀.heap.objs.size q c cl),N:=d,s₀:=s₀,H₀:=H₀,env:=W.envX b a s₀.heap.objs.size q c cl,outer:=X.stack,stack:=W.envX b a s₀.heap.objs.size q c cl::X.stack,ex:=[],fn:=λe=>Ŷ,gc:=A3,pn:=[],xe:=λe e=>False }
noncomputable def VP(a:dN)(d:D)(ρ:Ev):Ev:=BD d::a.map λi=>(ρ[i]?).getD L6
noncomputable def SI(a:dN)(v:V)(st:St):St:=BD v::a.map λi=>(st[i]?).getD L6
def p6 a(h:sh T b H ρ c)(hd:Ka T b H d v):sh T b H (VP a d ρ)$ SI a v c:=by
 exact((sS a h).set 0 hd)
section
variable{pins:List$ Addr × Obj}{st:St}{H:Hp}{s:Shared}{x:Str}{M':ac}{ix:dN}{scope:Scope}{A:Ia}{qual:Str}{q:Addr}{cd:Value}{v:V}{u:Value}
def ń(I:Ta X pins st H s)(L:yk X x M' ix scope)(hx:scope.names.lookup x=BD .local)(hA:A.frames=BD X.stack)(K:A.handled=L6)(rv:gd v u)(O:h'.Ns s.heap.objs.size m)(hm:m x=BD u)
  (E:∀ b o,s.heap.get? b=BD o->h'.get? b=BD o) :
  Ta (kG X A (x::M') qual scope q cd (jj X.env scope.names []) s H) [] (SI ix v st) H { s with heap:=h',toks:=t' }:=by
 have f:∀ n c,(jj X.env scope.names []).lookup n=BD c->X.env.cells.lookup n=BD c:=λn c e=>sM X.env scope.names [] n c (λJ J q=>by simp at q) e;have r:=I.lc.fresh$ pa _;have t:∀ b:Addr,b ∉ (kG X A (x::M') qual scope q cd (jj X.env scope.names []) s H).ex:=λb z=>absurd (show b∈[]from z) ⋯;refine⟨⟨I.ok.mod,L.kind,rfl,rfl,pa _,λa b c h1 h2=>I.ok.inj a b c (f a c h1)$ f b c h2,λa ha=>?_,λa c h=>(by cases h),λJ=>K,Hq hA,ϙ ⟨rfl,rfl⟩,λb ύ=>absurd ύ$ t b,λb o e=>I.bs b o e,ub I.ok.Wu I.sz,λb o e=>t b,λb ύ=>absurd ύ$ t b,I.stack,I.Ej⟩,
  rfl,I.bare,Un.kept E,⟨m,O,λi y C R S e3=>?_⟩,λa c e=>?_,r,λa c e=>I.Dg a c$ f a c e,λp hp=>absurd (show p∈[]from hp) ⋯,I.lc.kept E,?_⟩
 ·have G:scope.names.lookup a=BD Bc\/scope.names.lookup a=BD db:=ha;rcases G with z|z
  ·exact absurd rfl$ aG L _$ jw z
  ·exact sF X.env scope.names [] a (jw z)$ GA I L _ (jw z) rfl
 ·cases i with
  |zero=>
   have g:BD x=BD y:=R;have d:BD (BD v)=BD (BD C):=S;cases g;cases d;exact⟨u,rv,ϖ ⟨hx,hm⟩⟩
  |succ j=>
   have g:M'[j]?=BD y:=R;have d:(ix.map λi=>(st[i]?).getD L6)[j]?=BD (BD C):=S;rw[Na]at d;cases F:ix[j]? with
   |none=>rw[F]at d;cases d
   |some B=>
    rw[F]at d;have D:(st[B]?).getD L6=BD C:=Sb d;have W:st[B]?=BD (BD C):=by
     cases q:st[B]? with
     |none=>rw[q]at D;cases D
     |some o=>rw[q]at D;exact Ab BD D
    have ό:X.N[B]?=BD y:=by
     have z:=Ab (λl=>l[j]?) L.at_;simp only[Na,F,g]at z;exact Sb z
    have q:=qb.mp L.pZ y$ wa g;simp only[Da,vg]at q;have ϋ:X.env.scope.names.lookup y=BD Bc\/X.env.scope.names.lookup y=BD db:=by
     all_goals simp_all
    apply b_;intro z_;have Q:scope.names.lookup y=BD db:=eq_of_beq q.2;obtain⟨m0,a0,M⟩:=I.loc;obtain⟨u2,ru,lu⟩:=M B y C ό W (by rcases ϋ with z|z;exact ϙ$ ϖ z;exact ϙ$ ϙ z);apply z_;refine⟨u2,ru,ϙ ⟨ϙ Q,?_⟩⟩;rcases lu with⟨z,_⟩|⟨_,c,ϊ,zc⟩
    ·rcases ϋ with k|k
     ·rw[show X.env.kindOf y=X.env.scope.names.lookup y from rfl,k]at z;cases z
     ·rw[show X.env.kindOf y=X.env.scope.names.lookup y from rfl,k]at z;cases z
    ·apply b_;intro z_;obtain⟨V,w⟩:=sF X.env scope.names [] y (jw Q) (GA I L _ (jw Q) rfl);have T:=f y V w;rw[ϊ]at T;cases T;obtain⟨o,P,hd⟩:=zc;apply z_;exact⟨c,w,o,E _ _ P,hd⟩
 ·obtain⟨v,o,P,hd⟩:=I.cell a c (f a c e);exact⟨v,o,E _ _ P,hd⟩
 ·have z:=Ab List.length L.at_;simp[SI,kG];simpa using z
def L3(I:Ta X pins st H s)(L:yk X x M' ix scope)(R:scope.names.lookup x=BD .local)(K:A.frames=BD X.stack)(p:A.handled=L6)(n:A.depth<recursionLimit)
  (N:s.heap.get? q=BD (ϳ d qual a c scope (jj X.env scope.names []) E k h)) (l:s.heap.CodeRec (xb k) qual)
  (f:bindArgs (W.kla_fn d qual a c scope (jj X.env scope.names []) E (xb k) h) ⟨[u],[]⟩=pure [(x,u)]) (m:scope.isCoroutine=Ŷ) (i:scope.isGenerator=Ŷ) (T:gd v u)
  (M:PE (kG X A (x::M') qual scope q (xb k) (jj X.env scope.names []) s H) c t) (P:t (SI ix v st) H Q) :
  wpAny (model X.prog X.w) A (call (xb q) [u]) (λr F=>CE X.stack X.prog X.w H s Q r F) (λD D=>False) s:=by
 refine yj$ W.kla_callFunE n N rfl m i rfl l ?_;rw[f];refine ga$ Ik (aG L) (λy S=>?_) (λD B j=>⟨?_,?_⟩) L.kind
 ·have e:y=(x,u):=by simpa using S
  simp_all
 ·exact(I.nolimit).fresh _ j
 ·have g:=λb o e=>j.extBut b o (va$ ua e)$ da _ e;refine W.kla_codeExpr (dc (M [] _ _ H Q (ń I L R K p T B ⋯ g) P) (λV F z=>?_) λD D z=>z.elim);obtain⟨ϋ,G,ύ,C,O⟩:=z;exact⟨ϋ,G,ύ.os,ύ.bare,ύ.base,ύ.lc,C,O⟩
end
noncomputable def yE(K:ϔ)(c P:Addr):Bool:=match K.lookup c with
 |some o=>(match o.cls,o.data with
  | ki n,ϩ a=>n == "code" && (match (a[11]?:Option Value)with|some (xb p)=>p == P|_=>Ŷ) && (match a.getD 11 Yb with | xb p=>p == P|_=>Ŷ) && (match a.getD 18 Yb with | .str _ _=>A3|_=>Ŷ) &&
   (match a.getD 7 Yb with | Qh _ _=>A3|_=>Ŷ) && (match a.getD 9 Yb with | .bool _=>A3|_=>Ŷ) && (match a.getD 10 Yb with | Qh _ _=>A3|_=>Ŷ) && (c != P)
  |_,_=>Ŷ)
 |none=>Ŷ
set_option tactic.hygienic true in
def yom{K:ϔ}(X:K.In h)(e:yE K c P=A3):W.CodeHd h c P:=by
 unfold yE at e;split at e
 ·next o u=>
  split at e
  ·next n F t hd=>
   apply b_;intro z_;simp only[Da]at e;obtain⟨⟨⟨⟨⟨⟨⟨j,a⟩,b⟩,d⟩,f⟩,g⟩,i⟩,k⟩:=e;apply z_;split at a;case h_2=>cases a
   next G l=>
   split at b;case h_2=>cases b
   next H m=>
   split at d;case h_2=>cases d
   next y C p=>
   split at f;case h_2=>cases f
   next z D q=>
   split at g;case h_2=>cases g
   next A r=>
   split at i;case h_2=>cases i
   next B E s=>
   have w:=eq_of_beq a;have x:=eq_of_beq b;subst w;subst x;have v:=eq_of_beq j;subst v;exact⟨o,F,y,C,z,D,A,B,E,X _ _ u,t,hd,l,m,p,q,r,s,by simpa using k⟩
  ·cases e
 ·cases e
def Ι{st}(I:Ta X i st H s)(h:H P=BD (.El ps))(x:Am P s.heap h')(m:s.heap.objs.size<=f)(M:f<h'.objs.size)
  (p:iv d f h') (r:h'.get? P=BD (W.tabObj$ ps++a)) :
  Ta X i st (Nb (Nb H P$ .El$ ps++a) f$ Ϧ$ iv d f) { s with heap:=h',toks:=tk }:=by
 have j:=I.lc.fresh m;have B:f≠P:=λz=>by rw[z,h]at j;cases j
 have A:∀ b,H b=L6->b≠P:=λb n z=>by rw[z,h]at n;cases n
 have w:∀ b u,H b=BD u->b≠P->Nb (Nb H P$ .El$ ps++a) f (Ϧ$ iv d f) b=BD u:=λb u e n=>by
  rw[Vd$ Cm e j,Vd n];exact e
 have O:Nb (Nb H P$ .El$ ps++a) f (Ϧ$ iv d f) P=BD (.El$ ps++a):=by rw[Vd B.symm,qf]
 refine I.un ⟨λb o e n J J=>x b o (A b n) e,λb o e n J J=>⟨o.slots,x b o (A b n) e⟩,λb o e n J=>?_,λb o e J=>?_,λb xs e=>w b _ e (λz=>by rw[z,h]at e;cases e),λb o u e=>w b _ e (λz=>by rw[z,h]at e;cases e),λb R e=>?_⟩ λb u e=>?_
 ·have:b≠f:=λz=>by subst z;exact absurd (ua e)$ ZQ.mpr m
  rw[Vd this,Vd$ A b n];exact n
 ·by_cases g:b=P
  ·subst g;exact⟨_,r⟩
  ·exact⟨o,x b o g e⟩
 ·by_cases g:b=P
  ·subst g;rw[h]at e;cases e;exact⟨a,O⟩
  ·exact⟨#[],by rw[Array.append_empty];exact w b _ e g⟩
 ·by_cases l:b=f
  ·apply b_;intro z_;subst l;rw[qf]at e;cases e;obtain⟨o,Q,t,D,ύ,K⟩:=p;apply z_;exact⟨⟨o,Q,t,D,ύ,K⟩,⟨o,D⟩,λa1 a2 ⟨N,C,t',E,F,G⟩ k=>⟨N,C,t',k _ E,F,G⟩⟩
  ·rw[Vd l]at e;by_cases g:b=P
   ·subst g;rw[qf]at e;cases e;exact r
   ·rw[Vd g]at e;refine(I.lc b u e).Dk (λc v L q=>x c v ?_ q) (λc q=>w c _ q (λz=>by rw[z,h]at q;cases q)) λc xs q=>w c _ q (λz=>by rw[z,h]at q;cases q);rcases L with z|z
    ·rw[z];exact g
    ·intro y;rw[y,h]at z;cases z
section
variable{pins:List$ Addr × Obj}{st:St}{H:Hp}{s:Shared}{μ:ad}{σ:Ca}{x:Str}{M':ac}{ix:dN}{scope:Scope}{params:Arguments}{body:Ja}{pos:Td}{c:Addr}{t:Tab}
structure az(T:Tb)(X:Cx)(t:Tab)(c:Addr)(pos:Td):Prop where
 mem:t∈T.tx.Ao
 inj:∀ t'∈T.tx.Ao,t'.P=t.P->t'=t
 code:X.env.code=xb c
 hd:yE X.K c t.P=A3
 line:t.line=pos.line
 col:t.col=pos.col
 qual:t.qual=X.env.qual++"<lambda>"
 bm:X.mg "__builtins__" = BD (xb T.tx.bm)
 bb:T.tx.bm≠builtinsNs
def Z3(I:Ta X pins st H s)(L:yk X x M' ix scope)(r:Xc T μ H σ)(g:az T X t c pos)(K:defaultsOf params X.env=([],[])) :
  wpAny (model X.prog X.w) X.A (Cb (.Lambda params body scope pos) X.env) (λv s'=>∃ q d i y,v=xb q/\Ta X ((q,ϳ "<lambda>" t.qual params body scope (jj X.env scope.names []) ((X.mg "__name__").getD Yb) d i)::pins) st y s'/\pd μ H μ y/\Xc T μ y σ/\d ∉ μ/\y d=BD (Ϧ$ iv t.qual d)) X.xe s:=by
 obtain⟨⟨b1,b3,S⟩,R,ps,D,a7⟩:=r.tb t g.mem;have j:s.heap.get? t.P=BD _:=I.lc _ _ D;have l:s.heap.Ns mainGlobals X.mg:=I.ok.mod.glob.keeps I.bk;have a0:mainGlobals≠t.P:=λz=>by
  obtain⟨o,es,ep,e,hd,_⟩:=l;rw[z,j]at e;cases e;cases hd
 obtain⟨_,⟨ob,o1,o2,o3,o4⟩,_⟩:=I.lc _ _ S;have F:T.tx.bm≠t.P:=λz=>by rw[z,j]at o1;cases o1;cases o2
 have ϋ:T.tx.bm≠mainGlobals:=λz=>by
  obtain⟨o,es,ep,e,hd,_⟩:=l
  simp_all
 have hB:s.heap.BuiltinsAt X.mg t.P:=⟨T.tx.bm,ob,g.bm,g.bb,ϋ,F,o1,o2,o3,o4⟩
 have G:=xM X.env scope$ GA I L;have C:W.CodeHd s.heap c t.P:=(yom I.ok.mod.Cw g.hd).keeps I.bk;have f:∀ {h':Heap} {tk:Nat} {y:Hp} {o:Obj},Ta X pins st y { s with heap:=h',toks:=tk }->o.isFreed=Ŷ->(∀ v,o.data≠.cell v)->Ta X ((h'.objs.size,o)::pins) st y { s with heap:=h'.push o,toks:=tk }:=fun {h' tk y o} ύ hf hc=>by
  have J2:=ύ.kept (h':=h'.push o) (t':=tk) λb u e=>da _ e;refine J2.Si λp m=>?_;rcases Fa.mp m with rfl|m
  ·exact⟨za _ hf,ύ.lc.fresh$ pa _,Fd ύ.lt,ύ.wE$ pa _,hc⟩
  ·exact J2.pin p$ Qa _ m
 refine W.kla_eval K ?_;rw[<-g.qual];rcases a7 with rfl|⟨c1,rfl,V,ό⟩
 ·refine W.kla_makeFunction G I.ok.glob l g.code C j trivial rfl a0 hB λd i h' tk hx M a6 N a8=>?_;have ϊ:iv t.qual d h':=by
   apply b_;intro z_;obtain⟨c2,o,vs,tt,e,h1,h2,h3⟩:=N;cases e;apply z_;exact⟨o,vs,tt,h1,h2,h3⟩
  have ύ:=Ι (tk:=tk) I D hx M a6 ϊ a8;have k:H d=L6:=I.lc.fresh M;have a9:d≠t.P:=λz=>by rw[z,D]at k;cases k
  have B:d ∉ μ:=λz=>by obtain⟨u,Q,_⟩:=r.mem z;rw[k]at Q;cases Q
  have E:∀ b u,H b=BD u->b≠t.P->Nb (Nb H t.P$ .El$ #[]++#[jc pos.line,jc pos.col,xb d]) d (Ϧ$ iv t.qual d) b=BD u:=λb u e n=>by
   rw[Vd$ Cm e k,Vd n];exact e
  have uP:Nb (Nb H t.P$ .El$ #[]++#[jc pos.line,jc pos.col,xb d]) d (Ϧ$ iv t.qual d) t.P=BD (.El$ #[]++#[jc pos.line,jc pos.col,xb d]):=by rw[Vd a9.symm,qf]
  have uc:Nb (Nb H t.P$ .El$ #[]++#[jc pos.line,jc pos.col,xb d]) d _ d=BD (Ϧ$ iv t.qual d):=qf;have e:pd μ H μ$ Nb (Nb H t.P$ .El$ #[]++#[jc pos.line,jc pos.col,xb d]) d$ Ϧ$ iv t.qual d:=by
   refine⟨⟨[],by simp⟩,λp xs h=>E p _ h (λz=>by rw[z,D]at h;cases h),λp o u h=>E p _ h (λz=>by rw[z,D]at h;cases h),λp o h n=>⟨?_,n⟩⟩;by_cases m:p=t.P
   ·subst m;rw[D]at h;cases h;exact⟨_,uP,ϙ$ ϙ ⟨_,_,rfl,rfl⟩⟩
   ·exact⟨o,E p o h m,ϖ rfl⟩
  refine⟨_,d,i,_,rfl,f ύ rfl (λv z=>by cases z),e,r.keep e (λa ha=>?_) λt' O=>?_,B,uc⟩
  ·obtain⟨u,Q,_⟩:=r.mem ha;rw[Q];exact E a u Q λz=>R ⋯
  ·obtain⟨⟨a1,b0,a2⟩,a3,qs,a4,a5⟩:=r.tb t' O;refine⟨⟨a1,b0,E _ _ a2 F⟩,a3,?_⟩;by_cases m:t'.P=t.P
   ·have et:=g.inj t' O m;subst et;exact⟨_,uP,ϙ ⟨d,by rw[g.line,g.col];rfl,B,uc⟩⟩
   ·refine⟨qs,E _ _ a4 m,a5.imp id λ⟨c3,z1,z2,z3⟩=>⟨c3,z1,z2,E _ _ z3 (λz=>by rw[z,D]at z3;cases z3)⟩⟩
 ·refine W.kla_makeFunctionHit (cv:=xb c1) G I.ok.glob l g.code C j ?_ ?_ hB λi h' tk hk b2=>?_
  ·exact trivial
  ·rw[g.line,g.col];simp[codeAmong,jc]
  ·have ύ:=I.kept (h':=h') (t':=tk) hk;exact⟨_,c1,i,H,rfl,f ύ rfl (λv z=>by cases z),ϭ _ _,r,V,ό⟩
end
noncomputable def Mx(a:Ev->M D)(rest:Ev):g'->D->Int->M D
 |[],b,_=>ret b
 |d::ds,b,c=>Lc (Qt$ a$ BD d::rest) λk=>match k with
  | Z k=>if k<c then Mx a rest ds d k else Mx a rest ds b c
  |_=>pb
noncomputable def Gx(a:Ev->M D)(rest:Ev)(b:g'):M D:=match b with
 |[ώ (x::xs)]=>Lc (Qt$ a$ BD x::rest) λk=>match k with
  | Z k=>Mx a rest xs x k
  |_=>pb
 |_=>pb
noncomputable def fH(d:dN)(b:Ev->M D)(c:Ev->M (g')):Ev->M D:=λa=>Lc (c a)$ Gx b (d.map λi=>(a[i]?).getD L6)
def gT{st}(I:Ta X a st H s)(k:∀ b o,b≠i->b≠j->s.heap.get? b=BD o->h'.get? b=BD o)(f:xl X a H i)(g:xl X a H j):Ta X a st H { s with heap:=h',toks:=t' }:=by
 have A:∀ b u,H b=BD u->b≠i/\b≠j:=λb u e=>⟨(λz=>by rw[z,f.1]at e;cases e),(λz=>by rw[z,g.1]at e;cases e)⟩
 have l:∀ {b:Addr},b ∉ [i,j]->b≠i/\b≠j:=fun {b} h=>⟨λz=>h (by simp[z]),λz=>h (by simp[z])⟩
 refine I.step (λb w=>?_) (λb o c c d e c=>k b o (l d).1 (l d).2 e) (λb o c c d e c=>⟨o.slots,k b o (l d).1 (l d).2 e⟩) (λc c c c n=>n)
  (λb o d e=>⟨o,k b o (l d).1 (l d).2 e⟩) (λc c e=>e) (λc c c e=>e) (λb ps e=>⟨#[],by rw[e];simp⟩) (λm x=>?_) (λb u e=>?_) I.bare
 ·have e:b=i\/b=j:=by simpa using w
  rcases e with rfl|rfl
  ·exact⟨f.2.2.2.1,f.2.1,f.2.2.2.2.1,f.2.2.2.2.2⟩
  ·exact⟨g.2.2.2.1,g.2.1,g.2.2.2.2.1,g.2.2.2.2.2⟩
 ·obtain⟨o,t,p,y,r⟩:=x;exact⟨o,t,p,k _ o (Jd f.2.1) (Jd g.2.1) y,r⟩
 ·refine(I.lc b u e).Dk (λc v d q=>?_) (λc q=>q) λc c q=>q;rcases d with z|z;all_goals simp_all
def FU
  (ϋ:yd (k+2) X.A) (L:yk X x M' ix f) (hx:f.names.lookup x=BD .local) (Lm:az T X t c b3) (hg:Gl X "min") (hm:X.mg "min" = L6)
  (c5:defaultsOf l X.env=([],[])) (d4:f.isCoroutine=Ŷ) (c6:f.isGenerator=Ŷ)
  (b8:∀ cl pm cd O u,bindArgs (W.kla_fn "<lambda>" t.qual l F f cl pm cd O) ⟨[u],[]⟩=pure [(x,u)])
  (ha:FA T X [e] fs)
  (hb:∀ A q cd b4 c2,yd k (A.deeper$ W.envX t.qual f b4.heap.objs.size q cd$ jj X.env f.names [])->FE T (kG X A (x::M') t.qual f q cd (jj X.env f.names []) b4 c2) F fe)
  (he:Ub a6 (ka [e] X.env)=(Ŷ,Cb e X.env)::Ub a6 (ka [] X.env):=by rfl)
  (b0:(Ub a6$ ka [e] X.env).any (·.1)=Ŷ:=by rfl) :
  FE T X (ϟ (ϛ "min" p) [e] [⟨BD "key",.Lambda l F f b3,kp⟩] a6)$ fH ix fe fs:=by
 intro m s st H Q I h;refine Ke$ Cy I hg hm (show bootBuiltins "min" = BD (Ϟ "min")from rfl) ?_;obtain⟨μ,ρ,σ,hE,hr,hp⟩:=h;refine callWith_kw (ud (ha a6 m s st H (λvs H1=>∃ K a9 ds,pd μ H K H1/\Xc T K H1 a9/\Za T K H1 ds vs/\Kb T (XE X st) (Ka T) K H1 (Gx fe (ix.map λi=>(ρ[i]?).getD L6) ds a9) Q) I ⟨μ,ρ,σ,hE,hr,hp.bind λds a9 K vs H1 J e1 r1 q1 p1=>⟨K,a9,ds,e1,r1,q1,p1⟩⟩) λus s1 ⟨vs,H1,I1,rv,K,a9,ds,e1,r1,q1,p1⟩=>kws_cons (ud (Z3 I1 L r1 Lm c5) λlv s2 ⟨q,c',O,H2,c8,I2,e2,r2,d1,d2⟩=>kws_nil ?_)) he b0;subst c8;show wpAny _ _ (call (Ϟ "min") us [(Pi "key",xb q)]) _ _ _;have c9:sh T K H2 ρ st:=(hE.mono e1).mono e2;generalize c0:(ix.map λi=>(ρ[i]?).getD L6)=rest at *;obtain⟨x0,xs,rfl⟩:∃ x0 xs,ds=[ώ$ x0::xs]:=by
  unfold Gx at p1;split at p1
  ·exact⟨_,_,rfl⟩
  ·exact p1.elim
 rw[Za]at q1;obtain⟨v0,rr,rfl,q2,q3⟩:=q1;rw[Za]at q3;subst q3;obtain⟨a,ws,rfl,c4,d0,d6⟩:=q2;obtain⟨u0,rfl,d8⟩:=de.one rv;obtain rfl:u0=xb a:=d8;have b2:H2 a=BD (ϯ ws):=(e2.Th _ _ d0 c4).1;have a5:Za T K H2 (x0::xs) ws:=Za.mono e2 _ _ d6;have a3:(x0::xs).length=ws.length:=a5.length;have na:∀ {G:Hp} {ό:Shared} {pn:List$ Addr × Obj},Ta X pn st G ό->G a=BD (ϯ ws)->∃ ϊ:b',ϊ.length=ws.length/\(∀ (j:Nat) v,ϊ[j]?=BD v->∃ w,ws[j]?=BD w/\gd w v)/\ό.heap.IsList a ϊ.toArray:=fun {G ό pn} ύ z=>by
  obtain⟨_,ϊ,n,rv,ho⟩:=ύ.lc _ _ z;refine⟨ϊ,rv.length.symm,λj v hv=>?_,⟨_,ho,rfl,⟨_,rfl⟩⟩⟩;have hj:j<ws.length:=by rw[rv.length];exact(ba.mp hv).1
  obtain⟨u,hu,ru⟩:=rv.get (i:=j) (x:=ws[j]) (by simp[hj]);rw[hv]at hu;cases hu;exact⟨ws[j],by simp[hj],ru⟩
 have one:∀ {E:ad} {G:Hp} {N:Ca} {ό:Shared} {d:D} {w:V} {v:Value} {I S:Addr} {oI oS:Obj} {kk:Int->M D},Ta X ((q,ϳ "<lambda>" t.qual l F f (jj X.env f.names []) ((X.mg "__name__").getD Yb) c' O)::m) st G ό->pd K H2 E G->Xc T E G N->Ka T E G d w->gd w v->
   xl X ((q,ϳ "<lambda>" t.qual l F f (jj X.env f.names []) ((X.mg "__name__").getD Yb) c' O)::m) G I->xl X ((q,ϳ "<lambda>" t.qual l F f (jj X.env f.names []) ((X.mg "__name__").getD Yb) c' O)::m) G S->
   ό.heap.get? I=BD oI->ό.heap.get? S=BD oS->(∀ v,oI.data≠.cell v)->(∀ v,oS.data≠.cell v)->
   Kb T (XE X st) (Ka T) E G (Lc (Qt$ fe$ BD d::rest) (λk=>match k with | Z k=>kk k|_=>pb) N) Q->
   wpAny (model X.prog X.w) X.A.in1 (call (xb q) [v]) (λy a8=>∃ k t',y=Qh k t'/\a8.heap.get? I=BD oI/\a8.heap.get? S=BD oS/\∃ r C B,Ta X ((q,ϳ "<lambda>" t.qual l F f (jj X.env f.names []) ((X.mg "__name__").getD Yb) c' O)::m) st C a8/\pd E G r C/\Xc T r C B/\
    xl X ((q,ϳ "<lambda>" t.qual l F f (jj X.env f.names []) ((X.mg "__name__").getD Yb) c' O)::m) C I/\xl X ((q,ϳ "<lambda>" t.qual l F f (jj X.env f.names []) ((X.mg "__name__").getD Yb) c' O)::m) C S/\Kb T (XE X st) (Ka T) r C (kk k B) Q) (λJ J=>False) ό:=by
  intro E G N ό d w v I S oI oS kk ύ ex r' rd d9 fI fS gI gS cI cS po;generalize c7:ϳ "<lambda>" t.qual l F f (jj X.env f.names []) ((X.mg "__name__").getD Yb) c' O=ob at *;have b9:ό.heap.CodeRec (xb c') t.qual:=by
   obtain⟨⟨o,e0,tt,h1,h2,h3⟩,_⟩:=ύ.lc _ _ (ex.Th _ _ d2 d1).1;exact⟨c',o,e0,tt,rfl,h1,h2,h3⟩
  have hq:=(ύ.pin (q,ob)$ Qa _$ .head _).1;have J2:Ta X ((I,oI)::(S,oS)::(q,ob)::m) st G ό:=ύ.Si λp hp=>by
   rcases Fa.mp hp with rfl|hp
   ·exact⟨gI,fI.1,fI.2.1,fI.2.2.1,cI⟩
   ·rcases Fa.mp hp with rfl|hp
    ·exact⟨gS,fS.1,fS.2.1,fS.2.2.1,cS⟩
    ·exact ύ.pin p$ Qa _ hp
  have hd:X.A.in1.handled=L6:=ϋ.hd;refine dc (L3 (A:=X.A.in1) (t:=tF T _ fe) (v:=w) (Q:=λy C=>∃ k r B,y=ϣ k/\pd E G r C/\Xc T r C B/\Kb T (XE X st) (Ka T) r C (kk k B) Q) J2 L hx ύ.ok.frames hd (yd.in1 ϋ).depth (by rw[<-c7]at hq;exact hq) b9 (b8 _ _ _ _ _) d4 c6 d9 (hb _ _ _ _ _$ (yd.in1 ϋ).deeper _) ⟨E,VP ix d ρ,N,p6 ix (c9.mono ex) rd,r',?_⟩) (λy a8 d3=>?_) λJ J z=>z
  ·unfold VP;rw[c0];refine po.Pu λy B r g C J b5 c1 d7 b1=>?_;cases y with
   |int k=>
    exact⟨k,r,B,d7,b5,c1,b1⟩
   |_=>exact b1.elim
  ·obtain⟨yv,C,J3,ry,k,r,B,rfl,b5,c1,b1⟩:=J2.after d3;obtain⟨t',rfl⟩:=ry;have pI:=J3.pin (I,oI)$ Qa _$ .head _;have pS:=J3.pin (S,oS)$ Qa _$ .tail _$ .head _;have J4:Ta X ((q,ob)::m) st C a8:=J3.Si λp hp=>J3.pin p$ Qa _$ .tail _$ .tail _ hp;exact⟨k,t',rfl,pI.1,pS.1,r,C,B,J4,b5,c1,⟨pI.2.1,fI.2⟩,⟨pS.2.1,fS.2⟩,b1⟩
 obtain⟨ϊ,hn,hP,d5⟩:=na I2 b2;generalize c7:ϳ "<lambda>" t.qual l F f (jj X.env f.names []) ((X.mg "__name__").getD Yb) c' O=ob at *;refine L8 (n:=ws.length) (P:=λj v=>∃ w,ws[j]?=BD w/\gd w v) (λό=>Ta X ((q,ob)::m) st H2 ό)
  (λI S j vb kb ό=>xl X ((q,ob)::m) H2 I/\xl X ((q,ob)::m) H2 S/\∃ E G N b wb,Ta X ((q,ob)::m) st G ό/\pd K H2 E G/\Xc T E G N/\Ka T E G b wb/\gd wb vb/\xl X ((q,ob)::m) G I/\xl X ((q,ob)::m) G S/\Kb T (XE X st) (Ka T) E G (Mx fe rest ((x0::xs).drop j) b kb N) Q)
  ϋ.hd I2 hn hP d5 (by rw[<-a3];simp) (λs0 h' tk g k=>g.kept k) ?_ ?_ ?_ ?_ ?_
 ·
  intro I S s3 v oI oS hI hS e3 ⟨s0,g0,hk,es⟩ ⟨w,hw,a7⟩ gI gS cI cS;have fI:xl X ((q,ob)::m) H2 I:=I2.Vm hI$ I2.lc.fresh hI;have fS:xl X ((q,ob)::m) H2 S:=I2.Vm hS$ I2.lc.fresh hS;have ύ:Ta X ((q,ob)::m) st H2 s3:=by
   rw[es];exact gT g0 (λb o n J e=>hk b o n e) fI fS
  have rd:∃ w',ws[0]?=BD w'/\Ka T K H2 x0 w':=a5.get (i:=0) rfl;obtain⟨w',a4,rd⟩:=rd;rw[hw]at a4;cases a4;refine dc (one (kk:=λk=>Mx fe rest xs x0 k) ύ (ϭ _ _) r2 rd a7 fI fS gI gS cI cS$ Kb.mono e2 p1) (λy s4 z=>?_) λJ J z=>z;obtain⟨k,t',rfl,b6,b7,r,C,B,J4,e4,r4,f1,f2,p4⟩:=z;exact⟨k,t',rfl,b6,b7,fI,fS,r,C,B,x0,w,J4,e4,r4,Ka.mono e4 _ _ rd,a7,f1,f2,p4⟩
 ·intro I S j vb kb ό ⟨_,_,E,G,N,b,wb,ύ,ex,r',rb,a0,f1,f2,p'⟩;exact na ύ (ex.Th _ _ b2 c4).1
 ·intro I S j vb kb ό h' tk ⟨a1,a2,E,G,N,b,wb,ύ,ex,r',rb,a0,f1,f2,p'⟩ k;exact⟨a1,a2,E,G,N,b,wb,gT ύ k f1 f2,ex,r',rb,a0,f1,f2,p'⟩
 ·intro I S j vb kb ό v oI oS ⟨a1,a2,E,G,N,b,wb,ύ,ex,r',rb,a0,f1,f2,p'⟩ ⟨w,hw,a7⟩ gI gS cI cS;have hj:j<(x0::xs).length:=by rw[a3];exact(ba.mp hw).1
  obtain⟨w',a4,rd⟩:=a5.get (i:=j) (d:=(x0::xs)[j]) (by rw[Va hj]);rw[hw]at a4;cases a4;rw[oh hj]at p';generalize (x0::xs)[j]=d at *;generalize e5:(x0::xs).drop (j+1)=c3 at *;refine dc (one (kk:=λk=>if k<kb then Mx fe rest c3 d k else Mx fe rest c3 b kb) ύ ex r' (Ka.mono ex _ _ rd) a7 f1 f2 gI gS cI cS p') (λy s4 z=>?_) λJ J z=>z;obtain⟨k,t',rfl,b6,b7,r,C,B,J4,e4,r4,f3,f4,p4⟩:=z;refine⟨k,t',rfl,b6,b7,a1,a2,r,C,B,?_⟩;by_cases hk:k<kb
  ·rw[ia hk]at p4;rw[ia hk,ia hk];exact⟨d,w,J4,ex.trans e4,r4,Ka.mono (ex.trans e4) _ _ rd,a7,f3,f4,p4⟩
  ·rw[qa hk]at p4;rw[qa hk,qa hk];exact⟨b,wb,J4,ex.trans e4,r4,Ka.mono e4 _ _ rb,a0,f3,f4,p4⟩
 ·intro I S vb kb ό ⟨_,_,E,G,N,b,wb,ύ,ex,r',rb,a0,f1,f2,p'⟩;rw[<-a3,List.drop_length]at p';have q':Q wb G:=Kb.here (R:=Ka T) p' r' rb;exact⟨wb,G,ύ.Si (λp hp=>ύ.pin p$ Qa _$ .tail _ hp),a0,q'⟩
noncomputable def Cz(K:ϔ)(x:Str):Addr:=((W.tabIn K x).getD (0,0)).1
noncomputable def wx(K:ϔ)(x:Str):Addr:=((W.tabIn K x).getD (0,0)).2
noncomputable def nz(K:ϔ):Addr:=match W.nsIn K mainGlobals "__builtins__" with
 |some (BD (xb a))=>a
 |_=>0
theorem ø{K}(h:(W.tabIn K x).isSome=A3):W.tabIn K x=BD (Cz K x,wx K x):=by
 unfold Cz wx;cases e:W.tabIn K x with
 |none=>simp_all
 |some p=>rfl
def VM(K:ϔ)(xs:ac):Bool:=
 W.noTabs K && (match W.nsIn K mainGlobals "__builtins__" with
  |some (BD (xb a))=>(K.lookup a).isNone && (a != builtinsNs)
  |_=>Ŷ) && xs.all λx=>(W.tabIn K x).isSome && yE K (Cz K x) (wx K x)
structure Ax(K:ϔ)(xs:ac):Prop where
 no:W.noTabs K=A3
 bm:W.nsIn K mainGlobals "__builtins__" = BD (BD (xb (nz K)))
 bk:K.lookup (nz K)=L6
 bb:nz K≠builtinsNs
 tab:∀ x∈xs,W.tabIn K x=BD (Cz K x,wx K x)
 hd:∀ x∈xs,yE K (Cz K x) (wx K x)=A3
set_option tactic.hygienic true in
def õ{K}{xs}(h:VM K xs=A3):Ax K xs:=by
 unfold VM at h;rw[Da,Da]at h;obtain⟨⟨f,b⟩,g⟩:=h;split at b
 ·next a d=>
  have c:nz K=a:=by unfold nz;rw[d]
  rw[Da]at b;refine⟨f,by rw[c];exact d,by rw[c];exact Option.isNone_iff_eq_none.mp b.1,by rw[c];simpa using b.2,λx e=>?_,λx e=>?_⟩
  ·have z:=qb.mp g x e;rw[Da]at z;exact ø z.1
  all_goals simp_all
 ·cases b
def eJ(K:ϔ)(d:Str->Option Value)(x:Str)(e:Stmt)(c:ac):Prop:=
 ∃ f a,d x=BD (xb f)/\mJ K x x e f a/\(∀ b:b',b.length=c.length->bindArgs a ⟨b,[]⟩=pure (c.zip b))/\a.code=xb (Cz K x)
def j4{K:ϔ}{c xs}(X:K.In h)(G:h.Ns mainGlobals a)(i:Mr K a x d c)(l:Ax K xs)(m:x∈xs):eJ K a x d c:=by
 obtain⟨f,p,b,F,j⟩:=i;obtain⟨q,r,kV,g,s,o,e,ct,n,rfl,lk,k⟩:=F.ex;exact⟨f,_,b,F,j,W.law_code X G (l.tab x m) b (X _ _ lk) rfl⟩
def dU{K}{st}(h:eJ K i x st ps)(S:rc N ps$ sf st)
  (n:∀ f A b s H E,yd k (A.deeper$ eg x (sf st) s.heap.objs.size f$ xb$ Cz K x)->rl ⟨K,j,tx⟩ (Up (wl P w) P w K i a N x (sf st) f (xb$ Cz K x) A b s H E) (ck st) g) :
  Ci ⟨K,j,tx⟩ P w i a (k+1) x ps$ dh N.length g:=by
 obtain⟨f,t,p,F,c,o⟩:=h;obtain⟨u,v,kV,m,y,r,l,ct,q,rfl,lk,d⟩:=F.ex;have e:=o;subst e;exact⟨f,_,p,F.kp,c,nD lk d S$ n f⟩
set_option tactic.hygienic true in
def Ĕ{K}
  (KX:K.In f.heap) (a8:f.heap.Ns mainGlobals mg) (C:f.heap.Ns builtinsNs mb) (a4:∀ x:Str,x ≠ "__name__"->mb x=bootBuiltins x) (ϊ:f.heap.NoLimit) (hg:f.gens=#[])
  (I:f.heap.get? a=BD { cls:=ki "list",data:=Ϩ L.toArray }) (hi:Bh L p) (hl:p.length<=63) (hr:yd k An)
  (hK:W.noTabs K=A3) (j:f.heap.get? tx.bm=BD ob) (X:ob.cls=ki "module") (a5:ob.dict=BD builtinsNs) (Q:ob.data=.plain) (a3:K.lookup tx.bm=L6)
  (ϋ:∀ t∈tx.Ao,∃ c,W.CodeHd f.heap c t.P/\f.heap.get? t.P=BD (W.tabObj #[]))
  (F:∀ base:Heap,qh P w K mg base (wl P w) k fa fd [x] (Co ⟨K,ca,tx⟩ 1 fn)) (O:∀ s u,Me s fd ⟨[u],[]⟩ [(x,u)])
  (tr:∀ p:dl,p.length<=63->∃ σ,fn [.Zi p] []=Y (ϒ A3) σ) :
  codeAny (model P w) An (.call (xb fa) ⟨[xb a],[]⟩) (λr B=>r=.ok (.ret$ .bool A3)/\OldK f.heap B.heap/\B.os=f.os/\Ah B.gens) f:=by
 have rv:=OF hi;have ό:p.length<=sizeLine:=ub hl ⋯;have E:∀ N:Bool,(N=A3->K.lookup a=L6)->(N=Ŷ->K.lookup a=BD { cls:=ki "list",data:=Ϩ L.toArray })->
   codeAny (model P w) An (.call (xb fa) ⟨[xb a],[]⟩) (λr B=>r=.ok (.ret$ .bool A3)/\OldK f.heap B.heap/\B.os=f.os/\Ah B.gens) f:=by
  intro N a6 a7;obtain⟨H,c1,c2,c3,c4⟩:∃ H:Hp,(∀ t∈tx.Ao,H t.P=BD (.El #[]))/\(H tx.bm=BD (ϧ ob _))/\(N=A3->H a=BD (ϧ { cls:=ki "list",data:=Ϩ L.toArray }$ ϯ$ p.map ϣ))/\
    ∀ b u,H b=BD u->(u=.El #[]/\∃ t∈tx.Ao,b=t.P)\/(b=tx.bm/\u=ϧ ob _)\/(b=a/\N=A3/\u=ϧ { cls:=ki "list",data:=Ϩ L.toArray } (ϯ$ p.map ϣ)):=by
   refine⟨λb=>if b=tx.bm then BD (ϧ ob$ Ϧ$ WY tx.bm)else if b=a then (if N=A3 then BD (ϧ { cls:=ki "list",data:=Ϩ L.toArray }$ ϯ$ p.map ϣ)else L6)else if b∈tx.Ao.map (·.P)then BD (.El #[])else L6,λt g=>?_,ia rfl,λh=>?_,λb u e=>?_⟩
   ·apply b_;intro z_;obtain⟨c,_,l⟩:=ϋ t g;have n1:t.P≠tx.bm:=λz=>by rw[z,j]at l;cases l;cases X
    apply z_;have n2:t.P≠a:=λz=>by rw[z,I]at l;cases l
    dsimp only;rw[qa n1,qa n2,ia$ La.mpr ⟨t,g,rfl⟩]
   ·have n1:a≠tx.bm:=λz=>by rw[z,j]at I;cases I;cases Q
    dsimp only;rw[qa n1,ia rfl,ia h]
   ·dsimp only at e;split at e
    ·next a1=>cases e;exact ϙ$ ϖ ⟨a1,rfl⟩
    ·split at e
     ·next a2=>
      split at e
      ·next h=>cases e;exact ϙ$ ϙ ⟨a2,h,rfl⟩
      ·cases e
     ·split at e
      ·next hm=>cases e;obtain⟨t,g,rfl⟩:=La.mp hm;exact ϖ ⟨rfl,t,g,rfl⟩
      ·cases e
  have a9:Xh P w H f.heap:=λb u e=>by
   rcases c4 b u e with⟨rfl,t,g,rfl⟩|⟨rfl,rfl⟩|⟨rfl,_,rfl⟩
   ·obtain⟨c,_,l⟩:=ϋ t g;exact l
   ·exact⟨j,⟨ob,j,X,a5,Q⟩,⟨ob,j⟩,λh1 h2 ⟨o,e1,G⟩ k=>⟨o,k _ e1,G⟩⟩
   ·exact⟨I,by rw[Ra];exact ό,L,_,rv,I⟩
  have i:∀ {b:Addr} {o:Obj},f.heap.get? b=BD o->H b=L6->(Hz f.heap H).get? b=BD o:=λe n=>zm8 e n;have b1:∀ {b:Addr} {o:Obj} {es:Array zu} {ep:Nat},f.heap.get? b=BD o->o.data=.dict es ep->H b=L6:=fun {b o es ep} e d=>by
   cases q:H b with
   |none=>rfl
   |some u=>
    rcases c4 b u q with⟨_,t,g,rfl⟩|⟨rfl,_⟩|⟨rfl,_,_⟩
    ·obtain⟨c,_,l⟩:=ϋ t g;rw[l]at e;cases e;cases d
    ·rw[j]at e;cases e;rw[Q]at d;cases d
    ·rw[I]at e;cases e;cases d
  have S:∀ {b:Addr} {m:Str->Option Value},f.heap.Ns b m->(Hz f.heap H).Ns b m:=fun {b m} ⟨o,es,ep,e,d,r⟩=>⟨o,es,ep,i e$ b1 e d,d,r⟩
  have a0:=λb o e=>i (KX b o e) (by
   cases q:H b with
   |none=>rfl
   |some u=>
    rcases c4 b u q with⟨_,t,g,rfl⟩|⟨rfl,_⟩|⟨rfl,h,_⟩
    ·obtain⟨c,_,l⟩:=ϋ t g;have G:=KX _ _ e;rw[l]at G;cases G;have h2:=qb.mp hK (t.P,_)$ W.mem_of_lookupK e;exact absurd (show Ŷ=A3 from h2) Ya
    ·rw[a3]at e;cases e
    ·rw[a6 h]at e;cases e)
  have hM:Mod K mg$ Hz f.heap H:=⟨a0,S a8,⟨mb,S C,a4⟩,let ⟨mc,h1,h2⟩:=ϊ;⟨mc,S h1,h2⟩⟩
  have e0:wr P w K mg (Hz f.heap H) An [] f H:=⟨rfl,hM,λb o e=>zA3 e,IG$ N9 _ _,trivial,λb C=>absurd (show b∈[]from C) ⋯,a9,.of_eq hg⟩
  have hS:pH K H a p:=by
   cases N with
   |true=>exact ϖ ⟨_,c3 rfl⟩
   |false=>exact ϙ ⟨_,L.toArray,_,a7 rfl,rfl,rfl,rfl,by rw[Ea,hi.length];exact ό,by simpa using rv⟩
  obtain⟨σ,ef⟩:=tr p hl;have b0:Co ⟨K,ca,tx⟩ 1 fn [ϕ a] H (λv _=>v=ϫ A3) λ_ _ _=>False:=by
   refine⟨[],[],[.Zi p],Za.cons (by rw[Ka];exact⟨a,rfl,hS⟩) Za.nil,rfl,⟨rfl,oe,λn o q=>by simp at q,λt g=>⟨⟨by simp,ob,c2⟩,by simp,#[],c1 t g,ϖ rfl⟩⟩,?_⟩;rw[ef];intro b3 v H' _ _ r;exact r
  refine mf ((F _).dh An [] f H _ [xb a] [ϕ a] _ _ hr e0 (O f$ xb a) (ϡ rfl Ϥ) b0) λr B h=>?_;cases r with
  |error e=>obtain⟨_,_,_,_,z⟩:=h;exact z.elim
  |ok f2=>
   cases f2 with
   |next=>exact ϱ h
   |brk=>exact ϱ h
   |cont=>exact ϱ h
   |ret u=>
    obtain⟨v,H',os,T,un,A,r',q⟩:=h;have q':v=ϫ A3:=q;subst q';obtain rfl:u=Wj A3:=r';have ύ:∀ b o,f.heap.get? b=BD o->(¬ ∃ t∈tx.Ao,b=t.P)->B.heap.get? b=BD o:=λb o e n=>by
     cases q:H b with
     |none=>exact un.keep b o e q (by intro z;exact absurd (show b∈[]from z) ⋯) ⋯
     |some u=>
      rcases c4 b u q with⟨_,z⟩|⟨rfl,rfl⟩|⟨rfl,_,rfl⟩
      ·exact absurd z n
      ·obtain⟨G,_⟩:=A _ _ (un.uj _ _ _ q);rw[j]at e;cases e;exact G
      ·obtain⟨G,_⟩:=A _ _ (un.uj _ _ _ q);rw[I]at e;cases e;exact G
    have y:∀ t∈tx.Ao,∃ ps,B.heap.get? t.P=BD (W.tabObj ps):=λt g=>by
     obtain⟨b2,z⟩:=un.vl _ _ (c1 t g);exact⟨_,A _ _ z⟩
    refine⟨rfl,⟨λb o e=>?_,λb o e=>?_⟩,os,T⟩
    ·by_cases C:∃ t∈tx.Ao,b=t.P
     ·obtain⟨t,g,rfl⟩:=C;obtain⟨c,hc,l⟩:=ϋ t g;obtain⟨ps,R⟩:=y t g;rw[l]at e;cases e;exact ϙ$ ϖ ⟨(hc.tab l).isCodeTable,rfl,#[],ps,rfl,by rw[Array.empty_append];exact R⟩
     ·exact ϖ$ ύ b o e C
    ·by_cases C:∃ t∈tx.Ao,b=t.P
     ·obtain⟨t,g,rfl⟩:=C;obtain⟨ps,R⟩:=y t g;exact⟨_,R⟩
     ·exact⟨o,ύ b o e C⟩
 cases hk:K.lookup a with
 |some o=>
  have e:=KX a o hk;rw[I]at e;cases e;exact E Ŷ (λh=>by cases h) λ_=>hk
 |none=>exact E A3 (λ_=>hk) λh=>by cases h
def r6{l:W.OpenLaw}{K:Params->ϔ} xs
  (hn:l.most=BD 63) (B:d.params.defaults=[]) (hr:yd k An) (hY:∀ w h,H w h->(K w.params).In h)
  (hK:∀ w:Ma,VM (K w.params) xs=A3) (p:(xs.all λx=>((recsOf q).find? λe=>e.name == x).isSome)=A3)
  (F:∀ w v h,(K w.params).In h->h.Ns mainGlobals v->Ax (K w.params) xs->∃ I j,(∀ t∈j,∃ x∈xs,t.P=wx (K w.params) x)/\fN ⟨K w.params,I,⟨j,nz$ K w.params⟩⟩ l.prog w v k d.name [x] fn)
  (tr:∀ E:dl,E.length<=63->∃ σ,fn [.Zi E] []=Y (ϒ A3) σ) :
  W.WalkO q i S H l.row.toRowW d [] (λf R=>PySem.call f R):=by
 refine Att.Lp hn B λw O Q v mb fa o pm cd a0 a R E G ό ho hd a2 C n c m hg=>?_;have r:=hY w _ ό;have TT:=õ$ hK w;obtain⟨I,j,hP,f0,a1,L,g3,g4⟩:=F w v _ r G.T.g TT;rw[C]at L;cases L;obtain⟨bm,ob,ϋ,b2,V,X,ϊ,b6⟩:=G.T.bmain;have ύ:=W.mg_of r G.T.g TT.bm;rw[ϋ]at ύ;cases ύ;refine Ĕ r G.T.g G.T.b G.T.builtins G.T.nolimit hg n c m hr TT.no V X ϊ b6 TT.bk (λt ht=>?_) g4 (λs u=>.of_eq$ g3 [u] rfl) tr;obtain⟨y,N,e⟩:=hP t ht;have z:=qb.mp p y N;obtain⟨d',A⟩:=ae.mp z;have:=W.tab_of G.T r A$ TT.tab y N;rw[e];exact⟨_,this.1,this.2⟩
def D6(h:(a.P == b.P)=Ŷ):∀ t∈(⟨[a,b],f⟩:Tx).Ao,∀ d∈(⟨[a,b],f⟩:Tx).Ao,d.P=t.P->d=t:=by
 intro t g d c e;simp at g c;rcases g with rfl|rfl<;>rcases c with rfl|rfl;all_goals simp_all
def Gw(x:D)(xs:g'):M D:=λa=>match x,xs with
 | U n,[y]=>(match af a n with
  |some b=>(match Bf a y with
   |some zs=>if b.length+zs.length<=Yf then Y Ϛ (a.set n$ ϑ$ b++zs)else ϗ
   |none=>ϗ)
  |none=>ϗ)
 |_,_=>ϗ
section
variable{T:Tb}
def C4:lB T EY Gw:=by
 intro E s H t x xs v f Q r p q h;cases x with
 |ref n=>
  match xs with
  |[]=>cases h
  |[y]=>
   obtain⟨w,z,rfl,A,l⟩:=q;rw[Za]at l;subst l;unfold Gw at h;cases c:af t n with
   |none=>simp[c]at h;exact h.elim
   |some B=>
    simp[c]at h;cases d:Bf t y with
    |none=>simp only[d]at h;exact h.elim
    |some zs=>
     simp only[d]at h;by_cases e:B.length+zs.length<=Yf
     ·rw[ia e]at h;obtain⟨a,f,rfl,k,g,i⟩:=r.na p c;obtain⟨b,m,rfl,u,j⟩:=r.ls A d;have o:=r.write (ob:=ϑ _) k ⟨_,qf,by
       have ex:pd s H s$ Nb H a$ ϯ$ f++m:=Js (wa k) g (λC z=>by cases z) (λC C z=>by cases z);exact Za.append (Za.mono ex _ _ i)$ Za.mono ex _ _ j⟩
      exact⟨a,b,f,m,rfl,rfl,g,u,by rw[<-i.length,<-j.length];exact cz e,h _ _ _ o.1 o.2 (by rw[Ka])⟩
     ·rw[qa e]at h;exact h.elim
  |_::_::_=>exact h.elim
 |_=>exact h.elim
end
section
variable{x y:Str}{p pos:Td}{ss:ac}
def lT(d:Gl X x)(b:wF T.K X.mg x ss)(hd:(x == ("__debug__" : Str))=Ŷ:=by decide):FE T X (ϛ x p)$ eC$ .gt ss:=by
 obtain⟨a,e,c⟩:=b;exact uC (qI d e (v:=ϕ a) rfl hd) λf f=>by rw[Ka];exact⟨a,rfl,c⟩
def Ci.alias(h:Ci T P w b a k x ps c)(e:b y=b x):Ci T P w b a k y ps c:=by
 obtain⟨f,d,g,i⟩:=h;exact⟨f,d,e.trans g,i⟩
end
section
variable{T:Tb}{μ μ':ad}{H H':Hp}{σ:Ca}{a:Addr}
mutual
theorem Ka.chg(j:∀ b,b≠a->H' b=H b)(l:a∈μ)(r:∀ xs,H a≠BD (.Ha xs))(s:∀ o xs,H a≠BD (ϧ o$ ϯ xs)):∀ (d:D) (v:V),Ka T μ H d v->Ka T μ H' d v
 | Ϛ,v,h=>by simpa [Ka]using h
 | ϒ b,v,h=>by simpa [Ka]using h
 | Z i,v,h=>by simpa [Ka]using h
 | ϐ x,v,h=>by simpa [Ka]using h
 | Ϗ ds,v,h=>by
  rw[Ka]at h ⊢;obtain⟨p,m,g,e,k⟩:=h;exact⟨p,m,g,by rw[j p (λz=>r _ (by rw[<-z];exact e))];exact e,Za.chg j l r s ds m k⟩
 | .Zi ns,v,h=>by
  rw[Ka]at h ⊢;obtain⟨p,g,e⟩:=h;refine⟨p,g,?_⟩;rcases e with⟨o,e⟩|e
  ·exact ϖ ⟨o,by rw[j p (λz=>s _ _ (by rw[<-z];exact e))];exact e⟩
  ·exact ϙ e
 | U n,v,h=>by rw[Ka]at h ⊢;exact h
 | ώ ds,v,h=>by
  rw[Ka]at h ⊢;obtain⟨p,m,g,f,e,k⟩:=h;exact⟨p,m,g,f,by rw[j p (λz=>f (by rw[z];exact l))];exact e,Za.chg j l r s ds m k⟩
 | Ϭ ks ds,v,h=>by
  rw[Ka]at h ⊢;obtain⟨p,m,g,f,e,t,k⟩:=h;exact⟨p,m,g,f,by unfold Rd at e ⊢;rw[j p (λz=>f (by rw[z];exact l))];exact e,t,Za.chg j l r s ds _ k⟩
 | Ϲ c ns ds,v,h=>by
  rw[Ka]at h ⊢;obtain⟨p,A,m,g,f,e,t,k⟩:=h;exact⟨p,A,m,g,f,by rw[j p (λz=>f (by rw[z];exact l))];exact e,t,Za.chg j l r s ds _ k⟩
 | .pw c,v,h=>by
  rw[Ka]at h ⊢;obtain⟨p,y,g,f,e,k⟩:=h;refine⟨p,y,g,f,by rw[j p (λz=>f (by rw[z];exact l))];exact e,λn q=>?_⟩;obtain⟨u,B,w,C⟩:=k n q;exact⟨u,B,w,by rw[j u (λz=>w (by rw[z];exact l))];exact C⟩
 | .gt ss,v,h=>by rw[Ka]at h ⊢;exact h
theorem Za.chg(j:∀ b,b≠a->H' b=H b)(i:a∈μ)(f:∀ xs,H a≠BD (.Ha xs))(g:∀ o xs,H a≠BD (ϧ o$ ϯ xs)):∀ (c:g') (e:gV),Za T μ H c e->Za T μ H' c e
 |[],e,h=>by simpa [Za]using h
 |d::c,e,h=>by
  rw[Za]at h ⊢;obtain⟨v,r,k,l,m⟩:=h;exact⟨v,r,k,Ka.chg j i f g d v l,Za.chg j i f g c r m⟩
end
def sJ(i:∀ b,b≠a->H' b=H b)(g:a∈μ)(e:∀ xs,H a≠BD (.Ha xs))(f:∀ o xs,H a≠BD (ϧ o$ ϯ xs)){xs}{d}(h:Paired (λ p q =>p.1=q.1/\Ka T μ H p.2 q.2) xs d) :
  Paired (λ(p:c × D) (q:c × V)=>p.1=q.1/\Ka T μ H' p.2 q.2) xs d:=L2.Paired.bq h λp q z=>⟨z.1,Ka.chg i g e f _ _ z.2⟩
theorem Ho.chg(d:∀ b,b≠a->H' b=H b)(j:a∈μ)(g:∀ xs,H a≠Option.some (.Ha xs))(i:∀ o xs,H a≠Option.some (ϧ o$ ϯ xs))(f:b≠a):∀ {o:Ob},Ho T μ H b o->Ho T μ H' b o
 | ϑ ds,⟨e,h,r⟩=>⟨e,(d b f).trans h,Za.chg d j g i _ _ r⟩
 | J k,⟨e,h,r⟩=>⟨e,(d b f).trans h,sJ d j g i r⟩
 | ϓ c n,⟨l,e,h,r⟩=>⟨l,e,(d b f).trans h,sJ d j g i r⟩
 | Ϡ k,⟨m,e,h,r⟩=>⟨m,e,(d b f).trans h,sJ d j g i r⟩
 | .Je ks,⟨e,h,r⟩=>⟨e,(d b f).trans h,r⟩
def Xc.chg(r:Xc T μ H σ)(f:∀ b,b≠a->H' b=H b)(g:μ[n]?=BD a)(i:∀ xs,H a≠BD (.Ha xs))(j:∀ o xs,H a≠BD (ϧ o$ ϯ xs))(l:Ho T μ H' a ob):Xc T μ H'$ σ.set n ob:=by
 have e:=wa g;refine⟨by simp[r.len],r.nd,λm x h=>?_,r.tb.out f$ ϖ e⟩;rw[Ef]at h;by_cases c:n=m
 ·subst c
  simp_all
 ·rw[qa c]at h;obtain⟨b,d,k⟩:=r.obs m x h;exact⟨b,d,k.chg f e i j (λz=>c (by subst z;exact WH r.nd g d))⟩
end
def _root_.L2.Ta.Mu{st}(I:Ta X d st H s)(hd:H a=BD (ϧ r$ Ϝ f))(k:∀ o u,X.H₀ a≠BD (ϧ o u)):Ta X d st (Nb H a$ Ϝ f) s:=by
 have h:∀ b u,H b=BD u->(∀ o w,u≠ ϧ o w)->b≠a:=λb u q n z=>by rw[z,hd]at q;exact n _ _ (Sb q).symm
 refine⟨I.ok,I.os,I.bare,⟨I.base.keep,I.base.slot,λb o e n m=>?_,I.base.there,λb xs e=>?_,λb o u e=>?_,λb ps e=>?_⟩,I.loc,I.cell,?_,λx c e=>?_,λp l=>?_,λb u e=>?_,I.len⟩
 ·have:=I.base.free b o e n m;rw[Vd (λz=>by rw[z,hd]at this;cases this)];exact this
 ·have:=I.base.cm b xs e;rw[Vd$ h b _ this (λB B z=>by cases z)];exact this
 ·have:=I.base.uj b o u e;rw[Vd (λz=>k o u ⋯)];exact this
 ·obtain⟨g,this⟩:=I.base.vl b ps e;exact⟨g,by rw[Vd$ h b _ this (λB B z=>by cases z)];exact this⟩
 ·rw[Vd (λz=>by have:=I.free;rw[z,hd]at this;cases this)];exact I.free
 ·have:=I.Dg x c e;rw[Vd (λz=>by rw[z,hd]at this;cases this)];exact this
 ·obtain⟨t,i,A⟩:=I.pin p l;exact⟨t,by rw[Vd (λz=>by rw[z,hd]at i;cases i)];exact i,A⟩
 ·by_cases j:b=a
  ·subst j;rw[qf]at e;cases e;exact(I.lc b _ hd).2
  ·rw[Vd j]at e;refine(I.lc b u e).Dk (λc v B z=>z) (λc z=>?_) λc xs z=>?_
   ·rw[Vd$ h c _ z (λB B y=>by cases y)];exact z
   ·rw[Vd$ h c _ z (λB B y=>by cases y)];exact z
section
variable{elts:List Ja}{kk:Nat}{p0:Td}
def JK(n:H a=BD (ϧ k$ Ϝ c))(o:Wg T l H kv c):rz T l H (gm kv)$ Itm a k c:=by
 intro u x v i ex s;have g:=ex.Oc _ _ _ n;have e:=Wg.mono ex o;unfold gm;cases m:kv[i]? with
 |none=>
  by_cases h:i=kv.length
  ·rw[ia h];exact⟨g,by rw[h];exact Paired.length e⟩
  simp_all
 |some p=>
  obtain⟨q,j,f,t⟩:=kE e i m;refine⟨⟨g,q,j⟩,λz w y=>?_⟩;obtain⟨r,A,B,b,rfl,d,rfl⟩:=y;rw[j]at d;cases d;refine⟨qj b,s.fresh b,?_⟩;rw[Ka,f];exact⟨r,_,rfl,qf,Za.cons (JM _)$ Za.cons (Ka.mono (qj b) _ _ t) Za.nil⟩
def DJ(d:D):M NX:=λb=>match d with
 | Ϭ ks xs=>if ks.length=xs.length then Y (gm$ ks.zip xs) b else ϗ
 | U n=>(match b[n]? with
  |some (J a)=>Y (gm a) (b.set n$ Ϡ a)
  |some (Ϡ a)=>Y (gm a) b
  |_=>ϗ)
 |_=>ϗ
def Ur(f:Ev->M D):Ev->M NX:=λa=>Lc (f a) DJ
def ÿ(h:FE T X e f)(G:Wc e "items" X.env (Cb e X.env)=Cb e X.env:=by rfl)(ύ:(x.endLine == A.line)=A3:=by rfl) :
  Zq T X (ϰ elts kk p0) (ϟ (ϝ e "items" x) [] [] A)$ Ur f:=by
 intro Q s st H R I hw;refine CW (xO sd yh bo mV h G ύ) Q s st H R I ?_;obtain⟨μ,ρ,σ,hE,hr,hp⟩:=hw;refine⟨μ,ρ,σ,hE,hr,hp.bind λd w c v i b e1 V q1 p=>?_⟩;unfold DJ at p;cases d with
 |Aa ks xs=>
  dsimp only at p;by_cases hl:ks.length=xs.length
  ·rw[ia hl]at p;obtain⟨a,j,rfl,ϋ,q,ϊ,a0⟩:=q1;refine⟨⟨a,j,rfl,q⟩,a,j,rfl,rfl,q,λl g=>?_⟩;have t:a≠l:=by rcases q with q|⟨_,q⟩<;>exact Cm q g
   have ό:Rd (Nb i l$ Ϧ$ cr l a) a$ Ϝ j:=by unfold Rd;rw[Vd t];exact q
   refine⟨l,a,j,rfl,qf,ό,λN m=>?_⟩;have C:pd c i c$ Nb i l$ Ϧ$ cr l a:=qj g;have k:Xc T c (Nb i l$ Ϧ$ cr l a) w:=V.fresh g;obtain⟨x2,a1⟩:pd c i c _/\Xc T c _ w:=by
    rcases m with m|m
    ·have y:=rO (μ:=c) (od:=N) m;exact⟨C.trans y,k.keep y (λb W=>Vd (λz=>ϋ (by rw[<-z];exact W)))$ k.tb.out (λb W=>Vd W)$ ϙ ⟨_,m⟩⟩
    ·rw[Ex m];exact⟨C,k⟩
   exact Kb.here (Kb.mono x2 p) a1$ JK qf$ Wg.mono x2$ BG ϊ a0
  ·rw[qa hl]at p;exact p.elim
 |ref n=>
  dsimp only at p;cases S:w[n]? with
  |none=>rw[S]at p;exact p.elim
  |some o=>
   rw[S]at p;obtain⟨a,rfl,ϋ,P⟩:=V.at q1 S;cases o with
   |Aa j=>
    obtain⟨u,E,K⟩:=P;have q:Rd i a _:=ϖ E;refine⟨⟨a,u,rfl,q⟩,a,u,rfl,rfl,q,λl g=>?_⟩;have t:=Cm E g;have r:Nb i l (Ϧ$ cr l a) a=BD (Ϝ u):=by rw[Vd t];exact E
    refine⟨l,a,u,rfl,qf,ϖ r,λN b=>?_⟩;have C:pd c i c$ Nb i l$ Ϧ$ cr l a:=qj g;have k:Xc T c (Nb i l$ Ϧ$ cr l a) w:=V.fresh g;have O:pd c _ c$ Nb _ a$ ϧ N$ Ϝ u:=Js (wa ϋ) r (λb z=>by cases z) (λb b z=>by cases z);have B:=Wg.mono (C.trans O) K;exact Kb.here (Kb.mono (C.trans O) p) (k.write (ob:=Ϡ j) ϋ ⟨N,u,qf,B⟩$ λkv z=>by rw[S]at z;cases z).2$ JK qf B
   |Fb j=>
    obtain⟨L,u,E,K⟩:=P;have q:Rd i a _:=ϙ ⟨L,E⟩;refine⟨⟨a,u,rfl,q⟩,a,u,rfl,rfl,q,λl g=>?_⟩;have t:a≠l:=Cm E g;have r:Nb i l (Ϧ$ cr l a) a=BD (ϧ L$ Ϝ u):=by rw[Vd t];exact E
    refine⟨l,a,u,rfl,qf,ϙ ⟨L,r⟩,λN m=>?_⟩;have C:pd c i c$ Nb i l$ Ϧ$ cr l a:=qj g;have k:Xc T c (Nb i l$ Ϧ$ cr l a) w:=V.fresh g;rcases m with m|m
    ·rw[r]at m;cases m
    ·rw[Ex m];exact Kb.here (Kb.mono C p) k$ JK m$ Wg.mono C K
   |_=>exact p.elim
 |_=>exact p.elim
noncomputable def yC{c:Type}(ok:c->Bool)(n:Nat):Ji c->Ji c
 | Y a σ=>if ok a=A3 then (match σ[n]? with
  |some (Ϡ b)=>Y a (σ.set n$ J b)
  |_=>ϗ)else ϗ
 |_=>ϗ
noncomputable def Ey{b:Type}(ok:b->Bool)(m:M D)(g:M b):M b:=λa=>match m a with
 | Y (U n) _=>(match a[n]? with
  |some (J _)=>yC ok n (g a)
  |_=>g a)
 |_=>g a
noncomputable def sL:Fl->Bool
 | .xc _ _=>Ŷ
 |_=>A3
def Zt(f:Ev->M D)(g:Ev->M Fl):Ev->M Fl:=λa=>Ey sL (f a)$ g a
noncomputable def KJ(f:Ev->M D)(g:Ev->M D):Ev->M D:=λa=>Ey (λb=>A3) (f a)$ g a
def V1(ex:pd e H b c)(i:a∈e)(f:H a=BD (Ϝ d))(k:c a=BD (ϧ j$ Ϝ g)):pd e H b$ Nb c a$ Ϝ g:=by
 refine⟨ex.pre,λp xs h=>?_,λp o u h=>?_,λp o h n=>?_⟩
 ·rw[Vd (λz=>by rw[z,f]at h;cases h)];exact ex.Ha p xs h
 ·rw[Vd (λz=>by rw[z,f]at h;cases h)];exact ex.Oc p o u h
 ·rw[Vd (λz=>n ⋯)];exact ex.keep p o h n
def XY(D:y[n]?=BD a)(I:H a=BD (Ϝ v))
  (G:∀ c e (d:s) (g:w) k f,a∈c->e a=BD (ϧ k$ Ϝ f)->ok d=A3->R c e d g->R c (Nb e a$ Ϝ f) d g) (h:Kb T E R y H (yC ok n o) Q) :
  Kb T E R y H o (λg e=>∃ k f,e a=BD (ϧ k$ Ϝ f)/\Q g (Nb e a$ Ϝ f)/\∃ c d,ok d=A3/\R c e d g):=by
 cases o with
 |pb=>exact h
 |ex x q=>trivial
 |ok d q=>
  unfold yC at h;dsimp only at h;by_cases i:ok d=A3
  ·rw[ia i]at h;cases t:q[n]? with
   |none=>rw[t]at h;exact h.elim
   |some ob=>
    rw[t]at h;cases ob with
    |Fb K=>
     intro c g e ex r F;apply b_;intro z_;obtain⟨L,m,k,f,p,u⟩:=r.obs n _ t;have j:=ex.get D;rw[j]at m;cases m;have l:=wa j;have C:∀ b,b≠a->Nb e a (Ϝ f) b=e b:=λb ύ=>Vd ύ;have A:∀ xs,e a≠BD (.Ha xs):=λxs z=>by rw[p]at z;cases z
     apply z_;have B:∀ o xs,e a≠BD (ϧ o$ ϯ xs):=λo xs z=>by rw[p]at z;cases z
     exact⟨k,f,p,h c g _ (V1 ex (wa D) I p) (r.chg C j A B ⟨f,qf,sJ C l A B u⟩)$ G c e d g k f l p i F,c,d,i,F⟩
    |_=>exact h.elim
  ·rw[qa i]at h;exact h.elim
def aF(f:a∈c)(g:e a=BD (ϧ k$ Ϝ i)) d v(h:Ka T c e d v):Ka T c (Nb e a$ Ϝ i) d v:=
 Ka.chg (λb j=>Vd j) f (λxs z=>by rw[g]at z;cases z) (λo xs z=>by rw[g]at z;cases z) d v h
set_option tactic.hygienic true in
def TQ(h:FS T X s g):FS T X s$ Zt f g:=by
 intro t N st H D I l;obtain⟨O,ρ,P,K,G,A⟩:=l;have p:=λq=>h t N st H D I ⟨O,ρ,P,K,G,q⟩;unfold Zt Ey at A;split at A
 ·rename_i n _ _
  split at A
  ·rename_i ϋ Q
   obtain⟨a,S,W,L,_⟩:=G.obs n _ Q;have F:∀ o u,X.H₀ a≠BD _:=λo u z=>by have:=I.base.uj a o u z;rw[L]at this;cases this
   have q:=XY S L (λύ e d y k c r j x m=>by
    cases d with
    |xc _ _=>cases x
    |nx E=>cases y<;>first|exact m.elim|exact⟨m.1,λi d q=>let ⟨v,B,C⟩:=m.2 i d q;⟨v,B,aF r j _ _ C⟩⟩
    |bk E=>cases y<;>first|exact m.elim|exact⟨m.1,λi d q=>let ⟨v,B,C⟩:=m.2 i d q;⟨v,B,aF r j _ _ C⟩⟩
    |ct E=>cases y<;>first|exact m.elim|exact⟨m.1,λi d q=>let ⟨v,B,C⟩:=m.2 i d q;⟨v,B,aF r j _ _ C⟩⟩
    |rt ό=>cases y<;>first|exact m.elim|exact aF r j _ _ m) A
   refine dc (h t N st H ⟨λb e=>∃ k c,e a=BD (ϧ k$ Ϝ c)/\D.nx b (Nb e a$ Ϝ c),λv e=>∃ k c,e a=BD (ϧ k$ Ϝ c)/\D.rt v (Nb e a$ Ϝ c),λb e=>∃ k c,e a=BD (ϧ k$ Ϝ c)/\D.bk b (Nb e a$ Ϝ c),λb e=>∃ k c,e a=BD (ϧ k$ Ϝ c)/\D.ct b (Nb e a$ Ϝ c)⟩ I ⟨O,ρ,P,K,G,q.imp λy e z=>?_⟩) (λR ϊ z=>?_) λ_ _ z=>z
   ·apply b_;intro z_;obtain⟨k,c,j,l,ύ,d,x,m⟩:=z;apply z_;cases y with
    |nx b=>exact⟨k,c,j,l⟩
    |rt v=>exact⟨k,c,j,l⟩
    |bk b=>exact⟨k,c,j,l⟩
    |ct b=>exact⟨k,c,j,l⟩
    |xc b cls fd=>cases d<;>first|exact m.elim|cases x
   ·cases R with
    |next=>obtain⟨b,e,w,k,c,j,l⟩:=z;exact⟨b,_,w.Mu j F,l⟩
    |brk=>obtain⟨b,e,w,k,c,j,l⟩:=z;exact⟨b,_,w.Mu j F,l⟩
    |cont=>obtain⟨b,e,w,k,c,j,l⟩:=z;exact⟨b,_,w.Mu j F,l⟩
    |ret u=>obtain⟨v,b,e,w,V,k,c,j,l⟩:=z;exact⟨v,b,_,w.Mu j F,V,l⟩
  ·exact p A
 ·exact p A
set_option tactic.hygienic true in
def zt6(h:FE T X e g):FE T X e$ KJ f g:=by
 intro c s st H Q I k;obtain⟨t,ρ,w,p,l,i⟩:=k;have b:=λq=>h c s st H Q I ⟨t,ρ,w,p,l,q⟩;unfold KJ Ey at i;split at i
 ·rename_i n _ _
  split at i
  ·rename_i E A
   obtain⟨a,C,L,r,_⟩:=l.obs n _ A;have B:∀ o u,X.H₀ a≠BD _:=λo u z=>by have:=I.base.uj a o u z;rw[r]at this;cases this
   refine dc (h c s st H _ I ⟨t,ρ,w,p,l,(XY C r (λN x d v F K j m _ G=>aF j m d v G) i)⟩) (λu O z=>?_) λ_ _ z=>z;obtain⟨v,x,y,ύ,F,K,m,k,_⟩:=z;exact⟨v,_,y.Mu m B,ύ,k⟩
  ·exact b i
 ·exact b i
end
noncomputable def yI(d:Addr)(b:Obj)(a:List$ Nc × V):It:=
 ⟨λi H=>H d=BD (ϧ b$ Ϝ a)/\∃ x,a[i]?=BD x,λi H v c=>c=H/\∃ k x,v=kV k/\a[i]?=BD (k,x),λi H=>H d=BD (ϧ b$ Ϝ a)/\i=a.length⟩
def V5{P:xa}{w:Ma}{K:ϔ}{tg:Ja}(d f:Addr)(S:Obj)(p:List$ Nc × V)(a0:d≠f){ϊ:Array zu}{O:Nat}(n:S.data=.dict ϊ O) :
  Xm P w K tg (yI d S p) [f] f (λi h=>h.IsKeyIter f d i p.length O) where
 mem:=by simp
 obj:=λi h st b j=>by
  obtain rfl:b=f:=by simpa using j
  obtain⟨o,e,c,N⟩:=st
  simp_all
 keep:=λi h h' st k=>st.at λo e=>k f ⋯ o e
 item:=by
  intro X D L C Q i g s T H E I r st F;subst D L C;obtain⟨hd,⟨k,x⟩,R⟩:=F;obtain⟨vs,v,t,a,l,G⟩:=Lf I hd;rw[n]at l;cases l;obtain⟨u,hu,ru⟩:=lH a i R;rw[a.length]at st;obtain⟨f0,y,f2,z,A,B⟩:=r f ⋯;refine wpAny_pyNext_dict_item st G hu λM h' m q ύ=>?_;have ϋ:Ta X g T H { s with heap:=h' }:=I.turned (λb o j e=>ύ.extBut b o j e) f0 y z A B;obtain⟨o,e,c,N⟩:=id q;exact⟨M,rfl,mE e c N ⋯ ⟨kV k,H,ϋ,HX m,⟨rfl,k,x,rfl,R⟩,by rw[a.length];exact q,λb j=>(r b j).1⟩⟩
 done:=by
  intro X D L C Q i g s T H E I r st F;subst D L C;obtain⟨hd,hi⟩:=F;obtain⟨vs,v,t,a,l,G⟩:=Lf I hd;rw[n]at l;cases l;rw[a.length]at st hi;obtain⟨f0,y,f2,z,A,B⟩:=r f ⋯;exact wpAny_pyNext_dict_end (I.ok.hd Q) st G ⋯ λh' ό=>⟨rfl,I.turned (λb o j e=>ό b o j e) f0 y z A B⟩
 self:=λJ J J J J st h=>wpAny_pyIter_keyiter st h
noncomputable def BE(a:List$ Nc × D):NX:=λi b=>match a[i]? with
 |some p=>BD (BD$ kH p.1)
 |none=>if i=a.length then BD L6 else L6
def OJ(d:D):M NX:=λb=>match d with
 | U n=>(match b[n]? with
  |some (J a)=>Y (BE a) (b.set n$ Ϡ a)
  |some (Ϡ a)=>Y (BE a) b
  |_=>ϗ)
 |_=>ϗ
def hJ(f:Ev->M D):Ev->M NX:=λa=>Lc (f a) OJ
section
variable{tg:Ja}
def qW(m:H a=BD (ϧ j$ Ϝ b))(n:Wg T k H kv b):rz T k H (BE kv)$ yI a j b:=by
 intro r u s i ex o;have f:=ex.Oc _ _ _ m;have d:=Wg.mono ex n;unfold BE;cases l:kv[i]? with
 |none=>
  by_cases g:i=kv.length
  ·rw[ia g];exact⟨f,by rw[g];exact Paired.length d⟩
  simp_all
 |some p=>
  obtain⟨q,h,e,w⟩:=kE d i l;refine⟨⟨f,q,h⟩,λz t y=>?_⟩;obtain⟨rfl,v,x,rfl,c⟩:=y;rw[h]at c;cases c;exact⟨ϭ _ _,o,by rw[e];exact JM _⟩
def k7(e:TE):TI:=λf H R=>e f H λv c=>∃ a b,v=ϕ a/\Rd c a (Ϝ b)/\∀ d,c a=BD (Ϝ b)\/c a=BD (ϧ d$ Ϝ b)->R (yI a d b) (Nb c a$ ϧ d$ Ϝ b)
def G4(A:PE X d p):PI X tg d$ k7 p:=by
 intro g s r H R I h;refine ud (A g s r H _ I h) λv s1 ſ=>?_;obtain⟨x,H1,k,D,C⟩:=ſ;obtain⟨a,i,rfl,c,q⟩:=C;cases D;obtain⟨_,B,_⟩:=cu k.lc c;obtain⟨f,m,l⟩:∃ f,(H1 a=BD _\/H1 a=BD (ϧ f _))/\Ta X g r (Nb H1 a$ ϧ f _) s1:=by
  rcases c with c|⟨f,c⟩
  ·obtain⟨_,_,E,j,o,w,u,e,_⟩:=k.lc a _ c;exact⟨o,ϖ c,k.freeze c e⟩
  ·exact⟨f,ϙ c,by rw[Ex c];exact k⟩
 obtain⟨E,w,u,j,t,n⟩:=Lf l qf;refine wpAny_pyIter_dict B n ⟨s1.heap.objs.size,[s1.heap.objs.size],_,yI a f i,_,rfl,l.kept (λb o e=>da _ e),V5 a _ f i (va n.lt_size) t,by rw[j.length];exact⟨_,qB _ _ (λz=>by cases z),rfl,rfl⟩,λb y=>?_,q f m⟩;obtain rfl:b=s1.heap.objs.size:=by simpa using y
 exact l.Vm (pa _)$ l.lc.fresh$ pa _
def G3(h:FE T X e f):Zq T X tg e$ hJ f:=by
 intro p s K H R I G;refine G4 h p s K H R I ?_;obtain⟨L,ρ,N,C,F,E⟩:=G;refine⟨L,ρ,N,C,F,E.bind λd y r v A D O x ύ b=>?_⟩;unfold OJ at b;cases d with
 |ref n=>
  dsimp only at b;cases t:y[n]? with
  |none=>rw[t]at b;exact b.elim
  |some o=>
   rw[t]at b;obtain⟨a,rfl,B,l⟩:=x.at ύ t;cases o with
   |Aa m=>
    obtain⟨q,k,i⟩:=l;refine⟨a,q,rfl,ϖ k,λu D=>?_⟩;have j:pd r A r$ Nb A a$ ϧ u$ Ϝ q:=Js (wa B) k (λD z=>by cases z) (λD D z=>by cases z);have c:=Wg.mono j i;exact Kb.here (Kb.mono j b) (x.write (ob:=Ϡ m) B ⟨u,q,qf,c⟩$ λkv z=>by rw[t]at z;cases z).2$ qW qf c
   |Fb m=>
    obtain⟨w,q,k,i⟩:=l;refine⟨a,q,rfl,ϙ ⟨w,k⟩,λu g=>?_⟩;rcases g with g|g
    ·rw[k]at g;cases g
    ·rw[Ex g];exact Kb.here b x$ qW g i
   |_=>exact b.elim
 |_=>exact b.elim
end
def wG(x y:D):M D:=λa=>match Bf a x,Bf a y with
 |some xs,BD b=>if xs.length+b.length<=Yf then yA (xs++b) a else ϗ
 |_,_=>ϗ
def ş:Ch X (je .Add)$ rD T wG:=by
 rintro b s st H v u w t Q I o n ⟨E,B,σ,x,y,r,k,m,a⟩;unfold wG at a;cases c:Bf σ x with
 |none=>rw[c]at a;exact a.elim
 |some xs=>
  cases d:Bf σ y with
  |none=>rw[c,d]at a;exact a.elim
  |some A=>
   rw[c,d]at a;dsimp only at a;by_cases e:xs.length+A.length<=Yf
   ·rw[ia e]at a;obtain⟨p,z,rfl,h,f⟩:=r.ls k c;obtain⟨q,ws,rfl,i,g⟩:=r.ls m d;exact nV b s st H _ _ w t Q I o n ⟨p,q,z,ws,rfl,rfl,h,i,by rw[<-f.length,<-g.length];exact cz e,λl j=>dC a r (Za.append f g) j⟩
   ·rw[qa e]at a;exact a.elim
def Qu:rl T X a Xl:=λpins s st H D I ⟨c,d,σ,_,_,b⟩=>b.elim
open Classical in
def Cv(l a:Addr):Heap->Prop:=λh=>h.IsValuesView l a
def ź:V->gV->Hp->VK->Prop:=λx xs H Q=>∃ a b,x=ϕ a/\xs=[]/\Rd H a (Ϝ b)/\∀ l,H l=L6->Q (ϕ l) (Nb H l$ Ϧ$ Cv l a)
noncomputable def VJ(d:Addr)(b:Obj)(a:List$ Nc × V):It:=
 ⟨λi H=>H d=BD (ϧ b$ Ϝ a)/\∃ x,a[i]?=BD x,λi H v c=>c=H/\∃ k,a[i]?=BD (k,v),λi H=>H d=BD (ϧ b$ Ϝ a)/\i=a.length⟩
def F6{P:xa}{w:Ma}{K:ϔ}{tg:Ja}(d f:Addr)(Q:Obj)(n:List$ Nc × V)(a0:d≠f){ϋ:Array zu}{M:Nat}(m:Q.data=.dict ϋ M) :
  Xm P w K tg (VJ d Q n) [f] f (λi h=>h.IsValIter f d i n.length M) where
 mem:=by simp
 obj:=λi h st b j=>by
  obtain rfl:b=f:=by simpa using j
  obtain⟨o,e,c,L⟩:=st
  simp_all
 keep:=λi h h' st k=>st.at λo e=>k f ⋯ o e
 item:=by
  intro X C ύ B N i g s R H E I q st D;subst C ύ B;obtain⟨hd,⟨k,x⟩,O⟩:=D;obtain⟨vs,t,r,a,l,F⟩:=Lf I hd;rw[m]at l;cases l;obtain⟨u,hu,ru⟩:=lH a i O;rw[a.length]at st;obtain⟨f0,v,ό,y,z,A⟩:=q f ⋯;refine wpAny_pyNext_values_item st F hu λh' p G=>?_;have S:Ta X g R H { s with heap:=h' }:=I.turned (λb o j e=>G.extBut b o j e) f0 v y z A;obtain⟨o,e,c,L⟩:=id p;exact⟨u,rfl,mE e c L ⋯ ⟨x,H,S,ru,⟨rfl,k,O⟩,by rw[a.length];exact p,λb j=>(q b j).1⟩⟩
 done:=by
  intro X C ύ B N i g s R H E I q st D;subst C ύ B;obtain⟨hd,ϊ⟩:=D;obtain⟨vs,t,r,a,l,F⟩:=Lf I hd;rw[m]at l;cases l;rw[a.length]at st ϊ;obtain⟨f0,v,ό,y,z,A⟩:=q f ⋯;exact wpAny_pyNext_values_end (I.ok.hd N) st F ⋯ λh' T=>⟨rfl,I.turned (λb o j e=>T b o j e) f0 v y z A⟩
 self:=λJ J J J J st h=>wpAny_pyIter_valiter st h
noncomputable def vA(a:List$ Nc × D):NX:=λi b=>match a[i]? with
 |some p=>BD (BD p.2)
 |none=>if i=a.length then BD L6 else L6
def gH(d:D):M NX:=λb=>match d with
 | Ϭ ks xs=>if ks.length=xs.length then Y (vA$ ks.zip xs) b else ϗ
 | U n=>(match b[n]? with
  |some (J a)=>Y (vA a) (b.set n$ Ϡ a)
  |some (Ϡ a)=>Y (vA a) b
  |_=>ϗ)
 |_=>ϗ
def rP(f:Ev->M D):Ev->M NX:=λa=>Lc (f a) gH
section
variable{tg:Ja}
def X6:qw X "dict.values" ź:=by
 rintro f s st H x t v r Q I l j ⟨a,h,rfl,rfl,g,q⟩;cases l;cases j;obtain⟨z,hd,ws,i,d⟩:=cu I.lc g;refine wh wn d.typeIs PySem.F.entry_dict_values (PySem.F.args_dict_values_1 _) (meets_dict_values _ a hd) ⟨⟨ws,d⟩,⟨ϕ s.heap.objs.size,_,I.laid (λb o e=>da _ e) (pa _) ?_,rfl,q _$ I.lc.fresh$ pa _⟩⟩;refine⟨⟨_,qB _ _ (λz=>by cases z),rfl,rfl⟩,⟨_,qB _ _ (λz=>by cases z)⟩,λm n p k=>?_⟩;obtain⟨o,e,c⟩:=p;exact⟨o,k o e,c⟩
def kO(l:H a=BD (ϧ h$ Ϝ b))(n:Wg T j H kv b):rz T j H (vA kv)$ VJ a h b:=by
 intro s v t i ex o;have e:=ex.Oc _ _ _ l;have d:=Wg.mono ex n;unfold vA;cases k:kv[i]? with
 |none=>
  by_cases f:i=kv.length
  ·rw[ia f];exact⟨e,by rw[f];exact Paired.length d⟩
  simp_all
 |some p=>
  obtain⟨q,g,m,r⟩:=kE d i k;refine⟨⟨e,q,g⟩,λz u y=>?_⟩;obtain⟨rfl,w,c⟩:=y;rw[g]at c;cases c;exact⟨ϭ _ _,o,r⟩
def yor(e:TE):TI:=λf H R=>e f H λv c=>∃ l a b,v=ϕ l/\c l=BD (Ϧ$ Cv l a)/\Rd c a (Ϝ b)/\∀ d,c a=BD (Ϝ b)\/c a=BD (ϧ d$ Ϝ b)->R (VJ a d b) (Nb c a$ ϧ d$ Ϝ b)
def ĵ(A:PE X d r):PI X tg d$ yor r:=by
 intro g s σ H R I h;refine ud (A g s σ H _ I h) λv s1 ſ=>?_;obtain⟨x,H1,k,D,C⟩:=ſ;obtain⟨l,a,i,rfl,B,c,q⟩:=C;cases D;obtain⟨f,n,m⟩:∃ f,(H1 a=BD _\/H1 a=BD (ϧ f _))/\Ta X g σ (Nb H1 a$ ϧ f _) s1:=by
  rcases c with c|⟨f,c⟩
  ·obtain⟨_,_,E,j,o,w,u,e,_⟩:=k.lc a _ c;exact⟨o,ϖ c,k.freeze c e⟩
  ·exact⟨f,ϙ c,by rw[Ex c];exact k⟩
 obtain⟨E,w,u,j,t,p⟩:=Lf m qf;refine wpAny_pyIter_values ((k.lc l _ B).1) p ⟨s1.heap.objs.size,[s1.heap.objs.size],_,VJ a f i,_,rfl,m.kept (λb o e=>da _ e),F6 a _ f i (va p.lt_size) t,by rw[j.length];exact⟨_,qB _ _ (λz=>by cases z),rfl,rfl⟩,λb y=>?_,q f n⟩;obtain rfl:b=s1.heap.objs.size:=by simpa using y
 exact m.Vm (pa _)$ m.lc.fresh$ pa _
def Ψ(h:FE T X e f)(G:Wc e "values" X.env (Cb e X.env)=Cb e X.env:=by rfl)(ύ:(x.endLine == A.line)=A3:=by rfl) :
  Zq T X tg (ϟ (ϝ e "values" x) [] [] A)$ rP f:=by
 intro Q s st H R I hw;refine ĵ (xO sd wn PySem.F.type_dict_values X6 h G ύ) Q s st H R I ?_;obtain⟨μ,ρ,σ,hE,hr,hp⟩:=hw;refine⟨μ,ρ,σ,hE,hr,hp.bind λd w c v i b e1 V q1 p=>?_⟩;unfold gH at p;cases d with
 |Aa ks xs=>
  dsimp only at p;by_cases hl:ks.length=xs.length
  ·rw[ia hl]at p;obtain⟨a,j,rfl,ϋ,q,ό,ϊ⟩:=q1;refine⟨⟨a,j,rfl,q⟩,a,j,rfl,rfl,q,λl g=>?_⟩;have t:a≠l:=by rcases q with q|⟨_,q⟩<;>exact Cm q g
   have W:Rd (Nb i l$ Ϧ$ Cv l a) a$ Ϝ j:=by unfold Rd;rw[Vd t];exact q
   refine⟨l,a,j,rfl,qf,W,λN m=>?_⟩;have C:pd c i c$ Nb i l$ Ϧ$ Cv l a:=qj g;have k:Xc T c (Nb i l$ Ϧ$ Cv l a) w:=V.fresh g;obtain⟨x2,a0⟩:pd c i c _/\Xc T c _ w:=by
    rcases m with m|m
    ·have y:=rO (μ:=c) (od:=N) m;exact⟨C.trans y,k.keep y (λb hb=>Vd (λz=>ϋ ⋯))$ k.tb.out (λb hb=>Vd hb)$ ϙ ⟨_,m⟩⟩
    ·rw[Ex m];exact⟨C,k⟩
   exact Kb.here (Kb.mono x2 p) a0$ kO qf$ Wg.mono x2$ BG ό ϊ
  ·rw[qa hl]at p;exact p.elim
 |ref n=>
  dsimp only at p;cases S:w[n]? with
  |none=>rw[S]at p;exact p.elim
  |some o=>
   rw[S]at p;obtain⟨a,rfl,ϋ,P⟩:=V.at q1 S;cases o with
   |Aa j=>
    obtain⟨u,E,K⟩:=P;have q:Rd i a _:=ϖ E;refine⟨⟨a,u,rfl,q⟩,a,u,rfl,rfl,q,λl g=>?_⟩;have t:=Cm E g;have r:Nb i l (Ϧ$ Cv l a) a=BD (Ϝ u):=by rw[Vd t];exact E
    refine⟨l,a,u,rfl,qf,ϖ r,λN b=>?_⟩;have C:pd c i c$ Nb i l$ Ϧ$ Cv l a:=qj g;have k:Xc T c (Nb i l$ Ϧ$ Cv l a) w:=V.fresh g;have O:pd c _ c$ Nb _ a$ ϧ N$ Ϝ u:=Js (wa ϋ) r (λb z=>by cases z) (λb b z=>by cases z);have B:=Wg.mono (C.trans O) K;exact Kb.here (Kb.mono (C.trans O) p) (k.write (ob:=Ϡ j) ϋ ⟨N,u,qf,B⟩$ λkv z=>by rw[S]at z;cases z).2$ kO qf B
   |Fb j=>
    obtain⟨L,u,E,K⟩:=P;have q:Rd i a _:=ϙ ⟨L,E⟩;refine⟨⟨a,u,rfl,q⟩,a,u,rfl,rfl,q,λl g=>?_⟩;have t:a≠l:=Cm E g;have r:Nb i l (Ϧ$ Cv l a) a=BD (ϧ L$ Ϝ u):=by rw[Vd t];exact E
    refine⟨l,a,u,rfl,qf,ϙ ⟨L,r⟩,λN m=>?_⟩;have C:pd c i c$ Nb i l$ Ϧ$ Cv l a:=qj g;have k:Xc T c (Nb i l$ Ϧ$ Cv l a) w:=V.fresh g;rcases m with m|m
    ·rw[r]at m;cases m
    ·rw[Ex m];exact Kb.here (Kb.mono C p) k$ kO m$ Wg.mono C K
   |_=>exact p.elim
 |_=>exact p.elim
end
noncomputable def wJ(a b:g'):M$ g':=ret$ b++a
def mB(a:g')(b:Ev->M (g')):Ev->M (g'):=λc=>Lc (b c)$ wJ a
def Ž(hm:X.mg x=BD (xb$ T.ca c))(z:Mk T.K (T.ca c) f)(P:Vr T.K N ps b)
  (O:qh X.prog X.w T.K X.mg X.base (wl X.prog X.w) k f N ps$ Co T ps.length h) (hv:de d b) (C:∀ y H,Za T y H a d) (ϋ:T.K=X.K) (hr:yd (k+1) X.A) (hg:Gl X x)
  (ό:FA T X (e::l) i) (B:(x == ("__debug__" : Str))=Ŷ:=by decide) (ϊ:ka (e::l) X.env=(Ŷ,Cb e X.env)::ka l X.env:=by rfl) (F:(Ub g$ ka l X.env).any (·.1)=Ŷ:=by rfl) :
  FE T X (ϟ (ϛ x p) (e::l) [] g)$ Yo c ps.length h$ mB a i:=by
 rw[ϋ]at z O P;rintro m s st H Q I ⟨y,n,o,S,G,hp⟩;have E:Kb T (XE X st) (Ka T) y H (Lc (i n) (λt=>vj c ps.length h$ t++a) o) Q:=by
  have:Yo c ps.length h (mB a i) n o=Lc (i n) (λt=>vj c ps.length h$ t++a) o:=by
   unfold Yo mB wJ Lc;cases i n o<;>rfl
  simp_all
 refine Ke$ pB I hg hm (ϻ I.ok.mod.Cw z.kp (ud (ό g m s st H (λύ j=>∀ x u,j x=L6->j u=L6->u≠x->Co T ps.length h (ϕ x::(ύ++d)) (Nb (Nb j u$ .own x) x$ .jb (T.ca c) u []) (λv R=>v=.Lb/\Q (ϕ x) R) (XE X st)) I ⟨y,n,o,S,G,E.bind λt a1 a0 ύ j D e1 r1 p1 q1=>?_⟩) λus s1 ⟨ύ,j,L,r,q⟩=>⟨L.Ri,?_⟩) ϊ F) B
 ·have:=IV r1 (Za.append p1$ C _ _) q1
  grind
 ·exact WU z O hr P hv L r q
def sV(B:X.mg x=BD (xb$ T.ca c))(t:Mk T.K (T.ca c) f)(h:Rt T X.prog X.w X.mg X.base k f ps n o)(hd:a=[]\/a=n)(E:de d a)(l:∀ F H,Za T F H b d)(s:T.K=X.K)(C:yd (k+1) X.A)(z:Gl X x)
  (u:FA T X (e::g) q) (j:(x == ("__debug__" : Str))=Ŷ:=by decide) (y:ka (e::g) X.env=(Ŷ,Cb e X.env)::ka g X.env:=by rfl) (m:(Ub i$ ka g X.env).any (·.1)=Ŷ:=by rfl) :
  FE T X (ϟ (ϛ x p) (e::g) [] i)$ Yo c ps.length o$ mB b q:=by
 obtain⟨G,I,v,r⟩:=h;exact Ž B t (by rcases hd with rfl|rfl<;>assumption) r E l s C z u j y m
noncomputable def my{a:Type}(f:D->Option a):g'->Option (List a)
 |[]=>BD []
 |d::ds=>match f d,my f ds with
  |some k,BD ks=>BD (k::ks)
  |_,_=>L6
noncomputable def gX:D->Option (g')
 | Ϗ ds=>BD ds
 |_=>L6
def ww:(n:Nat)->D->Option (NK n)
 |0=>Vi
 |n+1=>λd=>match gX d with
  |some ds=>(my (ww n) ds).map Sum.inr
  |none=>(Vi d).map Sum.inl
theorem WQ{j:ad}{H:Hp}{n:Nat}{f:D->Option (NK n)}(i:∀ {d:D} {v:V} {k:NK n},Ka T j H d v->f d=BD k->NR H n k v):∀ {a:g'} {c:gV} {ks:List$ NK n},Za T j H a c->my f a=BD ks->Paired (NR H n) ks c
 |[],c,ks,h,e=>by rw[Za]at h;cases e;subst h;exact Ϥ
 |d::a,c,ks,h,e=>by
  obtain⟨v,r,rfl,l,m⟩:=h;unfold my at e;cases b:f d with
  |none=>rw[b]at e;cases e
  |some k=>
   cases g:my f a with
   |none=>rw[b,g]at e;cases e
   |some o=>rw[b,g]at e;cases e;exact ϡ (i l b)$ WQ i m g
theorem JU{h:ad}{H:Hp}:∀ (n:Nat) {d:D} {v:V} {k:NK n},Ka T h H d v->ww n d=BD k->NR H n k v
 |0,_,_,_,r,e=>tz r e
 |n+1,d,v,k,r,e=>by
  cases c:gX d with
  |some ds=>
   simp[ww,c]at e;obtain⟨ks,a,rfl⟩:=Wa.mp e;cases d<;>cases c;obtain⟨b,ws,rfl,g,f⟩:=r;exact⟨b,ws,rfl,g,WQ (λr e=>JU n r e) f a⟩
  |none=>
   simp only[ww,c]at e;obtain⟨i,a,rfl⟩:=Wa.mp e;exact tz r a
def Xp:g'->Option TK:=my$ ww 4
def fY(d:H b=BD (.Ha ws))(a:Za T f H c ws)(e:Xp c=BD k):NR H 5 (.inr k)$ ϕ b:=⟨b,ws,rfl,d,WQ (λr e=>JU 4 r e) a e⟩
noncomputable def iT:Ev->M D:=λb a=>Y (U a.length)$ a++[.Je []]
def V6:FE T X (.Dict [] [] b) iT:=by
 rintro a s f H Q I ⟨h,i,j,g,d,e⟩;exact j5 a s f H Q I λp c=>(e _ _ _ (iw c) (d.push c ⟨[],qf,rfl⟩)$ KC d)
open Classical in
def dn(ks:List TK)(k:TK):List TK:=if k∈ks then ks else ks++[k]
open Classical in
theorem zjk a(k:TK) v:(mm a k v).map (·.1)=if k∈a.map (·.1)then a.map (·.1)else a.map (·.1)++[k]:=by
 unfold mm;by_cases h:k∈a.map (·.1)
 ·have:(a.any λkv=>decide$ kv.1=k)=A3:=by
   obtain⟨p,b,e⟩:=La.mp h;exact Ld.mpr ⟨p,b,by simpa using e⟩
  rw[ia this,ia h,Qb];refine List.map_congr_left λp b=>?_;show (if p.1=k then (p.1,v)else p).1=p.1;split<;>rfl
 ·have:¬ (a.any λkv=>decide$ kv.1=k)=A3:=λz=>by
   obtain⟨p,b,e⟩:=Ld.mp z;exact h$ La.mpr ⟨p,b,by simpa using e⟩
  rw[qa this,qa h,vc];rfl
def pA(c:Ev)(x y:D):M Fl:=λa=>match x,y with
 | U n,Ϗ b=>(match Xp b,a[n]? with
  |some k,BD (.Je ks)=>if ks.length<Yf then Y (Ϙ c) (a.set n$ .Je$ dn ks k)else ϗ
  |_,_=>ϗ)
 |_,_=>ϗ
def qQ(a:Ev)(b:Ev->M D)(x:D):M Fl:=xs a (b a)$ pA a x
def oO(a:Ev)(c b:Ev->M D)(_:D):M Fl:=xs a (c a)$ qQ a b
def jI(f c b:Ev->M D):Ev->M Fl:=λa=>xs a (f a)$ oO a c b
def o6(hu:X.A.units+9<cLine)(ϊ:FE T X e f)(ho:FE T X o P)(hi:FE T X i fi)
  (W:∀ v,Mi (Ϣ o i c) X.env v=(do
   let r <-Od [v] (Cb o X.env);let E <-Od [v,r] (Cb i X.env)
   Kg c
   Od [v,r,E] (Kq r E v)
   dE [v,r,E] []):=by intro _;rfl)
  (hs:Ni [Ϣ o i c] e p.line X.env=pure Ŷ:=by rfl) (hw:Oi [Ϣ o i c] e X.env=pure L6:=by rfl)
  (V:(Gd [Ϣ o i c] X.env).map (·.2)=[Mi (Ϣ o i c) X.env]:=by rfl):FS T X (.Assign [Ϣ o i c] e p)$ jI f P fi:=by
 intro m s st H D I hq;refine qH ϊ (KO ho hi (YU hu) W) hs hw V m s st H D I ?_;obtain⟨μ,ρ,σ,h,hr,hp⟩:=hq;refine⟨μ,ρ,σ,h,hr,hp.xs h λd K G v H1 d j r1 q1 p1=>⟨G,ρ,K,h.mono j,r1,p1.xs (h.mono j) λx L ύ vo H2 d u r2 q2 p2=>⟨ύ,ρ,L,(h.mono j).mono u,r2,p2.xs ((h.mono j).mono u) λy N a0 vi H3 d O R q3 g=>?_⟩⟩⟩;have hx:=Ka.mono O _ _ q2;unfold pA at g;cases x with
 |ref n=>
  cases y with
  |Ha ys=>
   dsimp only at g;cases w:Xp ys with
   |none=>rw[w]at g;exact g.elim
   |some k=>
    rw[w]at g;cases q:N[n]? with
    |none=>rw[q]at g;exact g.elim
    |some ob=>
     rw[q]at g;cases ob with
     |Je ks=>
      dsimp only at g;by_cases B:ks.length<Yf
      ·rw[ia B]at g;obtain⟨a,rfl,hn,S,ϋ,Q⟩:=R.at hx q;obtain⟨b,ws,rfl,ό,C⟩:=q3;have F:=R.write (o:=.dT$ mm S k v) (ob:=.Je$ dn ks k) hn ⟨_,qf,by
        subst Q;rw[zjk];rfl⟩ (λkv z=>by rw[q]at z;cases z)
       have l:S.length=ks.length:=by rw[<-Q,Ra]
       exact⟨a,_,rfl,pz.t ϋ (fY ό C w) (by rw[l];exact Ga B ⋯),g _ (ϸ st) _ F.1 F.2$ ((h.mono j).mono u).mono O |>.mono F.1⟩
      ·rw[qa B]at g;exact g.elim
     |_=>exact g.elim
  |_=>exact g.elim
 |_=>exact g.elim
theorem BU(k:TK):∀ a:List$ TK × V,(il a k).isSome=A3 ↔ k∈a.map (·.1)
 |[]=>by rw[Y3];simp
 |p::a=>by
  by_cases e:p.1=k
  ·rw[EE e];simp[e]
  ·rw[nG e,BU k a,gb,Fa];exact⟨ϙ,λz=>z.elim (λy=>absurd y.symm e) id⟩
open Classical in
def NC(y x:D):M D:=λa=>match y,x with
 | Ϗ b,U n=>(match Xp b,a[n]? with
  |some k,BD (.Je ks)=>Y (ϒ$ decide$ k∈ks) a
  |_,_=>ϗ)
 |_,_=>ϗ
def pR:zk T bP NC:=by
 intro E s H m y x u v Q r q p h;unfold NC at h;cases y with
 |Ha l=>
  cases x with
  |ref n=>
   dsimp only at h;cases c:Xp l with
   |none=>rw[c]at h;exact h.elim
   |some k=>
    rw[c]at h;cases d:m[n]? with
    |none=>rw[d]at h;exact h.elim
    |some ob=>
     rw[d]at h;cases ob with
     |Je ks=>
      obtain⟨a,rfl,o,j,f,g⟩:=r.at p d;obtain⟨b,ws,rfl,i,e⟩:=q;refine⟨a,il j k,rfl,wj.t f$ fY i e c,Kb.here h r ?_⟩;congr 1;rw[Xd,BU,g];simp
     |_=>exact h.elim
  |_=>exact h.elim
 |_=>exact h.elim
def ya2(h:YI T f g c ύ):rz T f g c.nx ύ:=λl H j i ex r=>by
 have q:=h l H j i ex r;cases e:c.nx i j with
 |none=>trivial
 |some o=>
  rw[e]at q;cases o with
  |none=>exact q
  |some d=>exact⟨q.1,λx k y=>let ⟨a,b⟩:=q.2 x k y;by subst a;exact⟨ϭ _ _,r,b⟩⟩
noncomputable def SM(s:Lj):M NX:=ret s.nx
def bp(f:Ev->M Lj):Ev->M NX:=λa=>Lc (f a) SM
def J6(h:FI T X c a f):Zq T X c a$ bp f:=by
 rintro b s m H R I ⟨n,p,q,d,g,e⟩;exact h b s m H R I ⟨n,p,q,d,g,e.bind λl r o ύ t l u k j i=>Kb.here i k$ ya2 j⟩
def Ũ{K}
  (hN:X.N.Nodup) (hi:X.N[i]?=BD y) (hx:Loc X.env.scope y)
  (hc:X.gc=A3) (L:yk X x M' ix f) (V:Zq T X A l O)
  (b5:∀ cl C j h ex,FG T (Ro X (x::z0::M') f cl C j h ex) A tg)
  (a8:∀ cl C j h ex,gy T (Ro X (x::z0::M') f cl C j h ex) K fi)
  (S:∀ cl C j h ex,FE T (Ro X (x::z0::M') f cl C j h ex) F fe)
  (hs:∀ y,ie l X.env y=pure y:=by intro _;rfl)
  (b3:Hg (ϴ F [⟨A,l,K,0⟩] f a0) (BD$ ϛ y py) E.line X.env=pure A3:=by rfl)
  (hf:X.fn y=A3\/X.env.scope.names.lookup y=BD .local:=by first|exact .inl rfl|exact .inr rfl|assumption) :
  FS T X (.Assign [ϛ y py] (ϴ F [⟨A,l,K,0⟩] f a0) E)$ Ce i$ Tk O ix tg fi fe:=by
 rintro B s st H D I ⟨μ,ρ,σ,hE,hr,b1⟩;have hp:Kb T _ _ μ H (Tk O ix tg fi fe ρ σ) (λv Q=>D.nx _ Q):=b1.xs hE λd a3 a2 v Q d e1 r1 q1 p1=>Kb.here (g:=ϸ$ st.set i$ BD v) p1 r1$ (hE.mono e1).set i q1;rw[exec_Assign_Name_used _ _ _ _ b3];refine aa$ zt$ aa ?_;refine aa (dc (Ft rfl hs (xM X.env f$ GA I L) L.kind (λy hy e=>?_)
  ?_) (λd s' hq=>ga$ ga hq) λd d e=>e)
 ·have q:=qb.mp L.names y hy;rw[e]at q;exact eq_of_beq q
 have h1:=V B s st H (λύ t=>∃ nx k a4,pd μ H k t/\Xc T k t a4/\rz T k t nx ύ/\Kb T (XE X st) (Ka T) k t _ (λv Q=>D.nx (st.set i$ BD v) Q)) I
  ⟨μ,ρ,σ,hE,hr,hp.bind λnx a3 a2 ύ Q d e1 r1 q1 p1=>⟨nx,a2,a3,e1,r1,q1,p1⟩⟩
 refine ud h1 λv s1 h2=>ud h2 λb8 s2 h3=>?_;obtain⟨it,fp,tn,ύ,t,rfl,I2,TT,a1,f2,nx,k,a4,a5,r2,so,p2⟩:=h3;refine Gc$ Ik (aG L) (by intro y hy;simp at hy) (λW u w=>?_) L.kind;have P:=I2.iA (t':=s2.toks) Ϥ ⋯;have R:t s2.heap.objs.size=L6:=I2.lc.fresh$ pa _;have G:pd k t (k++[s2.heap.objs.size])$ Nb t s2.heap.objs.size$ ϯ []:=iw R;have b4:s2.heap.objs.size<(s2.heap.push { cls:=ki "list",data:=Ϩ [].toArray }).objs.size:=by rw[Tc];exact yb _
 have kp:∀ b o,(s2.heap.push { cls:=ki "list",data:=Ϩ [].toArray }).get? b=BD o->W.get? b=BD o:=λb o e=>w.extBut b o (va$ ua e)$ da _ e;have n:∀ b∈fp,xl X B (Nb t s2.heap.objs.size$ ϯ []) b/\b<(s2.heap.push { cls:=ki "list",data:=Ϩ [].toArray }).objs.size:=λb m=>by
  obtain⟨o,e,_⟩:=TT.obj 0 _ a1 b m;have lt:=ua e;exact⟨⟨by rw[Vd$ va lt];exact(f2 b m).1,(f2 b m).2⟩,Gr lt b4⟩
 refine nX hc L b5 a8 S P n u kp TT (TT.keep 0 _ _ a1 λb m o e=>kp b o$ da _ e)
  (λμ H σ i ex r=>so μ H σ i (G.trans ex) r) ((hE.mono a5).mono G) (r2.push (ob:=ϑ []) R ⟨[],qf,Za.nil⟩) (by rw[<-r2.len];simp) (p2.mono G) (λs6 H' m6 a9 a6 b6 b0 ϋ a7 hq=>?_)
 have ϊ:X.env.locals<(s2.heap.push { cls:=ki "list",data:=Ϩ ([]:b').toArray }).objs.size:=P.lt;have ό:∀ z c,X.env.cells.lookup z=BD c->c<(s2.heap.push { cls:=ki "list",data:=Ϩ ([]:b').toArray }).objs.size:=λz c e=>by
  obtain⟨v,q⟩:=P.cell z c e;exact q.lt
 refine ND$ vY (v:=ϕ s2.heap.objs.size) (L2.Ta.mv (s':=s6) (ch:=fp) P b0 b6 ϋ a7$ λb m=>⟨(n b m).1.2.2.2.1,(n b m).1.2.1,(n b m).1.2.2.2.2.1,(n b m).1.2.2.2.2.2⟩) hN hi hx rfl (λs7 I7 ſ=>?_) hf;obtain⟨a,sb,ha⟩:=ſ;have b7:a≠(s2.heap.push { cls:=ki "list",data:=Ϩ ([]:b').toArray }).objs.size:=by
  rcases ha with rfl|ha
  ·exact va ϊ
  ·exact va$ ό _ _ ha
 refine⟨m6,a9.sameBut sb$ Jd b7,λh8 b2=>⟨st.set i$ BD$ ϕ s2.heap.objs.size,H',?_,hq⟩⟩;exact I7.turned (t':=s7.toks) (it:=(s2.heap.push { cls:=ki "list",data:=Ϩ ([]:b').toArray }).objs.size) (λb o m e=>(b2.2 b m).trans e) a6 (Fd ϊ) (ϙ$ ub P.sz$ pa _) (λz c e=>va$ ό z c e) (λp hp=>va$ ua (P.pin p hp).1)
noncomputable def BV:Ev->M Bool:=λa a=>ϗ
def A8:FT T X e BV:=by
 rintro a s f H Q I ⟨g,h,i,b,d,c⟩;trivial
structure Gm(K:ϔ)(C:Addr):Prop where
 f:W.findIn K (xb C) "__eq__" = BD (BD (Ϟ "object.__eq__"))
 o:W.mroIn K C (ki "object")=BD A3
section
variable{prog:xa}{w:Ma}{K:ϔ}{A:Ia}{E:Value->Shared->Prop}{h:Heap}{g:Array Rh}{d:yp}{t:Nat}{os:Xv}{x y C D:Addr}{ox oy:Obj}
def KY{M}(X:K.In h)(f:W.findIn K (xb C) a=BD r)(e:h.get? x=BD ox)(b:ox.cls=xb C)(c:Q r ⟨h,g,d,t,os⟩):wpAny M A (specialOf (xb x) a) Q E ⟨h,g,d,t,os⟩:=by
 unfold specialOf;repeat (first|(with_reducible refine Cd e ?_;rw[b])|(with_reducible refine W.Looks.at (W.looks_findIn X f) ?_)|wp_step)
 exact c
def tW(X:K.In h)(c:Gm K C)(n:h.get? x=BD ox)(l:ox.cls=xb C)(r:h.get? y=BD oy)(i:x≠y)(q:Q .notImplemented ⟨h,g,d,t,os⟩) :
  wpAny (model prog w) A (call (Ϟ "object.__eq__") [xb x,xb y]) Q E ⟨h,g,d,t,os⟩:=by
 refine yj$ Gk xm.eq.plain tK ?_;have j:=iR (xb x)$ xb y;have f:=W.looks_mroIn (M:=model prog w) X c.o;have b:ox.cls≠ ki "tuple":=by rw[l];intro e;cases e
 simp only[VG,jR,uK];refine aa ?_;unfold SB;have s:∀ (k:Unit->Shared->Prop),k () _->wpAny (model prog w) A (match jg "object.__eq__" with|some sig=>Jf "object.__eq__" sig ⟨[xb x,xb y],[]⟩|none=>pure ()) k E ⟨h,g,d,t,os⟩:=λk m=>by
  cases a:jg "object.__eq__" with
  |none=>exact ga m
  |some sig=>
   simp only[Lr,a]at j;have p:Jf "object.__eq__" sig ⟨[xb x,xb y],[]⟩=pure ():=j;show wpAny _ A (Jf "object.__eq__" sig ⟨[xb x,xb y],[]⟩) k E _;rw[p];exact ga m
 repeat (first|(with_reducible refine Cd n ?_;rw[l])|(with_reducible refine W.Looks.at f ?_)|(with_reducible refine zj i n r b ?_)|wp_step)
 exact q
def RI(X:K.In h)(c:Gm K C)(e:h.get? x=BD ox)(b:ox.cls=xb C)(j:h.get? y=BD oy)(a:x≠y)(i:Q L6 ⟨h,g,d,t,os⟩) :
  wpAny (model prog w) A (TB (xb x) "__eq__"$ xb y) Q E ⟨h,g,d,t,os⟩:=by
 refine aa ?_;simp only[Tz,Uz];refine Xb$ aa$ aa$ KY X c.f e b ?_;simp only[xm.eq.bind];refine aa$ Fg$ wpAny_ite ?_;split
 ·exact aa$ ga$ ga$ aa$ tW X c e b j a$ ga$ ga i
 ·exact ze$ aa$ ga$ ga$ aa$ tW X c e b j a$ ga$ ga i
def ż(X:K.In h)(c:Gm K C)(o:Gm K D)(q:W.mroIn K D (xb C)=BD Ŷ)(f:h.get? x=BD ox)(k:ox.cls=xb C)(i:h.get? y=BD oy)(b:oy.cls=xb D)(j:C≠D)(r:A.units<cLine)(p:Q (.bool Ŷ) ⟨h,g,d,t,os⟩) :
  wpAny (model prog w) A (Eb .Eq (xb x)$ xb y) Q E ⟨h,g,d,t,os⟩:=by
 have a:x≠y:=λe=>by
  simp_all
 have m:ox.cls≠ ki "tuple":=by rw[k];intro e;cases e
 have n:=W.looks_mroIn (M:=model prog w) X q;have l:(xb C != xb D)=A3:=by simp[j]
 show wpAny _ A (Nk .Eq (xb x)$ xb y) Q E _;simp only[Nk,OB,Uv];repeat (first|with_reducible refine Jr r ?_|(with_reducible refine Cd f ?_;rw[k])|(with_reducible refine Cd i ?_;rw[b])|(rw[l,ia rfl];with_reducible refine aa$ W.Looks.at n ?_)|(with_reducible refine W.Looks.at n ?_)|(with_reducible refine RI X c f k i a ?_)|(with_reducible refine RI X o i b f (Jd a) ?_)|(with_reducible refine zj a f i m ?_)|wp_step)
 exact p
end
def kW(K:ϔ):R2:=λv u H Q=>∃ x y C D a b c d,v=ϕ x/\u=ϕ y/\H x=BD (.jb C a c)/\H y=BD (.jb D b d)/\Gm K C/\Gm K D/\W.mroIn K D (xb C)=BD Ŷ/\C≠D/\Q (ϫ Ŷ) H
def CJ(K:ϔ)(a:Nat->Addr)(l:List$ Nat × Nat):Prop:=∀ p∈l,Gm K (a p.1)/\Gm K (a p.2)/\W.mroIn K (a p.2) (xb$ a p.1)=BD Ŷ/\a p.1≠a p.2
def Č{K}:CJ K a []:=λb h=>nomatch h
def IK{K}(a:Gm K$ e c)(b:Gm K$ e d)(m:W.mroIn K (e d) (xb$ e c)=BD Ŷ)(n:e c≠e d)(r:CJ K e l):CJ K e$ (c,d)::l:=λp f=>by
 rcases Fa.mp f with rfl|f
 ·exact⟨a,b,m,n⟩
 ·exact r p f
def ü(F:X.A.units+9<cLine):Ch X (Eb .Eq)$ kW X.K:=by
 intro b s st H v u m p Q I o n h;obtain⟨x,y,C,D,r,z,B,E,rfl,rfl,f,i,c,e,j,a,q⟩:=h;obtain rfl:m=xb x:=o;obtain rfl:p=xb y:=n;obtain⟨_,_,_,k,_⟩:=(show Zj X.prog X.w H s.heap x _ from I.lc x _ f)
 obtain⟨_,_,_,l,_⟩:=(I.lc y _ i)
 obtain⟨h,g,d,t,G⟩:=s;exact ż I.Ri c e j k rfl l rfl a ⋯ ⟨ϫ Ŷ,H,I,rfl,q⟩
end L4
namespace L4
open W L2
noncomputable def ZE:D->Option (g')
 | .gt ss=>BD (ss.map ϐ)
 | Ϗ ds=>BD ds
 |_=>L6
def yL(x y:D):M D:=λa=>match ZE x,ZE y with
 |some xs,BD c=>(match um (Uj a 0) xs c with
  |some b=>Y (ϒ b) a
  |none=>ϗ)
 |_,_=>ϗ
def eV{xs}(f:T.K=X.K)(h:ZE x=BD xs)(c:Ka T d H x v):∃ p b,v=ϕ p/\Jg X.K H p b/\Za T d H xs b:=by
 cases x with
 |gt ss=>
  cases h;obtain⟨p,rfl,a⟩:=c;rw[f]at a;exact⟨p,_,rfl,ϙ a,HP ss⟩
 |Ha ds=>
  cases h;obtain⟨p,b,rfl,a,e⟩:=c;exact⟨p,b,rfl,Jg.of a,e⟩
 |_=>cases h
def Κ(f:T.K=X.K)(V:X.A.units+9<cLine):Ch X (Eb .Eq)$ rD T yL:=by
 intro c s st H v u g ϊ Q I N M h;obtain⟨E,μ,ϋ,x,y,r,B,C,a⟩:=h;unfold yL at a;cases ex:ZE x with
 |none=>rw[ex]at a;exact a.elim
 |some xs=>
  cases d:ZE y with
  |none=>rw[ex,d]at a;exact a.elim
  |some S=>
   rw[ex,d]at a;dsimp only at a;cases e:um (Uj ϋ 0) xs S with
   |none=>rw[e]at a;exact a.elim
   |some b=>
    rw[e]at a;obtain⟨p,vs,rfl,t,G⟩:=eV f ex B;obtain⟨q,ws,rfl,z,ύ⟩:=eV f d C;cases N;cases M;obtain⟨W,D,O,_⟩:=L2.Ta.tuple I t;obtain⟨ό,F,P,_⟩:=L2.Ta.tuple I z;obtain⟨n,o⟩:=wQ (λx y v w g R b i j k l m=>jH I r 0 X.A.in1 x y v w g R b (by show X.A.units+1+0+1<cLine;lia) i j k l m) G ύ D F e;have L:Qg X.A s (xb p) (xb q) b:=by rw[o];exact .tuples O P ⋯ n
    exact L X.prog X.w X.xe (EP X c st Q) ⟨ϫ b,H,I,rfl,Kb.here a r (by rw[Ka])⟩
end L4
namespace L4
open Spec L2
section
variable{prog:xa}{w:Ma}{K:ϔ}{A:Ia}{E:Value->Shared->Prop}{h:Heap}{g:Array Rh}{d:yp}{t:Nat}{os:Xv}{x y C:Addr}{ox oy:Obj}
def iX(X:K.In h)(c:Gm K C)(m:h.get? x=BD ox)(j:ox.cls=xb C)(l:Q (.bool A3) ⟨h,g,d,t,os⟩) :
  wpAny (model prog w) A (call (Ϟ "object.__eq__") [xb x,xb x]) Q E ⟨h,g,d,t,os⟩:=by
 refine yj$ Gk xm.eq.plain tK ?_;have e:=iR (xb x)$ xb x;have b:=W.looks_mroIn (M:=model prog w) X c.o;simp only[VG,jR,uK];refine aa ?_;unfold SB;have n:∀ (k:Unit->Shared->Prop),k () ⟨h,g,d,t,os⟩->wpAny (model prog w) A (match jg "object.__eq__" with|some sig=>Jf "object.__eq__" sig ⟨[xb x,xb x],[]⟩|none=>pure ()) k E ⟨h,g,d,t,os⟩:=λk f=>by
  cases a:jg "object.__eq__" with
  |none=>exact ga f
  |some sig=>
   simp only[Lr,a]at e;have i:Jf "object.__eq__" sig ⟨[xb x,xb x],[]⟩=pure ():=e;show wpAny _ A (Jf "object.__eq__" sig ⟨[xb x,xb x],[]⟩) k E _;rw[i];exact ga f
 repeat (first|(with_reducible refine Cd m ?_;rw[j])|(with_reducible refine W.Looks.at b ?_)|(with_reducible refine wpAny_isSame_ref_self ?_)|wp_step)
 exact l
def Ĺ(X:K.In h)(c:Gm K C)(b:h.get? x=BD ox)(a:ox.cls=xb C)(e:Q (BD$ .bool A3) ⟨h,g,d,t,os⟩) :
  wpAny (model prog w) A (TB (xb x) "__eq__"$ xb x) Q E ⟨h,g,d,t,os⟩:=by
 simp only[TB];refine aa ?_;simp only[Tz,Uz];refine Xb$ aa$ aa$ KY X c.f b a ?_;simp only[xm.eq.bind];refine aa$ Fg$ wpAny_ite ?_;split
 ·exact aa$ ga$ ga$ aa$ iX X c b a$ ga$ ga e
 ·exact ze$ aa$ ga$ ga$ aa$ iX X c b a$ ga$ ga e
end
open Classical in
def yd4{K}{a:Nat->Addr}:∀ c∈([]:dN),Gm K (a c):=λb h=>nomatch h
def TL{K}{b:Nat->Addr}(a:Gm K$ b c)(r:∀ x∈l,Gm K (b x)):∀ x∈c::l,Gm K (b x):=λx d=>by
 rcases Fa.mp d with rfl|d
 ·exact a
 ·exact r x d
def Fx(c:Ev->M Bool)(g:Ev->M Fl):Nat->Ev->M Fl
 |0,_=>pb
 |n+1,a=>xs a (c a) λb=>if b=A3 then Lc (g a) (Kt$ Fx c g n)else ret (Ϙ a)
def UU(c:Ev->M Bool)(g:Ev->M Fl):Ev->M Fl:=Fx c g 100
section
variable{c:Ja}{body:List Stmt}{tc:Ev->M Bool}{g:Ev->M Fl}{pos:Td}
def Ħ(q:ij (model X.prog X.w) X.A X.env X.xe)(L:FT T X c tc)(K:rl T X body g):FS T X (.While c body [] pos)$ UU tc g:=by
 intro i s st H D I M;refine Å q L K i s st H D I ?_;obtain⟨b,e,f,ύ,N,q⟩:=M;refine⟨λn d l=>∃ b e f,sh T b l e d/\Xc T b l f/\Kb T EN _ b l (Fx tc g n e f) _,⟨100,b,e,f,ύ,N,q⟩,?_⟩;rintro m d l ⟨t,k,σ2,a,R,E⟩;cases m with
 |zero=>exact E.elim
 |succ m=>
  refine⟨t,k,σ2,a,R,E.xs a λc y r v ϋ J B F P C=>?_⟩;cases P;cases c with
  |true=>
   exact⟨λj o=>∃ b e f,sh T b o e j/\Xc T b o f/\Kb T EN _ b o _ _,λj o h=>⟨m,yb _,h⟩,r,k,y,a.mono B,F,C.bind λό z u ϊ V J W G Q p4=>ZI G Q p4 λx S p O=>⟨u,x,z,p,G,O⟩⟩
  |false=>
   exact Kb.here (g:=ϸ d) C F$ a.mono B
end
section
variable{prog:xa}{w:Ma}{K:ϔ}{A:Ia}{E:Value->Shared->Prop}{h:Heap}{g:Array Rh}{d:yp}{t:Nat}{os:Xv}{x y C:Addr}{ox oy:Obj}
def Į(X:K.In h)(c:Gm K C)(f:h.get? x=BD ox)(i:ox.cls=xb C)(l:h.get? y=BD oy)(j:oy.cls=xb C)(o:A.units<cLine)(p:x=y->Q (.bool A3) ⟨h,g,d,t,os⟩)(b:x≠y->Q (.bool Ŷ) ⟨h,g,d,t,os⟩) :
  wpAny (model prog w) A (Eb .Eq (xb x)$ xb y) Q E ⟨h,g,d,t,os⟩:=by
 have m:ox.cls≠ ki "tuple":=by rw[i];intro e;cases e
 have k:(xb C != xb C)=Ŷ:=by simp
 show wpAny _ A (Nk .Eq _ _) Q E _;by_cases a:x=y
 ·have n:=p a;subst a;simp only[Nk,OB,Uv];repeat (first|with_reducible refine Jr o ?_|(with_reducible refine Cd f ?_;rw[i])|(rw[k,qa Ya])|(with_reducible refine Ĺ X c f i ?_)|wp_step)
  exact n
 ·have b:=b a;simp only[Nk,OB,Uv];repeat (first|with_reducible refine Jr o ?_|(with_reducible refine Cd f ?_;rw[i])|(with_reducible refine Cd l ?_;rw[j])|(rw[k,qa Ya])|(with_reducible refine RI X c f i l a ?_)|(with_reducible refine RI X c l j f (Jd a) ?_)|(with_reducible refine zj a f l m ?_)|wp_step)
  exact b
end
def EI(K:ϔ)(a:Nat->Addr)(b c:Value)(l:List$ Nat × Bool):Prop:=∀ p∈l,W.exmAny K (xb$ a p.1) [b,c]=BD p.2
def ņ{K}:EI K a b c []:=λd h=>nomatch h
def EV{K}(h:W.exmOne K (xb$ a c) d=BD b)(i:W.exmOne K (xb$ a c) e=BD g)(r:EI K a d e l):EI K a d e$ (c,b || g)::l:=λp f=>by
 rcases Fa.mp f with rfl|f
 ·simp[W.exmAny,h,i]
 ·exact r p f
def ζ{K}(h:EI K a d f l):∀ c b,sy l c=BD b->W.exmAny K (xb$ a c) [d,f]=BD b:=λc b e=>h (c,b)$ xQ e
def E9(K:ϔ):R2:=λv u H Q=>kW K v u H Q\/∃ x y C a b c d,v=ϕ x/\u=ϕ y/\H x=BD (.jb C a c)/\H y=BD (.jb C b d)/\Gm K C/\(x=y->Q (ϫ A3) H)/\(x≠y->Q (ϫ Ŷ) H)
noncomputable def ñ:Ji Fl->Ji Fl
 | Y (.rt v) σ=>Y (.rt v) σ
 |_=>ϗ
def UW(A R:M Fl):D->D->M Fl
 | U i,U j=>λa=>if i=j then ñ (A a)else R a
 |_,_=>λb=>ϗ
def IP(l:List$ Nat × Nat)(b:dN)(A R:M Fl)(x y:D):M Fl:=λa=>match gk a x,gk a y with
 |some (c,_),BD (d,_)=>if (c,d)∈l then R a else if c=d/\c∈b then UW A R x y a else ϗ
 |_,_=>ϗ
def xE(l:List$ Nat × Nat)(b:dN)(c fr:Ev->M D)(d e:Ev->M Fl):Ev->M Fl:=λa=>xs a (c a) λx=>xs a (fr a)$ IP l b (d a) (e a) x
def ģ(m:X.A.units+9<cLine):Ch X (Eb .Eq)$ E9 X.K:=by
 intro a s st H v u b j Q I i f h;rcases h with h|h
 ·exact ü m a s st H v u b j Q I i f h
 ·obtain⟨x,y,C,r,w,z,B,rfl,rfl,k,l,c,q,p⟩:=h;obtain rfl:b=xb x:=i;obtain rfl:j=xb y:=f;obtain⟨_,_,_,n,_⟩:=(I.lc x _ k)
  obtain⟨_,_,_,o,_⟩:=(I.lc y _ l)
  obtain⟨h,g,d,t,D⟩:=s;exact Į I.Ri c n rfl o rfl ⋯ (λe=>⟨ϫ A3,H,I,rfl,q e⟩) (λe=>⟨ϫ Ŷ,H,I,rfl,p e⟩)
def w6{p V}{A rest}(hu:X.A.units+9<cLine)(ht:CJ X.K T.ca l)(hs:∀ c∈N,Gm X.K (T.ca c))(hm:Ud .Eq b=Ŷ)(hl:FE T X a fl)(hr:FE T X b fr)(ha:rl T X A O)(m:rl T X rest gr) :
  rl T X (.If (.Compare a [.Eq] [b] p) A [] V::rest)$ xE l N fl fr O gr:=by
 intro w s st H D I hw;refine xR (uX (WN (ģ hu) hl hr hm) ha xZ) m w s st H D I ?_;obtain⟨μ,ρ,σ,r,S,hp⟩:=hw;refine⟨μ,ρ,σ,r,S,Kb.xs r hp λx a4 a3 v H1 J ύ r1 p1 q1=>⟨a3,ρ,a4,r.mono ύ,r1,Kb.xs (r.mono ύ) q1 λy f n u H2 J e2 o p2 e=>?_⟩⟩;have t:=Ka.mono e2 _ _ p1;have h:=(r.mono ύ).mono e2;unfold IP at e;cases C:gk f x with
 |none=>rw[C]at e;exact e.elim
 |some cf=>
  cases L:gk f y with
  |none=>rw[C,L]at e;exact e.elim
  |some cg=>
   apply b_;intro z_;obtain⟨c,fs⟩:=cf;obtain⟨d,gs⟩:=cg;rw[C,L]at e;dsimp only at e;obtain⟨B,F,W,rfl,P,_⟩:=Kz o t C;obtain⟨q,G,ws,rfl,Q,_⟩:=Kz o p2 L;apply z_;by_cases g:(c,d)∈l
   ·apply b_;intro z_;rw[ia g]at e;obtain⟨ό,ϊ,z3,z4⟩:=ht _ g;apply z_;exact ϖ ⟨B,q,_,_,F,G,W,ws,rfl,rfl,P,Q,ό,ϊ,z3,z4,Ŷ,rfl,n,ρ,f,h,o,e⟩
   ·rw[qa g]at e;by_cases R:c=d/\c∈N
    ·rw[ia R]at e;obtain⟨rfl,hc⟩:=R;cases x with
     |ref i=>
      cases y with
      |ref j=>
       apply b_;intro z_;obtain⟨a1,ό,m1⟩:=t;obtain⟨a2,ϊ,ϋ⟩:=p2;cases ό;cases ϊ;unfold UW at e;dsimp only at e;apply z_;by_cases k:i=j
       ·subst k;rw[m1]at ϋ;cases ϋ;rw[ia rfl]at e;refine ϙ ⟨B,B,_,F,G,W,ws,rfl,rfl,P,Q,hs c hc,λJ=>⟨A3,rfl,n,ρ,f,h,o,?_⟩,λz=>absurd rfl z⟩;cases eA:O ρ f with
        |ok E a5=>
         cases E with
         |rt v=>
          rw[eA]at e;intro a0 E H' e' r' q';have:=e a0 E H' e' r' q';cases E with
          |rt v=>exact this
          |_=>exact q'.elim
         |_=>rw[eA]at e;exact e.elim
        |_=>rw[eA]at e;exact e.elim
       ·rw[qa k]at e;refine ϙ ⟨B,q,_,F,G,W,ws,rfl,rfl,P,Q,hs c hc,λz=>?_,λJ=>⟨Ŷ,rfl,n,ρ,f,h,o,e⟩⟩;subst z;obtain⟨i1,i2⟩:=ba.mp m1;obtain⟨j1,j2⟩:=ba.mp ϋ;exact absurd ((Nw o.nd).mp$ i2.trans j2.symm) k
      |_=>exact e.elim
     |_=>exact e.elim
    ·rw[qa R]at e;exact e.elim
noncomputable def eB(xs:g'):M D:=match xs with
 |[Z i,Z j,Z k]=>ret (Z$ min (min i j) k)
 |_=>pb
@[simp] theorem Yw i j k:eB [Z i,Z j,Z k] a=Y (Z$ min (min i j) k) a:=nr rfl
theorem fU(b:X.gc=A3):jm X (Ϟ "min") (λxs H Q=>∃ i j k,xs=[ϣ i,ϣ j,ϣ k]/\Q (ϣ$ min (min i j) k) H):=by
 intro a s o H xs m Q I r h;obtain⟨i,j,k,rfl,q⟩:=h;cases r with
 |cons d e=>
  obtain⟨u,n,rfl,f,g⟩:=aH e;obtain⟨t,rfl⟩:=d;obtain⟨t',rfl⟩:=f;obtain⟨l,rfl⟩:=g;refine min_three_ints (I.ok.hd b) λh' tk c=>⟨ϣ$ min (min i j) k,H,I.kept c,?_,q⟩
  repeat' split
  all_goals exact⟨_,Ab (λz=>Qh z _) ⋯⟩
set_option tactic.hygienic true in
def PV:br T (λxs H Q=>∃ i j k,xs=[ϣ i,ϣ j,ϣ k]/\Q (ϣ$ min (min i j) k) H) eB:=by
 intro E e H f xs d Q r p h;unfold eB at h;split at h
 ·rename_i i j k
  apply b_;intro z_;obtain⟨v,w,rfl,a,b⟩:=p;obtain⟨u,x,rfl,c,p4⟩:=zU b;apply z_;exact⟨i,j,k,by rw[bn a,bn c,bn p4],Kb.here h r (by rw[Ka])⟩
 ·exact h.elim
end L4
set_option maxHeartbeats 0
namespace K93
open Spec L2 L4
noncomputable def bj(i:Nat):Stmt:=PySem.Challenge.pw_sidebook_k93_who_lays_what_was_struck.main.body.getD i$ .Pass ⟨0,0,0,0⟩
def TH(K:ϔ):Tab:=⟨wx K "least_fate",443,35, "least_fate.<locals>.<lambda>"⟩
def SJ(K:ϔ):Tab:=⟨wx K "paper",458,27, "paper.<locals>.<lambda>"⟩
def tx(K:ϔ):Tx:=⟨[TH K,SJ K],nz K⟩
def VR K:TH K∈(tx K).Ao:=(.head _)
def WZ K:SJ K∈(tx K).Ao:=(.tail _$ .head _)
def f9 K:∀ t∈(tx K).Ao,∃ x∈[("least_fate" : Str),("paper" : Str)],t.P=wx K x:=by
 intro t a;have h:t∈[TH K,SJ K]:=a;simp only[Fa,Ve,qp]at h;rcases h with rfl|rfl
 ·exact⟨"least_fate",by simp,rfl⟩
 ·exact⟨"paper",by simp,rfl⟩
inductive Al{α:Type}(P:α->Prop):List α->Prop
 |n:Al P []
 |c {x:α} {l:List α} (h:P x) (t:Al P l):Al P (x::l)
def Al.get{P}{l:List a}(h:Al P l):∀ x∈l,P x:=by
 induction h with
 |n=>simp
 |c h _ i=>simp_all
inductive AD(E:ac):List Arg->ac->ac->Prop
 |nil:AD E [] [] E
 |cons {x:Str} {a:Option Ja} {p:Td} {as:List Arg} {ps N:ac} (t:AD E as ps N):AD E (⟨x,a,p⟩::as) (x::ps) (x::N)
def AD.map(h:AD E a ps N):a.map (·.arg)=ps:=by
 induction h<;>simp_all
noncomputable def fX:Stmt->Str
 | .FunctionDef x _ _ _ _ _ _ _ _ _=>x
 |_=>""
inductive Jz(E:ac):Stmt->Str->ac->ac->Prop
 |mk {x as ps N a b c d e f g h i j k l m n} (t:AD E as ps N):Jz E (.FunctionDef x ⟨a,as,b,c,d,e,f⟩ g h i j k l m n) x ps N
def HF(K:ϔ)(b:Str->Option Value)(a:Stmt):Prop:=Mr K b (fX a) a ((Tl a).args.map (·.arg))
def HM(K:ϔ)(f:Addr)(a:Stmt):Prop:=∃ q,Du K 0 (fX a) q a ((Tl a).args.map (·.arg)) f
def Ë{K mg x st st' ps}(a:st=st')(d:(fX st',(Tl st').args.map (·.arg))=(x,ps))(h:Mr K mg x st ps):HF K mg st:=by
 subst a;cases d;exact h
def hmm{K f x q st st' ps}(a:st=st')(d:(fX st',(Tl st').args.map (·.arg))=(x,ps))(h:Du K 0 x q st ps f):HM K f st:=by
 subst a;cases d;exact⟨q,h⟩
def Jz.fn{K mg x E st ps N}(d:Jz E st x ps N)(h:HF K mg st):Mr K mg x st ps:=by
 cases d with|mk t=>cases t.map;exact h
def Jz.me{K f x E st ps N}(d:Jz E st x ps N)(h:HM K f st):∃ q,Du K 0 x q st ps f:=by
 cases d with|mk t=>cases t.map;exact h
def QF{b c:Type}:List c->(List b->Prop)->Prop
 |[],P=>P []
 |_::l,P=>∀ a,QF l λt=>P$ a::t
@[elab_as_elim] theorem QF.ap{b c:Type}:∀ (l:List c) {P:List b->Prop} (u:List b) (_:u.length=l.length) (_:QF l P),P u
 |[],_,[],_,z=>z
 |_::l,_,a::u,h,z=>QF.ap l u (Nat.succ.inj h) (z a)
abbrev JI(x q:Str)(st:Stmt)(ps:ac)(c:b'):Prop:=∀ (t:Addr) (kV b d:Value) (an:Option Addr) (a ct:Value) (s:Shared) (o:Obj) (n:Nat) (us:b'),s.heap.get? t=BD o->o.data=Ϩ c.toArray n->((us++[]).length=ps.length->Me s (Ϯ x q (Tl st) (ck st) (sf st) (xb t) kV b d an a ct) ⟨us,[]⟩ (ps.zip$ us++[]))/\((us++c).length=ps.length->Me s (Ϯ x q (Tl st) (ck st) (sf st) (xb t) kV b d an a ct) ⟨us,[]⟩ (ps.zip$ us++c))
noncomputable abbrev rW:dN:=[113,8,9,11,57,58,59,100,13,12,15,10,27,29,28,14,30,32,110,35,36,17,37,105,106,33,34,16,46,47,65,64,66,67,70,40,81,82,83,84,85,87,88,89,90,92,93,86,95,101,68,114,103,61,102,60]
noncomputable abbrev jQ:List$ Nat × List (Nat × Nat):=[(50,[(0,17)]),(62,[(0,30),(14,44),(2,32),(1,31),(8,38),(9,39),(13,43),(7,37),(4,34),(3,33),(5,35),(10,40),(11,41)]),(108,[(2,57),(1,56),(6,61),(12,67),(3,58),(7,62),(8,63),(9,64),(11,66),(14,69),(13,68),(16,71),(17,72),(18,73),(15,70),(4,59),(20,75),(21,76),(22,77),(23,78),(19,74)]),(71,[(0,45),(1,46),(2,47)]),(111,[(2,81),(10,89),(9,88),(12,91),(5,84),(16,95),(6,85),(8,87),(11,90),(17,96),(22,101),(1,80),(7,86),(19,98),(18,97),(4,83)]),(72,[(0,48),(1,49)]),(73,[(0,50),(1,51)]),(74,[(0,52),(1,53)]),(79,[(0,54)]),(51,[(0,18),(2,20),(1,19)]),(52,[(1,22),(2,23),(4,25),(0,21),(3,24)]),(53,[(1,27),(3,29),(0,26),(2,28)])]
noncomputable abbrev RN:dN:=[5,6,7,8,9,10,11,12,13,14,15,16]
noncomputable abbrev jG:List$ Str × dN:=[("pots",[9,14,16]),("day",[7,9]),("whole",[5,6,7,8]),("claims",[9,15]),("shown",[9]),("public",[16]),("every",[14,15,16]),("keepers",[16]),("under_way",[16]),("things",[16]),("hand",[15]),("last_look",[14,15]),("gave",[15]),("known",[14,15]),("accounts",[15]),("seen",[15]),("asked",[15]),("finishing",[15]),("pot",[10,11,12,13]),("side",[7,8,10,11,12,13]),("mine",[10,11,12,13]),("grant",[10,11,12,13]),("may",[10,11,12,13]),("strikes",[10,11,12,13]),("stand",[7]),("wait",[7])]
noncomputable abbrev qS:List$ Nat × List (Str × Nat):=[(9,[("made_of",44),("today",32),("check_pot",31),("told",38),("shown_for",39),("all_shown",43),("strike",37),("show",34),("next_day",33),("may_lie",35),("lay",36),("due_of",40),("coin_of",41)]),(15,[("learn",57),("hold",56),("account",61),("holds",67),("words",58),("view_by",62),("view",63),("worth",64),("is_good",66),("wish_for",69),("wish",68),("take_ask",71),("is_as_asked",72),("take_step",73),("take",70),("looked",59),("strike_all",75),("is_to_show",76),("show_all",77),("lay_all",78),("look",74)]),(16,[("keeper",81),("tell_band",89),("send",88),("wish",91),("has_pot",84),("keeping_hands",95),("is_side_of_band",85),("band_can",87),("hand_over",90),("band",96),("next_day",101),("book",80),("check_side_of_band",86),("lay",98),("show",97),("coin",83)]),(13,[("word",52),("agree_of",46),("strike_of",47),("taken",53)]),(12,[("word",50),("agree_of",46),("strike_of",47),("taken",51)]),(11,[("word",48),("agree_of",46),("strike_of",47),("taken",49)]),(10,[("agree_of",46),("strike_of",47)]),(8,[("told",27),("may_strike",29),("comes",28)]),(7,[("told",22),("waits",23),("may_strike",25),("comes",24)]),(6,[("told",18),("may_strike",20),("comes",19)])]
noncomputable abbrev uZ:List$ Str × Int:=[("MOST_AMOUNT",1000000000000),("MOST_COIN",1000000000000),("MOST_DAY",1000000),("MOST_EVERY",50),("MOST_HAND",3),("MOST_NUMBER",1000000),("MOST_POT",2),("MOST_SHARE",2000000000000),("MOST_TIES",6),("MOST_WAIT",100),("MOST_WORD",59)]
structure Xf(K:ϔ)(mg:Str->Option Value)(ca:Nat->Addr):Prop where
 Jh:BP K mg "stand" (bj 31) ["number","shares","ties"] [Yb]
 Pd:Mr K mg "first_account" (bj 75) ["pot","side","left","right"]
 Cp:Gp K (ca 15) "__init__" "Keeper.__init__" (Bv (bj 108) 0) ["self","hand","every","pots","words"] [Yb] (ca 55)
 ko:Gp K (ca 16) "__init__" "Hall.__init__" (Bv (bj 111) 0) ["self","pots","keeps","every","words"] [Yb] (ca 79)
 Pe:Mr K mg "offered" (bj 76) ["account","shares","ties"]
 Mf:Mr K mg "step_to" (bj 107) ["account","one"]
 Re:eJ K mg "least_fate" (bj 91) ["lots","every"]
 Pj:eJ K mg "paper" (bj 94) ["view"]
 Rc:Mr K mg "_law_come" (bj 115) ["_law_hall","_law_side","_law_new_here","_law_number"]
 Wd:Mr K mg "_law_gift" (bj 116) ["_law_hall","_law_side","_law_one","_law_cell"]
 ce:Mr K mg "_law_forward" (bj 117) ["_law_hall","_law_side","_law_cells"]
 Kf:Gp K (ca 9) "lay" "Book.lay" (Bv (bj 62) 6) ["self","pot","side","stand","agreement"] [Yb] (ca 36)
 Wl:Mr K mg "law" (bj 118) ["_law_script"]
 Ei:mg "worth_worth" = mg "worth"
 tf:Al (λi=>HF K mg (bj i)) rW
 tm:Al (λp=>Al (λq=>HM K (ca q.2) (Bv (bj p.1) q.1)) p.2) jQ
 tc:Al (λc=>L2.pr K (ca c)) RN
 ta:Al (λp=>Al (λc=>L2.ly K (ca c) p.1) p.2) jG
 te:Al (λp=>Al (λq=>L2.Cu K (ca p.1) q.1 (ca q.2)) p.2) qS
 ti:Al (λp=>∃ t,mg p.1=BD (Qh p.2 t)) uZ
 VE:mg "all" = L6
 sB:mg "bool" = L6
 Hu:mg "dict" = L6
 Mp:mg "enumerate" = L6
 fG:mg "int" = L6
 wf:mg "isinstance" = L6
 lz:mg "len" = L6
 Zu:mg "list" = L6
 Gy:mg "max" = L6
 Tr:mg "min" = L6
 Rr:mg "range" = L6
 Az:mg "set" = L6
 Fp:mg "sorted" = L6
 oG:mg "str" = L6
 Wy:mg "sum" = L6
 Zr:mg "tuple" = L6
 kF:mg "zip" = L6
 qA:wF K mg "FIRM" ["won","sure","back"]
 wv:wF K mg "HELD" ["held"]
 Ws:mg "NoStand" = BD (xb (ca 1))
 lD:W.excIn K (ca 1) hV "ValueError.__new__" = A3
 Np:mg "NoDeed" = BD (xb (ca 2))
 Nu:W.excIn K (ca 2) hV "ValueError.__new__" = A3
 yl:W.exmOne K (xb (ca 2)) (xb (ca 2))=BD A3
 Ck:W.exmOne K (xb (ca 2)) (xb (ca 1))=BD Ŷ
 rk:W.exmOne K (xb (ca 1)) (xb (ca 2))=BD Ŷ
 Hj:W.exmOne K (xb (ca 1)) (xb (ca 1))=BD A3
 Ju:mg "Held" = BD (xb (ca 6))
 ky:L2.Mk K (ca 6) (ca 17)
 uA:mg "Book" = BD (xb (ca 9))
 Bx:L2.Mk K (ca 9) (ca 30)
 cB:mg "Calm" = BD (xb (ca 11))
 Vx:L2.Mk K (ca 11) (ca 45)
 Hv:mg "Keeper" = BD (xb (ca 15))
 qt:L2.Mk K (ca 15) (ca 55)
 CB:mg "Hall" = BD (xb (ca 16))
 qx:L2.Mk K (ca 16) (ca 79)
 kt:mg "Offered" = BD (xb (ca 12))
 Xq:L2.Mk K (ca 12) (ca 45)
 ut:mg "Waiting" = BD (xb (ca 13))
 qr:L2.Mk K (ca 13) (ca 45)
 rA:mg "View" = BD (xb (ca 14))
 Ww:L2.Mk K (ca 14) (ca 54)
 Oj:L4.Gm K (ca 11)
 Zk:L4.Gm K (ca 12)
 Hl:W.mroIn K (ca 12) (xb (ca 11))=BD Ŷ
 nl:(ca 11)≠(ca 12)
 yi:L4.Gm K (ca 13)
 zl:W.mroIn K (ca 13) (xb (ca 11))=BD Ŷ
 Bl:(ca 11)≠(ca 13)
 Ll:W.mroIn K (ca 11) (xb (ca 13))=BD Ŷ
 Kl:(ca 13)≠(ca 11)
 Xr:mg "Claim" = BD (xb (ca 5))
 Yg:W.specialIn K (xb (ca 5)) (Pi "__getattribute__")=BD (BD (Ϟ "type.__getattribute__"))
 Rg:W.readsIn K (ca 5) (ki "type")=A3
 Xg:W.findCls K (xb (ca 5)) (ki "type") "__init__" = BD (.val (xb (ca 17)))
 Tg:Ϻ K (xb (ca 17))=A3
 jy:mg "Taken" = BD (xb (ca 8))
 Yu:L2.Mk K (ca 8) (ca 26)
 ny:L4.InK K (ca 16)
 Go:Ϫ K (xb (ca 16)) (xb (ca 6))=BD Ŷ
 ft:L4.InK K (ca 15)
 Zl:Ϫ K (xb (ca 15)) (xb (ca 6))=BD Ŷ
 Ix:L4.InK K (ca 14)
 Eo:Ϫ K (xb (ca 14)) (xb (ca 6))=BD Ŷ
 Sq:L4.InK K (ca 13)
 ul:Ϫ K (xb (ca 13)) (xb (ca 6))=BD Ŷ
 Ar:L4.InK K (ca 12)
 ql:Ϫ K (xb (ca 12)) (xb (ca 6))=BD Ŷ
 Jx:L4.InK K (ca 11)
 mo:Ϫ K (xb (ca 11)) (xb (ca 6))=BD Ŷ
 ux:L4.InK K (ca 9)
 Do:Ϫ K (xb (ca 9)) (xb (ca 6))=BD Ŷ
 nv:L4.InK K (ca 8)
 Wm:Ϫ K (xb (ca 8)) (xb (ca 6))=BD Ŷ
 Sx:L4.InK K (ca 7)
 zo:Ϫ K (xb (ca 7)) (xb (ca 6))=BD Ŷ
 cx:L4.InK K (ca 6)
 qo:Ϫ K (xb (ca 6)) (xb (ca 6))=BD A3
 YA:mg "Laid" = BD (xb (ca 7))
 lx:L2.Mk K (ca 7) (ca 21)
 tb:Ax K ["least_fate","paper"]
 KW:mg "__builtins__" = BD (xb (nz K))
 eF:∀ t∈(tx K).Ao,∀ t'∈(tx K).Ao,t'.P=t.P->t'=t
seal L2.PE L2.PS L2.Bu L2.PT L2.PW L2.PA L2.PI L2.PG
def CL{sc}(a:sc.kind=ϥ:=by rfl)(b:sc.isCoroutine=Ŷ:=by rfl)(c:sc.isGenerator=Ŷ:=by rfl)(h:N.Nodup/\N.take Q.length=Q/\(∀ x∈Q,sc.names.lookup x=BD .local\/sc.names.lookup x=BD Bc)/\∀ y∈sc.names,y.2≠ db:=by decide +kernel):rc N Q sc:=⟨a,b,c,h.1,h.2.1,h.2.2.1,h.2.2.2⟩
def fO{K}(a:Xf K f b)(h:(x,d)∈jG:=by repeat (first|with_reducible exact ya|refine ra _ ?_)):LH ⟨K,b,tx K⟩ d x:=λc e=>⟨a.tc.get _$ (by decide +kernel:∀ p∈jG,∀ c∈p.2,c∈RN) _ h _ (by simpa using e),(a.ta.get _ h).get _ (by simpa using e)⟩
class ZqF (k m:outParam Nat) (x:Str) (ps:outParam (ac)) where
 f:g'->M D
 ok:∀ {P:xa} {w:Ma} {K:ϔ} {mg:Str->Option Value} {base:Heap} {ca:Nat->Addr},Xf K mg ca->Ci ⟨K,ca,tx K⟩ P w mg base k x ps f
 len:ps.length=m
structure dF(k m n:Nat)(ps:ac) where
 f:g'->M D
 ok:∀ {P:xa} {w:Ma} {K:ϔ} {mg:Str->Option Value} {base:Heap} {ca:Nat->Addr},Xf K mg ca->mr ⟨K,ca,tx K⟩ P w mg base k (ca n) ps f
 len:ps.length=m
class Qe (k m:outParam Nat) (x:Str) (ps:outParam (ac)) (tb:outParam Mt):Prop where
 ok:∀ {P:xa} {w:Ma} {K:ϔ} {mg:Str->Option Value} {base:Heap} {ca:Nat->Addr},Xf K mg ca->DH ⟨K,ca,tx K⟩ P w mg base k x ps tb
 len:ps.length=m
instance {k m:Nat} {x:Str} {a:ac}:CoeFun (ZqF k m x a) λb=>g'->M D:=⟨λq=>q.f⟩
instance {k m:Nat} {x:Str} {a:ac}:CoeOut (ZqF k m x a)$ g'->M D:=⟨λq=>q.f⟩
instance {k m n:Nat} {a:ac}:CoeFun (dF k m n a) λb=>g'->M D:=⟨λq=>q.f⟩
instance {k m n:Nat} {a:ac}:CoeOut (dF k m n a)$ g'->M D:=⟨λq=>q.f⟩
abbrev Hb(x:Str)(k:Nat)(N:ac)(st:Stmt)(g:Ev->M Fl):Prop:=∀ {P:xa} {w:Ma} {K:ϔ} {b:Str->Option Value} {base:Heap} {ca:Nat->Addr} {f:Addr} {a:Value} {A:Ia} {outer:List qg} {s:Shared} {H:Hp} {E:XK},Xf K b ca->yd k (A.deeper$ eg x (sf st) s.heap.objs.size f a)->N.Nodup->rl ⟨K,ca,tx K⟩ (Up (wl P w) P w K b base N x (sf st) f a A outer s H E) (ck st) g
def Fc(n m k i:Nat)(E:ac){x:Str}{st:Stmt}{ps N:ac}{g:Ev->M Fl}(j:bj i=st:=by conv=>lhs;whnf)(f:Jz E st x ps N:=by repeat constructor)(hb:Hb x k N st g:=by walk_at "-")(S:rc N ps$ sf st:=by exact CL)(e:N.length=n:=by rfl)(d:ps.length=m:=by rfl)(c:i∈rW:=by decide +kernel):ZqF (k+1) m x ps:=⟨L4.Dd λb=>L4.Oc$ dh n g b,λa=>e ▸ Ci.Dd (Ci.Oc$ xB (f.fn$ j ▸ a.tf.get i c) S λv v v v v v v h=>hb a h S.nd),d⟩
@[simp] theorem ypy{st}{hs hp hb S hn hm hi}:(Fc n m k i E (x:=x) (st:=st) (ps:=ps) (N:=N) (g:=g) hs hp hb S hn hm hi).f=L4.Dd λa=>L4.Oc$ dh n g a:=rfl
def be(n m k j t i:Nat)(E:ac){x:Str}{st:Stmt}{ps N:ac}{g:Ev->M Fl}{l:List$ Nat × Nat}(r:Bv (bj t) i=st:=by conv=>lhs;whnf)(o:Jz E st x ps N:=by repeat constructor)(hb:∀ {q:Str},Hb q k N st g:=by walk_at "-")(S:rc N ps$ sf st:=by exact CL)(f:N.length=n:=by rfl)(e:ps.length=m:=by rfl)(c:(t,l)∈jQ:=by repeat (first|with_reducible exact ya|refine ra _ ?_))(d:(i,j)∈l:=by repeat (first|with_reducible exact ya|refine ra _ ?_)):dF (k+1) m j ps:=⟨L4.Dd λb=>L4.Oc$ dh n g b,λa=>let ⟨_,h⟩:=o.me (r ▸ ((a.tm.get (t,l) c).get (i,j) d:HM _ _ (Bv (bj t) i)));f ▸ mr.Dd (mr.Oc$ IY h S λv v v v v v p=>hb a p S.nd),e⟩
@[simp] theorem ypx{st}{hs hp hb S hn hm hi hj}:(be n m k j t i E (x:=x) (st:=st) (ps:=ps) (N:=N) (g:=g) (l:=l) hs hp hb S hn hm hi hj).f=L4.Dd λa=>L4.Oc$ dh n g a:=rfl
def Ee(n m k j t i:Nat)(E:ac){x:Str}{st:Stmt}{ps N:ac}{g:Ev->M Fl}{l:List$ Nat × Nat}(p:Bv (bj t) i=st:=by conv=>lhs;whnf)(f:Jz E st x ps N:=by repeat constructor)(hb:∀ {q:Str},Hb q k N st g:=by walk_at "-")(S:rc N ps$ sf st:=by exact CL)(e:N.length=n:=by rfl)(d:ps.length=m:=by rfl)(b:(t,l)∈jQ:=by repeat (first|with_reducible exact ya|refine ra _ ?_))(c:(i,j)∈l:=by repeat (first|with_reducible exact ya|refine ra _ ?_)):dF (k+1) m j ps:=⟨L4.Dd$ dh n g,λa=>let ⟨_,h⟩:=f.me (p ▸ ((a.tm.get (t,l) b).get (i,j) c:HM _ _ (Bv (bj t) i)));e ▸ mr.Dd (IY h S λv v v v v v o=>hb a o S.nd),d⟩
@[simp] theorem ypz{st}{hs hp hb S hn hm hi hj}:(Ee n m k j t i E (x:=x) (st:=st) (ps:=ps) (N:=N) (g:=g) (l:=l) hs hp hb S hn hm hi hj).f=L4.Dd (dh n g):=rfl
theorem Qe.re k c x(q:dF j m n ps)(r:Qe k m x ps b)(e:j<=k:=by decide)(h:(c,l)∈qS:=by repeat (first|with_reducible exact ya|refine ra _ ?_))(g:(x,n)∈l:=by repeat (first|with_reducible exact ya|refine ra _ ?_))(d:c∈RN:=by decide):Qe k m x ps$ (c,q.f)::b:=⟨λa=>D2 (T:=⟨_,_,tx _⟩) (a.tc.get _ d) ((a.te.get _ h).get _ g) (q.ok a) e$ r.ok a,r.len⟩
def Qe.nil(h:ps.length=m:=by rfl):Qe k m x ps []:=⟨λa=>Û,h⟩
section
variable{ca:Nat->Addr}{k m n:Nat}{ps:ac}{x:Str}{p pos pos' apos:Td}{e o i v:Ja}{es:List Ja}{f g fo fi fv:Ev->M D}{fs:Ev->M (g')}{cs:dN}{pl:Om Bool}
abbrev TX(X:Cx)(ca:Nat->Addr):Tb:=⟨X.K,ca,tx X.K⟩
def Y6[q:ZqF k m x ps](o:yd n X.A)(c:Xf X.K X.mg ca)(d:FA (TX X ca) X (e::es) fs)(j:k<=n:=by decide)(i:Gl X x:=by exact rfl)(a:(x == ("__debug__" : Str))=Ŷ:=by decide)(g:ka (e::es) X.env=(Ŷ,Cb e X.env)::ka es X.env:=by rfl)(b:(Ub pos$ ka es X.env).any (·.1)=Ŷ:=by rfl):FE (TX X ca) X (ϟ (ϛ x p) (e::es) [] pos)$ Ye m q.f [] fs:=by
 have h:=q.ok (P:=X.prog) (w:=X.w) (base:=X.base) c;have l:=q.len;subst l;exact Wr h rfl (o.mono j) i d a g b
def fmP{d}[q:Qe k m x ps d](r:yd n X.A)(g:Xf X.K X.mg ca)(p:FE (TX X ca) X o f)(i:FA (TX X ca) X (e::es) fs)(j:k<=n:=by decide)(b:ka (e::es) X.env=(Ŷ,Cb e X.env)::ka es X.env:=by rfl)(a:(Ub pos$ ka es X.env).any (·.1)=Ŷ:=by rfl) (s:Cb (ϟ (ϝ o x apos) (e::es) [] pos) X.env=(do
   let c <-Cb o X.env
   Kg apos.atName
   let (f,first) <-Od [c] (Gh c x pl)
   Bn pos f first (Ub pos$ ka (e::es) X.env) (Pg pos$ Fe [] X.env)):=by rfl):FE (TX X ca) X (ϟ (ϝ o x apos) (e::es) [] pos)$ Qd d m x f fs:=by
 have h:=q.ok (P:=X.prog) (w:=X.w) (base:=X.base) g;have l:=q.len;subst l;exact HQ rfl p h (r.mono j) i b a s
def Y9{b}[q:Qe k m x ps b](g:yd n X.A)(c:Xf X.K X.mg ca)(e:FE (TX X ca) X o f)(d:k<=n:=by decide) (i:Cb (ϟ (ϝ o x apos) [] [] pos) X.env=(do
   let a <-Cb o X.env
   Kg apos.atName
   let (f,first) <-Od [a] (Gh a x pl)
   Bn pos f first (Ub pos$ ka [] X.env) (Pg pos$ Fe [] X.env)):=by rfl):FE (TX X ca) X (ϟ (ϝ o x apos) [] [] pos)$ Qd b m x f Ua:=by
 have h:=q.ok (P:=X.prog) (w:=X.w) (base:=X.base) c;have l:=q.len;subst l;exact P5 rfl e h (g.mono d) i
def ffP(a:Xf X.K X.mg ca)(c:FE (TX X ca) X e g)(b:Wc e x X.env (Cb e X.env)=Cb e X.env:=by rfl)(d:(x,cs)∈jG:=by repeat (first|with_reducible exact ya|refine ra _ ?_)):FE (TX X ca) X (ϝ e x pos)$ Vc (Mb cs x) g:=X3 rfl (fO a d) c b
def Õ(a:Xf X.K X.mg ca)(b:FE (TX X ca) X o fo)(e:FE (TX X ca) X v fv)(d:Hg v (BD$ ϝ o x pos') pos.line X.env=pure Ŷ:=by rfl)(c:(x,cs)∈jG:=by repeat (first|with_reducible exact ya|refine ra _ ?_)):FS (TX X ca) X (.Assign [ϝ o x pos'] v pos)$ Uk cs x fv fo:=P3 rfl (fO a c) b e d
def ű(a:Xf X.K X.mg ca)(b:Gl X x:=by exact rfl)(hd:(x == ("__debug__" : Str))=Ŷ:=by decide)(c:(x,z)∈uZ:=by repeat (first|with_reducible exact ya|refine ra _ ?_)):FE (TX X ca) X (ϛ x pos)$ eC$ Z z:=by
 obtain⟨t,h⟩:=a.ti.get _ c;exact B3 b h ⟨_,rfl⟩ hd
end
noncomputable def fu:Ja->Str
 | ϛ x _=>x
 | ϰ (ϛ x _::_) _ _=>x
 |_=>""
noncomputable def Dw:Ja->Str
 | ϰ (_::ϛ x _::_) _ _=>x
 |_=>"0"
noncomputable def fr(s:Scope)(p:dN):ac:=p.map λi=>((s.names.filter λy=>y.2 == db).map (·.1)).getD i ""
section
variable{elt iter tgt:Ja}{ifs:List Ja}{scope:Scope}{pos spos py:Td}{y:Str}{src:Ev->M NX}{tg:D->Ev->Option Ev}{fi:Ev->M Bool}{fe:Ev->M D}
def z7 h c(e:Zq T X tgt iter src)(g:(fu tgt::Dw tgt::fr scope c).Nodup->∀ cl C b a ex,FG T (Ro X (fu tgt::Dw tgt::fr scope c) scope cl C b a ex) tgt tg)(f:∀ cl C b a ex,gy T (Ro X (fu tgt::Dw tgt::fr scope c) scope cl C b a ex) ifs fi)(d:∀ cl C b a ex,FE T (Ro X (fu tgt::Dw tgt::fr scope c) scope cl C b a ex) elt fe)(j:(fu tgt::Dw tgt::fr scope c).Nodup:=by decide +kernel)(L:yk X (fu tgt) (fr scope c) h scope:=by exact⟨rfl,rfl,rfl,rfl,rfl,rfl⟩)(i:X.gc=A3:=by rfl)(k:∀ y,ie iter X.env y=pure y:=by intro _;rfl):FE T X (ϴ elt [⟨tgt,iter,ifs,0⟩] scope pos)$ Tk src h tg fi fe:=uM i L e (g j) f d k
def VV i j c(k:X.N.Nodup)(e:Zq T X tgt iter src)(h:(fu tgt::Dw tgt::fr scope c).Nodup->∀ cl C b a ex,FG T (Ro X (fu tgt::Dw tgt::fr scope c) scope cl C b a ex) tgt tg)(f:∀ cl C b a ex,gy T (Ro X (fu tgt::Dw tgt::fr scope c) scope cl C b a ex) ifs fi)(d:∀ cl C b a ex,FE T (Ro X (fu tgt::Dw tgt::fr scope c) scope cl C b a ex) elt fe)(o:(fu tgt::Dw tgt::fr scope c).Nodup:=by decide +kernel)(n:X.N[i]?=BD y:=by rfl)(q:Loc X.env.scope y:=by first|exact Or.inl rfl|exact Or.inr rfl)(L:yk X (fu tgt) (fr scope c) j scope:=by exact⟨rfl,rfl,rfl,rfl,rfl,rfl⟩)(l:X.gc=A3:=by rfl)(p:∀ y,ie iter X.env y=pure y:=by intro _;rfl)(g:Hg (ϴ elt [⟨tgt,iter,ifs,0⟩] scope pos) (BD$ ϛ y py) spos.line X.env=pure A3:=by rfl)(m:X.fn y=A3\/X.env.scope.names.lookup y=BD .local:=by first|exact .inl rfl|exact .inr rfl|assumption):FS T X (.Assign [ϛ y py] (ϴ elt [⟨tgt,iter,ifs,0⟩] scope pos) spos)$ Ce i$ Tk src j tg fi fe:=Ũ k n q l L e (h o) f d p g m
end
class ZqC (c k m:outParam Nat) (x:Str) (ps:outParam (ac)) (fn:outParam (g'->M D)):Prop where
 ok:∀ {P:xa} {w:Ma} {K:ϔ} {mg:Str->Option Value} {base:Heap} {ca:Nat->Addr},Xf K mg ca->xS ⟨K,ca,tx K⟩ P w mg base k x c ps fn
 len:ps.length=m
def n6{X}{d}{c k m n}{ps}{x}{i}{p b}{e}{a}{j}[q:ZqC c k m x ps i](v:yd n X.A)(o:Xf X.K X.mg d)(r:FA (TX X d) X (e::a) j)(u:k+1<=n:=by decide)(t:Gl X x:=by exact rfl)(f:(x == ("__debug__" : Str))=Ŷ:=by decide)(s:ka (e::a) X.env=(Ŷ,Cb e X.env)::ka a X.env:=by rfl)(g:(Ub b$ ka a X.env).any (·.1)=Ŷ:=by rfl):FE (TX X d) X (ϟ (ϛ x p) (e::a) [] b)$ Yo c m i j:=by
 have h:=q.ok (P:=X.prog) (w:=X.w) (base:=X.base) o;have l:=q.len;subst l;exact o9 h rfl (v.mono u) t r f s g
set_option hygiene false
def wkA(k:String):Lean.MacroM Lean.Term:=
 if k == "_" then `(_) else if k == "?" then `(?_) else if k == "!" then `(by assumption) else if k == "λ" then `(λa a=>rfl) else let r:=(k.drop 1).toString
 if k.front == '\'' then return Lean.Syntax.mkStrLit r else if k.front.isDigit then return Lean.Syntax.mkNumLit k else let i:=λ(k:String)=>Lean.mkIdent ((k.splitOn ".").foldl Lean.Name.str .anonymous)
 if k.front == '.' then let i:=i r;`(.$i:ident) else if k == "@n" then `(by first|assumption|(show List.Nodup (_::_::_);decide +kernel)) else if k == "@o" then `(by first|exact Or.inl rfl|exact Or.inr rfl) else match k.splitOn "=" with
 |[a,b]=>return ⟨.node .none ``Lean.Parser.Term.namedArgument #[Lean.mkAtom "(",Lean.mkIdent (.mkSimple a),Lean.mkAtom ":=",Lean.Syntax.mkNumLit b,Lean.mkAtom ")"]⟩
 |_=>return i k
def wkT(s:String):Lean.MacroM Lean.Term:=do
 let m:=λ(a:List Lean.Term)=>match a.reverse with|f::l=>Lean.Syntax.mkApp f l.toArray|_=>⟨.missing⟩
 let mut t:List$ List Lean.Term:=[[]]
 for k in s.splitOn " " do
  if k == "(" || k == "[" then t:=[]::t
  else match k,t with
   |")",a::b::r=>t:=(m a::b)::r
   |"]",a::b::r=>let a:=a.reverse.toArray;t:=((<- `([$a,*]))::b)::r
   |_,b::r=>t:=((<- wkA k)::b)::r
   |_,_=>pure ()
 return m t.head!
def wkF:List (Lean.TSyntax `tactic)->Lean.MacroM (Lean.TSyntax `tactic)
 |[t]=>pure t
 |t::r=>do let r <- wkF r;`(tactic| first|$t:tactic|$r:tactic)
 |[]=>`(tactic| fail)
def wkR(s:String):Lean.MacroM (Lean.TSyntax `tactic):=do wkF (<- (s.splitOn "|").mapM λt=>do let t <- wkT t;`(tactic| refine' $t))
def wkG(s:String):Lean.MacroM (Lean.TSyntax `tactic):=do
 match s.splitOn ";" with
 |[g,r]=>let g <- wkT g;let r <- wkR r;`(tactic| (guard_target =~ $g;$r:tactic))
 |[g,n,r]=>let g <- wkT g;let n <- wkT n;let r <- wkR r;`(tactic| (guard_target =~ $g;(fail_if_success (guard_target =~ $n));$r:tactic))
 |_=>`(tactic| fail)
def wkL(s:String):Lean.MacroM (Lean.TSyntax `tactic):=do
 match s.splitOn "\n" with
 |g::l=>let g <- wkT g;let r <- wkF (<- l.mapM wkG);`(tactic| (guard_target =~ $g;$r:tactic))
 |_=>`(tactic| fail)
def wkS:=["FE _ _ _ _\nFE _ _ ( .Constant _ _ _ ) _;mF|mP|ĩ|yei\nFE _ _ ( .Subscript _ ( .Slice _ _ _ _ ) _ ) _;g5 rfl ? ? ?\nFE _ _ ( .Subscript _ _ _ ) _;FE _ _ ( .Subscript ( .Attribute _ _ _ ) _ _ ) _;rN lP ( QN rfl ) ? ? λ\nFE _ _ ( .Call ( .Name 'len _ ) [ ( .Call ( .Name 'set _ ) _ _ _ ) ] _ _ ) _;zhs rfl rfl rfl ( Xf.lz ! ) rfl ( Xf.Az ! ) ?\nFE _ _ ( .Call ( .Name 'len _ ) _ _ _ ) _;jx ο ( ŋ rfl ) rfl ( Xf.lz ! ) wy ?\nFE _ _ ( .Call ( .Name 'sum _ ) _ _ _ ) _;jx ( dY rfl ) ( uV rfl ) rfl ( Xf.Wy ! ) boot_sum ?\nFE _ _ ( .Call ( .Name 'all _ ) _ _ _ ) _;jx ( zkv rfl ) ( ı rfl ) rfl ( Xf.VE ! ) boot_all ?\nFE _ _ ( .Call ( .Name 'isinstance _ ) [ _ ( .Name 'tuple _ ) ] _ _ ) _;BI .tuple ? rfl ( Xf.wf ! ) rfl ( Xf.Zr ! ) boot_tuple\nFE _ _ ( .Call ( .Name 'isinstance _ ) [ _ ( .Name 'str _ ) ] _ _ ) _;BI .str ? rfl ( Xf.wf ! ) rfl ( Xf.oG ! ) boot_str\nFE _ _ ( .Call ( .Name 'isinstance _ ) [ _ ( .Name 'int _ ) ] _ _ ) _;BI .int ? rfl ( Xf.wf ! ) rfl ( Xf.fG ! ) boot_int\nFE _ _ ( .Call ( .Name 'isinstance _ ) [ _ ( .Name 'bool _ ) ] _ _ ) _;BI .bool ? rfl ( Xf.wf ! ) rfl ( Xf.sB ! ) boot_bool\nFE _ _ ( .Call ( .Name _ _ ) _ _ _ ) _;Y6 ! ! ?\nFE _ _ ( .Call ( .Attribute _ 'append _ ) _ _ _ ) _;yO zh xn yn GL jN ? ?\nFE _ _ ( .Call ( .Attribute _ 'extend _ ) _ _ _ ) _;yO zh PySem.F.slot_list_extend PySem.F.type_list_extend ß C4 ? ?\nFE _ _ ( .Call ( .Attribute _ _ _ ) ( .cons _ _ ) _ _ ) _;fmP ! ! ? ?\nFE _ _ ( .Call ( .Attribute _ _ _ ) [ ] _ _ ) _;Y9 ! ! ?\nFE _ _ ( .Attribute _ _ _ ) _;ffP ! ?\nFE _ _ ( .Tuple _ _ _ ) _;bS ?\nFE _ _ ( .BinOp _ .Add _ _ ) _;Pt ( bJ rfl ) Rs ? ?\nFE _ _ ( .BinOp _ .Sub _ _ ) _;Pt ĺ yau ? ?\nFE _ _ ( .BinOp _ .Mod _ _ ) _;Pt CK yN ? ?\nFE _ _ ( .BinOp _ .FloorDiv _ _ ) _;Pt U8 ś ? ?\nFE _ _ ( .BinOp _ .Mult _ _ ) _;Pt M7 Ï ? ?\nFE _ _ ( .BinOp _ .Pow _ _ ) _;Pt Y1 ŵ ? ?\nFE _ _ ( .Compare _ [ .Eq ] _ _ ) _;Dp ( jY ( Fm ! ) ) Rs ? ? ( Gn _ )\nFE _ _ ( .Compare _ [ .NotEq ] _ _ ) _;Dp ( AN ( Fm ! ) ) Rs ? ? ( Gn _ )\nFE _ _ ( .Compare _ [ .Lt ] _ _ ) _;Dp OI BH ? ? ( Gn _ )\nFE _ _ ( .Compare _ [ .LtE ] _ _ ) _;Dp gE IE ? ? ( Gn _ )\nFE _ _ ( .Compare _ [ .Gt ] _ _ ) _;Dp dS QR ? ? ( Gn _ )\nFE _ _ ( .Compare _ [ .GtE ] _ _ ) _;Dp FL MP ? ? ( Gn _ )\nFE _ _ ( .Compare _ [ .Is ] _ _ ) _;Dp OR SY ? ? ( Gn _ )\nFE _ _ ( .Compare _ [ .IsNot ] _ _ ) _;Dp kZ yT ? ? ( Gn _ )\nFE _ _ ( .Compare _ [ .LtE _ ] _ _ ) _;rT gE IE gE IE ? ? ?\nFE _ _ ( .Compare _ [ .Lt _ ] _ _ ) _;rT OI BH gE IE ? ? ?\nFE _ _ ( .BoolOp .And ( .cons _ ( .cons _ _ ) ) _ ) _;XF ? ?\nFE _ _ ( .BoolOp .Or ( .cons _ ( .cons _ _ ) ) _ ) _;ĉ ? ?\nFE _ _ ( .BoolOp _ [ _ ] _ ) _;hH ?\nFE _ _ ( .UnaryOp .Not _ _ ) _;yej ?\nFE _ _ ( .UnaryOp .USub _ _ ) _;yn2 ē N3 ?\nFE _ _ ( .IfExp _ _ _ _ ) _;o7 ? ? ?","FA _ _ _ _\nFA _ _ _ _;Ru|Vp ? ?","rl _ _ _ _\nrl _ _ _ _;Wx|gi ?|Mc ? ?","FS _ _ _ _\nFS _ _ ( .Return _ _ ) _;Fq ?\nFS _ _ ( .Assign [ ( .Attribute _ _ _ ) ] _ _ ) _;Õ ! ? ?\nFS _ _ ( .Expr _ _ ) _;Gu ?\nFS _ _ ( .Raise ( some ( .Call ( .Name 'NoDeed _ ) _ _ _ ) ) _ _ ) _;M1 2 PySem.F.excBase_ValueError rfl ( Xf.Nu ! ) ( Xf.Np ! ) rfl rfl ( Vp mP Ru )","FT _ _ _ _\nFT _ _ ( .BoolOp _ _ _ ) _;L2.PW.pt ?\nFT _ _ ( .UnaryOp .Not _ _ ) _;WR ?\nFT _ _ ( .Compare _ [ .Eq ] _ _ ) _;Rq ( jY ( Fm ! ) ) Rs ? ? ( Gn _ )\nFT _ _ ( .Compare _ [ .NotEq ] _ _ ) _;Rq ( AN ( Fm ! ) ) Rs ? ? ( Gn _ )\nFT _ _ ( .Compare _ [ .Lt ] _ _ ) _;Rq OI BH ? ? ( Gn _ )\nFT _ _ ( .Compare _ [ .LtE ] _ _ ) _;Rq gE IE ? ? ( Gn _ )\nFT _ _ ( .Compare _ [ .Gt ] _ _ ) _;Rq dS QR ? ? ( Gn _ )\nFT _ _ ( .Compare _ [ .GtE ] _ _ ) _;Rq FL MP ? ? ( Gn _ )\nFT _ _ ( .Compare _ [ .Is ] _ _ ) _;Rq OR SY ? ? ( Gn _ )\nFT _ _ ( .Compare _ [ .IsNot ] _ _ ) _;Rq kZ yT ? ? ( Gn _ )\nFT _ _ _ _;FT _ _ ( .Compare _ _ _ _ ) _;JO ?","FW _ _ _ _\nFW _ _ _ _;YY ? ?|OU ? ?|EZ ?|XZ ?","FG _ _ _ _\nFG _ _ ( .Tuple _ _ _ ) _;AL n=2 rfl ?|AL n=3 rfl ?|AL n=4 rfl ?","iD _ _ _ _\niD _ _ _ _;ŀ|q8 ? ?","FI _ _ _ _ _\nFI _ _ _ ( .Call ( .Name 'range _ ) [ _ ] _ _ ) _;zmm rfl ( Xf.Rr ! ) ?\nFI _ _ _ _ _;kP rfl ?","Zq _ _ _ _ _\nZq _ _ _ ( .Call ( .Name 'enumerate _ ) _ _ _ ) _;zt9 rfl ( Xf.Mp ! ) ?\nZq _ _ _ ( .Call ( .Name 'zip _ ) _ _ _ ) _;Q8 rfl ( Xf.kF ! ) ? ?","gy _ _ _ _\ngy _ _ _ _;zua|ć ?","L4.FO _ _ _ _\nL4.FO _ _ _ _;O4|zuf ?"]
def wkM:="A cH t3 ( Υ rfl ) rfl ( Xf.Zu ! ) boot_list ?\nB cH N2 ( K7 rfl ) rfl ( Xf.Zr ! ) boot_tuple ?\nC cH eU L7 rfl ( Xf.Hu ! ) boot_dict ?\nD Rq ( VU rfl ( Fm ! ) ) Rs ? ? rfl|Dp ( VU rfl ( Fm ! ) ) Rs ? ? rfl\nF SA zr rfl ? ? ?\nH cH eU Q9 rfl ( Xf.Hu ! ) boot_dict ?\nI CO ?\nK G3 ?\nL ÿ ?\nM zup ? ? ?\nN V6\nO jx ( Ř rfl ) ( zqx rfl ) rfl ( Xf.Fp ! ) L4.QY ?\nQ Q2 rfl rfl rfl ( Xf.Fp ! ) rfl ( Xf.Az ! ) ?\nR n6 ! ! ?\nS Rq ER ( SH rfl true ) ? ? rfl|Dp ER ( SH rfl true ) ? ? rfl\nT o6 ( Fm ! ) ? ? ?\na ju ? ? ?\nb ju ? Qu ?\nd fP ( Fm ! ) ? ? λ\nf xA zr rfl ? ? ?\nh TQ ?\ni Rq ( bI ( Fm ! ) ) pY ? ? rfl|Dp ( bI ( Fm ! ) ) pY ? ? rfl\nj Rq ( eY ( Fm ! ) ) ZY ? ? rfl|Dp ( eY ( Fm ! ) ) ZY ? ? rfl\nl yeg ?\nm xP ( Fm ! ) ? ? ?\nn Ω\no AX\ns Rq YM ( SH rfl false ) ? ? rfl|Dp YM ( SH rfl false ) ? ? rfl\nt Rq ( bI ( Fm ! ) ) pR ? ? rfl|Dp ( bI ( Fm ! ) ) pR ? ? rfl\nu ű !\nv ļ ?\nx rN lP ( QN rfl ) ? ? λ\ny J6 ?\nz xI ?"
local macro_rules
 |`(tactic| walk_at $s:str)=>do
  let c:=s.getString.front;let r:=(s.getString.drop 1).toString;let r':=Lean.Syntax.mkStrLit r
  if c == '-' then return <- `(tactic| ((repeat intro _);walk_at "";walk_at $r'))
  if c == '+' then return <- `(tactic| (walk_at "";walk_at $r'))
  let n:=λ(c:Char)=>toString (c.toNat - 48);let (t,r) <-(if c == 'c' || c == 'q' || c == 'r' then (do
   let d:=(r.takeWhile (·!= '.')).toString.toList;let o:=(r.drop (d.length+1)).toString;let j:=n (d.headD '0');let d:=d.drop (if c == 'c' then 0 else 1);let e:=(d.takeWhile (·!= '/')).map n;let p:=((d.dropWhile (·!= '/')).drop 1).map n;let p:=if p.isEmpty then (List.range e.length).map toString else p
   let b:=λ(l:List String)=>l.foldl (·++·++" ") "[ "++"] ";let l:=b e++b p
   return (<- wkR (if c == 'c' then "z7 "++l++"? ? ? ?" else if c == 'q' then "ĕ ( VV "++j++" "++l++"! ? ? ? ? )" else "VV "++j++" "++l++"! ? ? ? ?"),o)) else match (wkM.splitOn "\n").find? (·.front == c) with
    |some t=>return (<- wkR (t.drop 2).toString,r)
    |_=>return (<- wkF (<- (("FE _ _ _ _;Bj #\nFG _ _ _ _;i6 i=# @n rfl @o\nFS _ _ ( .Assign _ _ _ ) _;dw i=# @n rfl @o ?\n_;QT i=# lY @n rfl @o ?".replace "#" (n c)).splitOn "\n").mapM wkG),r))
  let r:=Lean.Syntax.mkStrLit r;let t <- `(tactic| ($t:tactic<;>walk_at ""));let f:=λu=>`(tactic| first|$t:tactic|(rotate_left;$u:tactic))
  let u <- f (<- f (<- f (<- f t)))
  `(tactic| ($u:tactic;walk_at $r))
local macro_rules
 |`(tactic| walk_at "")=>do
  let r <- wkF (<- wkS.mapM wkL)
  `(tactic| repeat' ((fail_if_success guard_target =~ Ev->_);first
  |$r:tactic
  |(guard_target =~ List.Nodup _->_;intro _ _ _ _ _ _)
  |(intro _ _ _ _ _)))
section
variable{P:xa}{w:Ma}{K:ϔ}{mg:Str->Option Value}{base:Heap}{ca:Nat->Addr}(a:Xf K mg ca)
include a
instance ic:ZqF 1 2 "_law_cell_at" ["_law_script","_law_k"]:=Fc 2 2 0 113 [] (hb:=by walk_at "-a1001")
instance dm:ZqF 1 1 "is_whole" ["thing"]:=Fc 1 1 0 8 [] (hb:=by walk_at "-00")
instance xf:ZqF 2 3 "is_between" ["thing","least","most"]:=Fc 3 3 1 9 [] (hb:=by walk_at "-0102")
instance uh:ZqF 3 1 "is_hand" ["thing"]:=Fc 1 1 2 11 [] (hb:=by walk_at "-0u")
instance Of:ZqF 4 1 "makes_a_pot" ["thing"]:=Fc 1 1 3 57 [] (hb:=by walk_at "-0000000u0u0u")
abbrev UM:Ev->M Fl:=(Ug (IA (eT$ Sa EG (ja 1)$ eC$ Z 2)$ Ks$ eT$ Ye 1 Of []$ Ba (ja 2) Ua) Xl Sh)
def PY:Ev->M Fl:=
 (zb (rm (sx$ ja 0) (Hi 2$ Oe (wc 1)$ Oe (wc 2) Qi) UM)$ Ui$ cj$ ak Zo$ Ba (ja 0) Ua)
instance Bi:ZqF 5 1 "checked_pots" ["pots"]:=Fc 3 1 4 58 ["number","made"] (g:=PY) (hb:=by walk_at "-F012b1u2zA0")
def cy:=Ee 2 2 0 17 50 0 [] (hb:=by walk_at "-01")
instance Nf:ZqF 1 1 "whole_of" ["made"]:=Fc 1 1 0 59 [] (hb:=by walk_at "-00")
instance:ZqC 6 1 2 "Held" ["self","whole"] cy.f:=⟨λa=>⟨_,a.Ju,a.ky,cy.ok a⟩,rfl⟩
def ew:=Ee 2 2 5 30 62 0 [] (hb:=by walk_at "-0100c.y00zR00c.y00n")
def Tt:=be 1 1 0 44 62 14 [] (hb:=by walk_at "-zA0")
instance My:Qe 1 1 "made_of" ["self"] [(9,Tt)]:=.re 1 9 "made_of" Tt .nil
abbrev BJ:Ev->M Fl:=(Ug (Pq (eT$ Sa (ay Ŷ) (ja 0)$ wB (ja 3) L6$ BD$ eC$ Z 2)$ eT$ Sa oLt (Sa ib (ja 3)$ eC$ Z 4)$ Sa lh (ja 1)$ eC$ Z 1) Xl Sh)
def wU:Ev->M Fl:=
 (zb (Ug (Ks$ eT$ Ye 3 xf []$ Ba (ja 1)$ Ba (eC$ Z 1)$ Ba (eC$ Z 50) Ua) Xl Sh)$ Yj (kh$ ja 2) (wc 3) BJ)
instance Lh:ZqF 3 3 "check_span" ["hand","every","pots"]:=Fc 4 3 2 100 ["made"] (g:=wU) (hb:=by walk_at "-b1uf23bs0331")
abbrev bG:Ev->M Fl:=(Wq (eC$ ϒ A3) (Vc (Mb [14,15] "known")$ ja 0)$ ja 2)
def vL:Ev->M Fl:=
 (Yj (kh$ ja 1) (wc 2) bG)
def Su:=Ee 3 2 0 57 108 2 ["word"] (g:=vL) (hb:=by walk_at "-f12m02")
instance qD:Qe 1 2 "learn" ["self","words"] [(15,Su)]:=.re 1 15 "learn" Su .nil
def QA:=Ee 4 4 0 56 108 1 [] (hb:=by walk_at "-m101m201m301")
instance pv:Qe 1 4 "hold" ["self","account","claim","seen"] [(15,QA)]:=.re 1 15 "hold" QA .nil
instance Yp:ZqF 3 1 "is_day" ["thing"]:=Fc 1 1 2 13 [] (hb:=by walk_at "-0u")
instance On:ZqF 3 1 "is_word" ["thing"]:=Fc 1 1 2 12 [] (hb:=by walk_at "-0u")
instance Vg:ZqF 3 1 "is_amount" ["thing"]:=Fc 1 1 2 15 [] (hb:=by walk_at "-0u")
instance Nn:ZqF 3 1 "is_side" ["thing"]:=Fc 1 1 2 10 [] (hb:=by walk_at "-0")
instance Yl:ZqF 4 1 "is_tie" ["thing"]:=Fc 1 1 3 27 [] (hb:=by walk_at "-000000")
instance Vq:ZqF 5 1 "are_ties" ["thing"]:=Fc 1 1 4 29 [] (hb:=by walk_at "-b00ubzc.y000zc.y0000")
instance ro:ZqF 3 1 "are_shares" ["thing"]:=Fc 1 1 2 28 [] (hb:=by walk_at "-000u0u")
instance Vk:ZqF 3 1 "is_number" ["thing"]:=Fc 1 1 2 14 [] (hb:=by walk_at "-0u")
instance Kh:ZqF 6 1 "is_stand" ["thing"]:=Fc 1 1 5 30 [] (hb:=by walk_at "-00000")
abbrev zBD(x q:Str)(s:Stmt)(c:ac):Prop:=∀ (kV b d:Value) (an:Option Addr) (a ct:Value) (us:b'),us.length=c.length->bindArgs (Ϯ x q (Tl s) (ck s) (sf s) Yb kV b d an a ct) ⟨us,[]⟩=pure (c.zip us)
def vt{N P}{sc}(a:sc.kind=ϥ)(b:sc.isCoroutine=Ŷ)(c:sc.isGenerator=Ŷ)(h:N.Nodup/\N.take P.length=P/\(∀ x∈P,sc.names.lookup x=BD .local\/sc.names.lookup x=BD Bc)/\∀ y∈sc.names,y.2≠ db):rc N P sc:=⟨a,b,c,h.1,h.2.1,h.2.2.1,h.2.2.2⟩
abbrev UV:Stmt:=bj 31
def QP:Ev->M Fl:=
 (zb (Ce 3$ Ng$ Ba (ja 0)$ Ba (ja 1)$ Ba (uw (eT$ Sa Ys (ja 2)$ eC Ϛ) (Ng Ua)$ ja 2) Ua)$ zb (Ug (Ks$ eT$ Ye 1 Kh []$ Ba (ja 3) Ua) Xl Sh)$ Ui$ ja 3)
def Jh:g'->M D:=Dd λa=>Oc$ dh 4 QP a
def NV:rc ["number","shares","ties","made"] ["number","shares","ties"]$ sf UV:=vt rfl rfl rfl (by decide +kernel)
def Z5:JI "stand" "stand" UV ["number","shares","ties"] [Yb]:=λe e e e e e e e e e d b c=>⟨λa=>QF.ap [0,0,0] d (by simpa using a) (by intro _ _ _;show Me _ _ _ _;exact Pc rfl b c rfl rfl),λa=>QF.ap [0,0] d (by simpa using a) (by intro _ _;show Me _ _ _ _;exact Pc rfl b c rfl rfl)⟩
def HU:nu ⟨K,ca,tx K⟩ P w mg base 7 "stand" ["number","shares","ties"] [Yb] Jh:=
 nu.Dd$ nu.Oc (m8 a.Jh NV λv v v v v v v b=>
  by have:=NV.nd;walk_at "+30122b33")
instance Kj:ZqF 8 2 "first" ["left","right"]:=Fc 2 2 7 32 [] (hb:=by exact λa b c=>
 (gi$ Fq$ ō (HU a) rfl (b.mono$ by decide) rfl zrs K6$ by walk_at "+01"))
def qq:=Ee 7 7 0 45 71 0 [] (hb:=by walk_at "-010203040zA50zA6")
instance:ZqC 11 1 7 "Calm" ["self","pot","side","mine","grant","may","strikes"] qq.f:=⟨λa=>⟨_,a.cB,a.Vx,qq.ok a⟩,rfl⟩
abbrev G2:Stmt:=bj 75
def zX:Ev->M Fl:=
 (zb (Ce 4$ Ye 2 Kj []$ Ba (ja 2)$ Ba (ja 3) Ua)$ Ui$ Yo 11 7 qq$ Ba (ja 0)$ Ba (ja 1)$ Ba (ja 4)$ Ba (eC Ϛ)$ Ba (Em$ Ba (ja 4) Ua)$ Ba (Em Ua) Ua)
def Pd:g'->M D:=Dd$ dh 5 zX
def KZ:rc ["pot","side","left","right","mine"] ["pot","side","left","right"]$ sf G2:=vt rfl rfl rfl (by decide +kernel)
def D7:Ci ⟨K,ca,tx K⟩ P w mg base 9 "first_account" ["pot","side","left","right"] Pd:=
 Ci.Dd (xB a.Pd KZ λv v v v v v v b=>
  by have:=KZ.nd;walk_at "+423R014v4v")
abbrev EB:Ev->M Fl:=(Ug (eT$ Sa Zh (Sa ib (ja 6)$ ja 7)$ ja 1) (Vh$ Qd [(15,QA)] 4 "hold" (ja 0)$ Ba (Ye 4 Pd []$ Ba (ja 5)$ Ba (ja 7)$ Ba (Sa ib (ja 6)$ eC$ Z 2)$ Ba (Sa ib (ja 6)$ eC$ Z 3) Ua)$ Ba (eC$ .gt ["held"])$ Ba (eC$ Ϭ [] []) Ua) Sh)
abbrev dO:Ev->M Fl:=(Yj (kh$ Ng$ Ba (eC$ Z 0)$ Ba (eC$ Z 1) Ua) (wc 7) EB)
abbrev ZW:Stmt:=Bv (bj 108) 0
def YR:Ev->M Fl:=
 (zb (Vh$ Ye 3 Lh []$ Ba (ja 1)$ Ba (ja 2)$ Ba (ja 3) Ua)$ zb (Uk [15] "hand" (ja 1)$ ja 0)$ zb (Uk [14,15,16] "every" (ja 2)$ ja 0)$ zb (Uk [14,15] "last_look" (eC$ Z 0)$ ja 0)$ zb (Uk [15] "gave" (eC$ Z 0)$ ja 0)$ zb (Uk [14,15] "known" Rp$ ja 0)$ zb (Uk [15] "accounts" Rp$ ja 0)$ zb (Uk [9,15] "claims" Rp$ ja 0)$ zb (Uk [15] "seen" Rp$ ja 0)$ zb (Uk [15] "asked" Rp$ ja 0)$ zb (Uk [15] "finishing" Rp$ ja 0)$ zb (Vh$ Qd [(15,Su)] 2 "learn" (ja 0)$ Ba (uw (eT$ Sa Ys (ja 4)$ eC Ϛ) (Em Ua)$ ja 4) Ua)$ rm (sx$ ja 3) (Hi 2$ Oe (wc 5)$ Oe (wc 6) Qi) dO)
def Cp:g'->M D:=Dd$ dh 8 YR
def ET:rc ["self","hand","every","pots","words","pot","made","side"] ["self","hand","every","pots","words"]$ sf ZW:=vt rfl rfl rfl (by decide +kernel)
def Ĳ:JI "__init__" "Keeper.__init__" ZW ["self","hand","every","pots","words"] [Yb]:=λe e e e e e e e e e d b c=>⟨λa=>QF.ap [0,0,0,0,0] d (by simpa using a) (by intro _ _ _ _ _;show Me _ _ _ _;exact Pc rfl b c rfl rfl),λa=>QF.ap [0,0,0,0] d (by simpa using a) (by intro _ _ _ _;show Me _ _ _ _;exact Pc rfl b c rfl rfl)⟩
def Ä:Rt ⟨K,ca,tx K⟩ P w mg base 10 (ca 55) ["self","hand","every","pots","words"] [Yb] Cp:=
 Rt.Dd (FP a.Cp ET λv v v v v v b=>
  by have c:=ET.nd;exact(Mc (by walk_at "+123")$ Mc (by walk_at "+01")$ Mc (by walk_at "+02")$ Mc (by walk_at "+0")$ Mc (by walk_at "+0")$ Mc (by walk_at "+0n")$ Mc (by walk_at "+0n")$ Mc (by walk_at "+0n")$ Mc (by walk_at "+0n")$ Mc (by walk_at "+0n")$ Mc (by walk_at "+0n")$ Mc (by walk_at "+04v4")$ gi$ SA zr rfl (by walk_at "+3") (by walk_at "+56")$ gi$ xA zr rfl (by walk_at "") (by walk_at "+7")$ gi$ ju (by walk_at "+671") (gi$ Gu$ HQ (k:=1) (ps:=["self","account","claim","seen"]) rfl (Bj 0) (pv.ok a) (b.mono$ by decide)$ Vp (Wr (D7 a) rfl (b.mono$ by decide) rfl$ by walk_at "+5766")$ Vp (lT (ss:=["held"]) rfl a.wv)$ Vp AX Ru) Wx))
instance rj:ZqF 1 2 "words_of" ["hand","words"]:=Fc 2 2 0 110 [] (hb:=by exact λa b c=>
 (gi$ Fq$ xI$ zt6 (f:=ja 1)$ by walk_at "+c0.L101120"))
abbrev jV:Ev->M Fl:=(Wq (Yo 15 5 Cp$ mB []$ Ba (ja 6)$ Ba (ja 3)$ Ba (Vc (Mb [9,14,16] "pots")$ ja 0)$ Ba (Ye 2 rj []$ Ba (ja 6)$ Ba (ja 5) Ua) Ua) (Vc (Mb [16] "keepers")$ ja 0)$ ja 6)
abbrev CF:Ev->M Fl:=(Ug (eT$ Sa Vo (ja 8)$ Vc (Mb [16] "keepers")$ ja 0) (jI (eC$ ϒ A3) (Vc (Mb [16] "things")$ ja 0)$ Ng$ Ba (eC$ ϐ "word")$ Ba (ja 7) Ua) Sh)
instance:ZqC 9 6 2 "Book" ["self","pots"] ew.f:=⟨λa=>⟨_,a.uA,a.Bx,ew.ok a⟩,rfl⟩
abbrev lW:Stmt:=Bv (bj 111) 0
def iY:Ev->M Fl:=
 (zb (Uk [16] "public" (Yo 9 2 ew$ Ba (ja 1) Ua)$ ja 0)$ zb (Uk [9,14,16] "pots" (Qd [(9,Tt)] 1 "made_of" (Vc (Mb [16] "public")$ ja 0) Ua)$ ja 0)$ zb (Uk [14,15,16] "every" (ja 3)$ ja 0)$ zb (Uk [16] "keepers" Rp$ ja 0)$ zb (Uk [16] "under_way" (Nr Ua)$ ja 0)$ zb (Uk [16] "things" iT$ ja 0)$ zb (Ce 5$ uw (eT$ Sa Ys (ja 4)$ eC Ϛ) (eC$ Ϭ [] [])$ ja 4)$ zb (Yj (kh$ cj$ Vc mC$ ja 2) (wc 6) jV)$ Zt (ja 5)$ rm (Ur$ ja 5) (Hi 2$ Oe (wc 7)$ Oe (wc 8) Qi) CF)
def ko:g'->M D:=Dd$ dh 9 iY
def zR:rc ["self","pots","keeps","every","words","owners","hand","word","owner"] ["self","pots","keeps","every","words"]$ sf lW:=vt rfl rfl rfl (by decide +kernel)
def za0:JI "__init__" "Hall.__init__" lW ["self","pots","keeps","every","words"] [Yb]:=λe e e e e e e e e e d b c=>⟨λa=>QF.ap [0,0,0,0,0] d (by simpa using a) (by intro _ _ _ _ _;show Me _ _ _ _;exact Pc rfl b c rfl rfl),λa=>QF.ap [0,0,0,0] d (by simpa using a) (by intro _ _ _ _;show Me _ _ _ _;exact Pc rfl b c rfl rfl)⟩
def ò:Rt ⟨K,ca,tx K⟩ P w mg base 12 (ca 79) ["self","pots","keeps","every","words"] [Yb] ko:=
 Rt.Dd (FP a.ko zR λv v v v v v b=>
  by have d:=zR.nd;exact(Mc (by walk_at "+0R1")$ Mc (by walk_at "+00")$ Mc (by walk_at "+03")$ Mc (by walk_at "+0n")$ Mc (by walk_at "+0l")$ Mc (by walk_at "+0N")$ Mc (by walk_at "+54o4")$ Mc (xA zr rfl (by walk_at "+zQ2") (by walk_at "+6")$ gi$ xP (Fm b) (sV (c:=15) (ps:=["self","hand","every","pots","words"]) a.Hv a.qt (Ä a) (ϖ rfl) Ϥ (λv v=>Za.nil) rfl (b.mono$ by decide) rfl$ by walk_at "+63065") (by walk_at "+0")$ Bj 6)$ by walk_at "+hFL578aj80T07"))
def Gq:=be 2 2 0 81 111 2 [] (hb:=by walk_at "-bj10d01")
instance ZA:Qe 1 2 "keeper" ["self","hand"] [(16,Gq)]:=.re 1 16 "keeper" Gq .nil
def jt:=be 2 2 0 61 108 6 [] (hb:=by walk_at "-bj10d01")
instance kz:Qe 1 2 "account" ["self","pot"] [(15,jt)]:=.re 1 15 "account" jt .nil
def Qy:=be 2 2 0 67 108 12 [] (hb:=by exact λa b c=>
 (gi$ Fq$ XF (by walk_at "+i10")$ hH$ Dp (Κ rfl$ Fm b) Rs (by walk_at "+d01") (lT (ss:=["held"]) rfl a.wv)$ Gn _))
instance UB:Qe 1 2 "holds" ["self","pot"] [(15,Qy)]:=.re 1 15 "holds" Qy .nil
def Dq:=be 1 1 0 48 72 0 []
def Fv:=be 1 1 0 50 73 0 []
def Lz:=be 1 1 0 52 74 0 []
instance sE:Qe 1 1 "word" ["self"] [(11,Dq),(12,Fv),(13,Lz)]:=.re 1 11 "word" Dq$ .re 1 12 "word" Fv$ .re 1 13 "word" Lz .nil
instance Yk:ZqF 1 3 "with_more" ["shares","side","amount"]:=Fc 3 3 0 35 [] (hb:=by walk_at "-a1020002")
instance Rk:ZqF 8 3 "following" ["one","shares","ties"]:=Fc 3 3 7 36 [] (hb:=by exact λa b c=>
 (gi$ Fq$ ė (HU a) rfl (b.mono$ by decide) rfl$ by walk_at "+012"))
instance og:ZqF 1 1 "other_side" ["side"]:=Fc 1 1 0 17 [] (hb:=by walk_at "-0")
instance Ku:ZqF 9 3 "gift" ["one","side","amount"]:=Fc 4 3 8 37 ["less"] (hb:=by walk_at "-b12301203120")
instance Ag:ZqF 10 3 "stand_wished" ["account","wish","known"]:=Fc 5 3 9 105 ["mine","side"] (hb:=by exact λa b c=>
 (Mc (by walk_at "+30")$ Mc (by walk_at "+40")$ Mc (by walk_at "+a1341") Qu))
instance Eg:ZqF 1 1 "allowance_of" ["wish"]:=Fc 1 1 0 106 [] (hb:=by walk_at "-000")
instance Gj:ZqF 1 1 "deals" ["one"]:=Fc 1 1 0 33 [] (hb:=by walk_at "-0zc.y000")
instance we:ZqF 7 2 "is_stand_of" ["thing","coin"]:=Fc 2 2 6 34 [] (hb:=by walk_at "-001")
def nh:=be 3 3 0 46 71 1 [] (hb:=by walk_at "-012")
instance jo:Qe 1 3 "agree_of" ["self","side","one"] [(10,nh),(11,nh),(12,nh),(13,nh)]:=.re 1 10 "agree_of" nh$ .re 1 11 "agree_of" nh$ .re 1 12 "agree_of" nh$ .re 1 13 "agree_of" nh .nil
instance:ZqC 12 1 7 "Offered" ["self","pot","side","mine","grant","may","strikes"] qq.f:=⟨λa=>⟨_,a.kt,a.Xq,qq.ok a⟩,rfl⟩
abbrev zjs:Stmt:=bj 76
def HK:Ev->M Fl:=
 (zb (Ug (IA (eT$ Sa rh (Vc (Mb [7,8,10,11,12,13] "side")$ ja 0)$ eC$ Z 0)$ eT$ Sa rh (Qd [(11,Dq),(12,Fv),(13,Lz)] 1 "word" (ja 0) Ua)$ eC$ ϐ "calm") (OO 2$ Ba (eC$ ϐ "only the lead offers, and only when it is calm") Ua) Sh)$ zb (Ce 3$ Ng$ Ba (Sa lh (Sa ib (Vc (Mb [10,11,12,13] "mine")$ ja 0)$ eC$ Z 0)$ eC$ Z 1)$ Ba (ja 1)$ Ba (ja 2) Ua)$ zb (Ug (Ks$ eT$ Ye 2 we []$ Ba (ja 3)$ Ba (Ye 1 Gj []$ Ba (Vc (Mb [10,11,12,13] "mine")$ ja 0) Ua) Ua) Xl Sh)$ zb (Ce 4$ Yo 12 7 qq$ Ba (Vc (Mb [10,11,12,13] "pot")$ ja 0)$ Ba (Vc (Mb [7,8,10,11,12,13] "side")$ ja 0)$ Ba (Vc (Mb [10,11,12,13] "mine")$ ja 0)$ Ba (Vc (Mb [10,11,12,13] "grant")$ ja 0)$ Ba (Em$ Ba (Vc (Mb [10,11,12,13] "mine")$ ja 0)$ Ba (ja 3) Ua)$ Ba (Vc (Mb [10,11,12,13] "strikes")$ ja 0) Ua)$ Ui$ Ng$ Ba (ja 4)$ Ba (Ng$ Ba (eC$ ϐ "offer")$ Ba (Vc (Mb [10,11,12,13] "pot")$ ja 0)$ Ba (Qd [(10,nh),(11,nh),(12,nh),(13,nh)] 3 "agree_of" (ja 0)$ Ba (eC$ Z 0)$ Ba (ja 3) Ua) Ua) Ua)
def Pe:g'->M D:=Dd$ dh 5 HK
def zY:rc ["account","shares","ties","one","behind"] ["account","shares","ties"]$ sf zjs:=vt rfl rfl rfl (by decide +kernel)
def OT:Ci ⟨K,ca,tx K⟩ P w mg base 8 "offered" ["account","shares","ties"] Pe:=
 Ci.Dd (xB a.Pe zY λv v v v v v v b=>
  by have:=zY.nd;walk_at "+a003x012b304R0000v0304003")
instance Tp:ZqF 3 1 "is_pot" ["thing"]:=Fc 1 1 2 16 [] (hb:=by walk_at "-0u")
instance xi:ZqF 4 1 "is_of_a_side" ["thing"]:=Fc 1 1 3 46 [] (hb:=by walk_at "-000")
instance Ie:ZqF 7 1 "is_thing" ["thing"]:=Fc 1 1 6 47 [] (hb:=by exact λa b c=>
 (Mc (by walk_at "+b000")$ Mc (by walk_at "+b0")$ Mc (by walk_at "+a000")$ Mc (by walk_at "+a000") Qu))
instance Qk:ZqF 8 1 "is_strike" ["thing"]:=Fc 1 1 7 65 [] (hb:=by walk_at "-00")
instance qm:ZqF 8 1 "is_agree" ["thing"]:=Fc 1 1 7 64 [] (hb:=by walk_at "-00")
instance ue:ZqF 9 1 "has_its_parts" ["letter"]:=Fc 1 1 8 66 [] (hb:=by exact λa b c=>
 (Mc (by walk_at "+a000")$ Mc (by walk_at "+a0000")$ Mc (by walk_at "+a000")$ Mc (by walk_at "+a0000") Qu))
instance vd:ZqF 10 1 "is_letter" ["thing"]:=Fc 1 1 9 67 [] (hb:=by walk_at "-b00000")
instance (priority:=1001) mo8_agree_of:Qe 1 3 "agree_of" ["self","side","one"] [(11,nh)]:=.re 1 11 "agree_of" nh .nil
instance Gi:ZqF 8 2 "is_following" ["thing","one"]:=Fc 2 2 7 70 [] (hb:=by walk_at "-0101")
def ii:=be 3 3 0 47 71 2 [] (hb:=by walk_at "-012")
instance tw:Qe 1 3 "strike_of" ["self","side","one"] [(11,ii)]:=.re 1 11 "strike_of" ii .nil
instance:ZqC 13 1 7 "Waiting" ["self","pot","side","mine","grant","may","strikes"] qq.f:=⟨λa=>⟨_,a.ut,a.qr,qq.ok a⟩,rfl⟩
def uz:=Ee 5 2 10 49 72 1 ["one","agree","behind"] (hb:=by walk_at "-b01121302b103204R0023v020400200")
instance (priority:=1002) mo10_agree_of:Qe 1 3 "agree_of" ["self","side","one"] [(12,nh)]:=.re 1 12 "agree_of" nh .nil
instance (priority:=1001) mo11_strike_of:Qe 1 3 "strike_of" ["self","side","one"] [(12,ii)]:=.re 1 12 "strike_of" ii .nil
def Oy:=Ee 5 2 10 51 73 1 ["one","agree","behind"] (hb:=by walk_at "-2x0302b1103004R0023v20vx04000")
instance (priority:=1002) mo12_strike_of:Qe 1 3 "strike_of" ["self","side","one"] [(13,ii)]:=.re 1 13 "strike_of" ii .nil
def zz:=Ee 4 2 10 53 74 1 ["old","behind"] (hb:=by walk_at "-2x0b110023R0000v00v23")
instance kB:Qe 11 2 "taken" ["self","letter"] [(11,uz),(12,Oy),(13,zz)]:=.re 11 11 "taken" uz$ .re 11 12 "taken" Oy$ .re 11 13 "taken" zz .nil
abbrev zjt:Stmt:=bj 107
def cQ:Ev->M Fl:=
 (zb (Ug (eT$ Sa Zh (Vc (Mb [7,8,10,11,12,13] "side")$ ja 0)$ eC$ Z 0) (Ui$ Ye 3 Pe []$ Ba (ja 0)$ Ba (Sa ib (ja 1)$ eC$ Z 1)$ Ba (Sa ib (ja 1)$ eC$ Z 2) Ua) Sh)$ zb (Ce 2$ Ng$ Ba (eC$ ϐ "offer")$ Ba (Vc (Mb [10,11,12,13] "pot")$ ja 0)$ Ba (Qd [(10,nh),(11,nh),(12,nh),(13,nh)] 3 "agree_of" (ja 0)$ Ba (eC$ Z 0)$ Ba (ja 1) Ua) Ua)$ Ui$ Ng$ Ba (Sa ib (Qd [(11,uz),(12,Oy),(13,zz)] 2 "taken" (ja 0)$ Ba (ja 2) Ua)$ eC$ Z 0)$ Ba (Ng$ Ba (eC$ ϐ "ask")$ Ba (Vc (Mb [10,11,12,13] "pot")$ ja 0)$ Ba (Sa ib (ja 1)$ eC$ Z 1)$ Ba (Sa ib (ja 1)$ eC$ Z 2) Ua) Ua)
def Mf:g'->M D:=Dd$ dh 3 cQ
def iO:rc ["account","one","offer"] ["account","one"]$ sf zjt:=vt rfl rfl rfl (by decide +kernel)
def T8:Ci ⟨K,ca,tx K⟩ P w mg base 12 "step_to" ["account","one"] Mf:=
 Ci.Dd (xB a.Mf iO λv v v v v v v b=>
  by have c:=iO.nd;exact(Mc (ju (by walk_at "+0") (gi$ Fq$ Wr (OT a) rfl (b.mono$ by decide) rfl$ by walk_at "+011") Wx)$ Mc (dw (i:=2) iO.nd rfl (ϖ rfl)$ bS$ Vp mP$ Vp (by walk_at "+0")$ Vp (HQ (k:=1) (ps:=["self","side","one"]) rfl (Bj 0) (jo.ok a) (b.mono$ by decide)$ by walk_at "+1") Ru)$ by walk_at "+02011"))
instance Yh:ZqF 1 2 "shown_in_time" ["tie","shown"]:=Fc 2 2 0 40 [] (hb:=by exact λb a c=>
 (gi$ Fq$ XF (by walk_at "+i01")$ hH$ Dp OI BH (fP (Fm a) (Bj 1) (by walk_at "+0")$ λv v=>rfl) (by walk_at "+0")$ Gn _))
instance wo:ZqF 2 3 "lot_of_due" ["view","seen","tie"]:=Fc 3 3 1 81 [] (hb:=by walk_at "-a21a02aD20002")
instance im:ZqF 3 3 "lot_of" ["view","pot","tie"]:=Fc 3 3 2 82 [] (hb:=by walk_at "-b21012")
abbrev yF:Ev->M Fl:=(zb (Ce 6$ Ye 3 im []$ Ba (ja 0)$ Ba (ja 1)$ Ba (ja 5) Ua)$ zb (Wq (Ng$ Ba (ja 6)$ Ba (Sa ib (ja 5)$ eC$ Z 1)$ Ba (Sa ib (ja 5)$ eC$ Z 3) Ua) (ja 4)$ Sa ib (ja 5)$ eC$ Z 2)$ Ug (eT$ Vc (aK Ŷ ["won","sure","back"])$ ja 6) (Hw (λa b=>a+b) 3$ Sa ib (ja 5)$ eC$ Z 1) Sh)
def ZU:Ev->M Fl:=
 (zb (Ce 3$ Sa ib (Sa ib (ja 2)$ eC$ Z 1)$ Sa ib (ja 1)$ eC$ Z 0)$ zb (Ce 4 Rp)$ zb (Yj (kh$ Sa ib (ja 2)$ eC$ Z 2) (wc 5) yF)$ Ui$ Ng$ Ba (ja 3)$ Ba (ja 4) Ua)
instance kg:ZqF 4 3 "read_stand" ["view","pot","one"]:=Fc 7 3 3 83 ["firm","lots","tie","lot"] (g:=ZU) (hb:=by exact λa b c=>
 (Mc (by walk_at "+321")$ Mc (by walk_at "+4n")$ Mc (xA zr rfl (by walk_at "+2") (by walk_at "+5")$ Mc (by walk_at "+6015")$ Mc (by walk_at "+m65545")$ gi$ ju (Ģ (ss:=["won","sure","back"]) rfl a.qA$ Bj 6) (by walk_at "+35") Wx)$ by walk_at "+34"))
abbrev U6:Ev->M Fl:=(Vh$ Eu lj (ja 1)$ Ba (cj$ Tk (bp$ kh$ Sa ib (ja 2)$ eC$ Z 1) [0,2] (wc 0) am$ Ye 3 kg []$ Ba (ja 2)$ Ba (ja 3)$ Ba (ja 0) Ua) Ua)
def sY:Ev->M Fl:=
 (zb (Ce 1$ Nr Ua)$ zb (Yj (kh$ Vc (Mb [9,14,16] "pots")$ ja 0) (wc 2) U6)$ Ui$ ja 1)
instance Fi:ZqF 5 1 "read_pots" ["view"]:=Fc 3 1 4 84 ["readings","pot"] (g:=sY) (hb:=by walk_at "-1lf021zc02/10.y202301")
abbrev M2:Ev->M Fl:=(Vh$ Eu Gw (ja 3)$ Ba (cj$ Tk (bp$ Gv$ ak wk$ Ba (ja 2) Ua) [4] (wc 0) am$ Sa lh (ja 2)$ Em$ Ba (ja 0) Ua) Ua)
abbrev LM:Ev->M Fl:=(zb (Ce 3$ Nr Ua)$ zb (Yj (kh$ ja 1) (wc 4) M2)$ Ce 1$ ja 3)
def jU:Ev->M Fl:=
 (zb (Ce 1$ Em$ Ba (Em Ua) Ua)$ zb (Yj (kh$ ja 0) (wc 2) LM)$ Ui$ ja 1)
instance Qf:ZqF 1 1 "all_choices" ["readings"]:=Fc 5 1 0 85 ["choices","stands","longer","chosen"] (g:=jU) (hb:=by walk_at "-1vvf023lf143zc4.y202v0131")
abbrev xW:Ev->M Fl:=(Vh$ Eu lj (AF BA (ja 1)$ Ba (ja 3)$ Ba (Nr Ua) Ua)$ Ba (ja 4) Ua)
abbrev eP:Ev->M Fl:=(rm (EA$ Sa ib (ja 2)$ eC$ Z 1) (Hi 2$ Oe (wc 3)$ Oe (wc 4) Qi) xW)
def aZ:Ev->M Fl:=
 (zb (Ce 1 Rp)$ zb (Yj (kh$ ja 0) (wc 2) eP)$ Ui$ ja 1)
instance Cg:ZqF 1 1 "lots_by_word" ["reads"]:=Fc 5 1 0 87 ["by_word","read","word","lot"] (g:=aZ) (hb:=by exact λa b c=>
 (Mc (by walk_at "+1n")$ Mc (xA zr rfl (kP rfl$ Bj 0) (by walk_at "+2")$ gi$ SA zr rfl (by walk_at "+I2") (by walk_at "+34")$ gi$ Gu$ yO zh xn yn GL jN (wM sd Pl PySem.F.type_dict_setdefault Y4 T1 (Bj 1)$ by walk_at "+3l")$ Vp (Bj 4) Ru)$ by walk_at "+1"))
instance tj:ZqF 1 1 "fates_of" ["lots"]:=Fc 1 1 0 88 [] (hb:=by exact λa b c=>
 (gi$ Fq$ Pt (bJ rfl) Rs (by walk_at "+v")$ xI$ uM (x:="lot") (z0:="0") (M':=[]) (ix:=[]) rfl ⟨rfl,rfl,rfl,rfl,rfl,rfl⟩ (by walk_at "+y0") (λz z z z z=>(by walk_at "+0")) (λz z z z z=>(by walk_at "+0"))$ λz z z z z=>JN))
instance Wf:ZqF 1 3 "comes_by_fate" ["lot","fate","every"]:=Fc 3 3 0 89 [] (hb:=by exact λa b c=>
 (Mc (by walk_at "+b0")$ gi$ Fq$ XF (by walk_at "+0")$ XF (by walk_at "+1")$ hH JN))
instance ve:ZqF 2 3 "sum_by_fate" ["lots","fate","every"]:=Fc 3 3 1 90 [] (hb:=by exact λa b c=>
 (gi$ Fq$ jx (dY rfl) (uV rfl) rfl a.Wy boot_sum$ Vp (xI$ uM (x:="lot") (z0:="0") (M':=["fate","every"]) (ix:=[1,2]) rfl ⟨rfl,rfl,rfl,rfl,rfl,rfl⟩ (by walk_at "+y0") (λv v v v v=>(by walk_at "+0")) (λv v v v v=>(by walk_at "+023"))$ λv v v v v=>JN) Ru))
abbrev i9:Stmt:=bj 91
def IT:Ev->M Fl:=
 (Ui$ fH [0,1] (Ye 3 ve []$ Ba (ja 1)$ Ba (ja 0)$ Ba (ja 2) Ua)$ Ba (Ye 1 tj []$ Ba (ja 0) Ua) Ua)
def Re:g'->M D:=Dd λa=>Oc$ dh 2 IT a
def YW:rc ["lots","every"] ["lots","every"]$ sf i9:=vt rfl rfl rfl (by decide +kernel)
def U4:Ci ⟨K,ca,tx K⟩ P w mg base 5 "least_fate" ["lots","every"] Re:=
 Ci.Dd$ Ci.Oc (dU a.Re YW λv v v v v v c=>
  by have e:=YW.nd;exact(gi$ Fq$ FU (x:="fate") (M':=["lots","every"]) (ix:=[0,1]) (t:=TH K) (k:=2) (c.mono$ by decide) ⟨rfl,rfl,rfl,rfl,rfl,rfl⟩ rfl ⟨(VR K),λd b=>a.eF _ (VR K) d b,rfl,a.tb.hd _ ⋯,rfl,rfl,rfl,a.KW,a.tb.bb⟩ rfl a.Tr rfl rfl rfl (λv v v v v=>rfl) (by walk_at "+0")$ λv v v v v c=>(by walk_at "+102")))
abbrev JP:Ev->M Fl:=(Hw (λa b=>a+b) 4$ Ye 3 ve []$ Ba (ja 6)$ Ba (Sa Dl (ja 2)$ ja 5)$ Ba (ja 3) Ua)
def RV:Ev->M Fl:=
 (zb (Ce 4$ ak NA$ Ba (cj$ Tk (bp$ kh$ ja 0) [] (wc 0) am$ Sa ib (ja 0)$ eC$ Z 0) Ua)$ zb (rm (EA$ ja 1) (Hi 2$ Oe (wc 5)$ Oe (wc 6) Qi) JP)$ Ui$ ja 4)
instance fm:ZqF 3 4 "sum_of" ["reads","by_word","fates","every"]:=Fc 7 4 2 92 ["total","word","lots"] (g:=RV) (hb:=by exact λb a c=>
 (Mc (by walk_at "+4zc.y000")$ Mc (SA zr rfl (CO$ Bj 1) (by walk_at "+56")$ gi$ QT (i:=4) lY c rfl (ϖ rfl)$ Wr (ve.ok b) rfl (a.mono$ by decide) rfl$ Vp (Bj 6)$ Vp (fP (Fm a) (Bj 2) (Bj 5)$ λv v=>rfl)$ Vp (Bj 3) Ru)$ by walk_at "+4"))
abbrev MK:Ev->M Fl:=(Wq (Ye 2 Re []$ Ba (ja 6)$ Ba (ja 2) Ua) (ja 4)$ ja 5)
def n0:Ev->M Fl:=
 (zb (Ce 3$ Ye 1 Cg []$ Ba (ja 0) Ua)$ zb (Ce 4 Rp)$ zb (rm (EA$ ja 3) (Hi 2$ Oe (wc 5)$ Oe (wc 6) Qi) MK)$ Ui$ Ng$ Ba (Ye 4 fm []$ Ba (ja 0)$ Ba (ja 3)$ Ba (ja 4)$ Ba (ja 2) Ua)$ Ba (ja 1)$ Ba (ja 4) Ua)
instance Pf:ZqF 6 3 "least_paper" ["reads","chosen","every"]:=Fc 7 3 5 93 ["by_word","fates","word","lots"] (g:=n0) (hb:=by exact λb a c=>
 (Mc (by walk_at "+30")$ Mc (by walk_at "+4n")$ Mc (SA zr rfl (CO$ Bj 3) (by walk_at "+56")$ gi$ xP (Fm a) (Wr (U4 b) rfl (a.mono$ by decide) rfl$ by walk_at "+62") (Bj 4)$ Bj 5)$ by walk_at "+034214"))
instance De:ZqF 1 2 "chosen_readings" ["readings","chosen"]:=Fc 2 2 0 86 [] (hb:=by walk_at "-zc.010101")
abbrev ň:Stmt:=bj 94
def QS:Ev->M Fl:=
 (zb (Ce 1$ Ye 1 Fi []$ Ba (ja 0) Ua)$ zb (Ce 2$ cj$ Tk (bp$ kh$ Ye 1 Qf []$ Ba (ja 1) Ua) [1,0] (wc 0) am$ Ye 3 Pf []$ Ba (Ye 2 De []$ Ba (ja 2)$ Ba (ja 0) Ua)$ Ba (ja 0)$ Ba (Vc (Mb [14,15,16] "every")$ ja 3) Ua)$ Ui$ fH [] (Sa ib (ja 0)$ eC$ Z 0)$ Ba (ja 2) Ua)
def Pj:g'->M D:=Dd λa=>Oc$ dh 3 QS a
def lV:rc ["view","readings","papers"] ["view"]$ sf ň:=vt rfl rfl rfl (by decide +kernel)
def T3:Ci ⟨K,ca,tx K⟩ P w mg base 7 "paper" ["view"] Pj:=
 Ci.Dd$ Ci.Oc (dU a.Pj lV λv v v v v v c=>
  by have e:=lV.nd;exact(Mc (by walk_at "+10")$ Mc (by walk_at "+q210.y102003")$ gi$ Fq$ FU (x:="told") (M':=[]) (ix:=[]) (t:=SJ K) (k:=0) (c.mono$ by decide) ⟨rfl,rfl,rfl,rfl,rfl,rfl⟩ rfl ⟨(WZ K),λd b=>a.eF _ (WZ K) d b,rfl,a.tb.hd _ ⋯,rfl,rfl,rfl,a.KW,a.tb.bb⟩ rfl a.Tr rfl rfl rfl (λv v v v v=>rfl) (Vp (Bj 2) Ru)$ λv v v v v c=>(by walk_at "+0")))
instance Nj:ZqF 8 1 "worth" ["view"]:=Fc 1 1 7 95 [] (hb:=by exact λa b c=>
 (gi$ Fq$ rN lP (QN rfl) (Wr (T3 a) rfl (b.mono$ by decide) rfl$ Vp (Bj 0) Ru) mF$ λd d=>rfl))
instance Cc:ZqF 2 2 "stands_told" ["account","claim"]:=Fc 2 2 1 101 [] (hb:=by walk_at "-a10b1v10")
def OA:=Ee 5 5 0 54 79 0 [] (hb:=by walk_at "-01020zA30zc.y400zA0C0")
def XB:=be 1 1 0 58 108 3 [] (hb:=by walk_at "-zO0")
instance kA:Qe 1 1 "words" ["self"] [(15,XB)]:=.re 1 15 "words" XB .nil
abbrev qY:Ev->M Fl:=(Vh$ Eu lj (ja 2)$ Ba (Ng$ Ba (Vc (Mb [7,8,10,11,12,13] "side")$ ja 4)$ Ba (Ye 2 Cc []$ Ba (ja 4)$ Ba (Sa Dl (Vc (Mb [9,15] "claims")$ ja 0)$ ja 3) Ua)$ Ba (Sa Dl (Vc (Mb [15] "seen")$ ja 0)$ ja 3) Ua) Ua)
instance:ZqC 14 1 5 "View" ["self","every","look","words","pots"] OA.f:=⟨λa=>⟨_,a.rA,a.Ww,OA.ok a⟩,rfl⟩
def ZX:Ev->M Fl:=
 (zb (Ce 2$ Nr Ua)$ zb (Zt (ja 1)$ rm (Ur$ ja 1) (Hi 2$ Oe (wc 3)$ Oe (wc 4) Qi) qY)$ Ui$ cj$ Yo 14 5 OA$ Ba (Vc (Mb [14,15,16] "every")$ ja 0)$ Ba (Vc (Mb [14,15] "last_look")$ ja 0)$ Ba (Qd [(15,XB)] 1 "words" (ja 0) Ua)$ Ba (ja 2) Ua)
def oC:=be 5 2 2 62 108 7 ["pots","pot","account"] (g:=ZX) (hb:=by walk_at "-2lhFL134244d03d03zR0002")
instance vx:Qe 3 2 "view_by" ["self","accounts"] [(15,oC)]:=.re 3 15 "view_by" oC .nil
def TF:=be 1 1 3 63 108 8 [] (hb:=by walk_at "-00")
instance YC:Qe 4 1 "view" ["self"] [(15,TF)]:=.re 4 15 "view" TF .nil
def px:=be 1 1 8 64 108 9 [] (hb:=by exact λa b c=>
 (gi$ Fq$ Wr (Ci.alias (Nj.ok a) a.Ei) rfl (b.mono$ by decide) rfl$ by walk_at "+0"))
instance DA:Qe 9 1 "worth" ["self"] [(15,px)]:=.re 9 15 "worth" px .nil
def mu:=be 4 3 9 66 108 11 ["accounts"] (hb:=by exact λa b c=>
 (Mc (by walk_at "+3H0")$ Mc (by walk_at "+m131")$ gi$ Fq$ Dp FL MP (Wr (Ci.alias (Nj.ok a) a.Ei) rfl (b.mono$ by decide) rfl$ by walk_at "+03") (by walk_at "+02")$ Gn _))
instance yx:Qe 10 3 "is_good" ["self","account","allowance"] [(15,mu)]:=.re 10 15 "is_good" mu .nil
abbrev vN:Ev->M Fl:=(Ce 3$ Sa ib (ja 2)$ eC$ Z 1)
abbrev jO:Ev->M Fl:=(Ce 4$ Vc (Mb [7,8,10,11,12,13] "side")$ Sa Dl (Vc (Mb [15] "accounts")$ ja 0)$ ja 3)
abbrev DL:Ev->M Fl:=(Ce 5$ Ye 1 Eg []$ Ba (ja 2) Ua)
abbrev KN:Ev->M Fl:=(Ce 6$ Ye 2 Mf []$ Ba (Sa Dl (Vc (Mb [15] "accounts")$ ja 0)$ ja 3)$ Ba (ja 1) Ua)
abbrev tN:Ev->M Fl:=(Ug (Ks$ eT$ Qd [(15,mu)] 3 "is_good" (ja 0)$ Ba (Sa ib (ja 6)$ eC$ Z 0)$ Ba (ja 5) Ua) Xl Sh)
abbrev DO:Ev->M Fl:=(Ug (eT$ Sa Zh (ja 4)$ eC$ Z 0) (zb (Wq (Sa ib (ja 6)$ eC$ Z 0) (Vc (Mb [15] "accounts")$ ja 0)$ ja 3)$ iH [15] "gave" (ja 5)$ ja 0)$ Wq (Ng$ Ba (ja 5)$ Ba (Sa ib (ja 1)$ eC$ Z 1)$ Ba (Sa ib (ja 1)$ eC$ Z 2) Ua) (Vc (Mb [15] "asked")$ ja 0)$ ja 3)
abbrev gM:Ev->M Fl:=(Ug (eT$ Sa Zh (Sa ib (ja 2)$ eC$ Z 0)$ eC$ ϐ "settle") Xl Sh)
abbrev oN:Ev->M Fl:=(Ui$ Ng$ Ba (eC$ ϒ A3)$ Ba (Em$ Ba (Sa ib (ja 6)$ eC$ Z 1) Ua) Ua)
def AM:Ev->M Fl:=
 (zb vN$ zb jO$ zb DL$ zb KN$ zb tN$ zb DO$ zb gM oN)
def UA:=Ee 7 3 12 69 108 14 ["pot","side","allowance","step"] (g:=AM) (hb:=by exact λa b c=>
 (Mc (by walk_at "+32")$ Mc (by walk_at "+4d03")$ Mc (by walk_at "+52")$ Mc (dw (i:=6) c rfl (ϖ rfl)$ Wr (T8 a) rfl (b.mono$ by decide) rfl$ by walk_at "+d031")$ Mc (by walk_at "+b065")$ Mc (ju (by walk_at "+4") (Mc (by walk_at "+m603")$ gi$ ZL rfl (fO a) (Bj 0)$ Bj 5)$ by walk_at "+m51103")$ by walk_at "+b2v6"))
instance xw:Qe 13 3 "wish_for" ["self","one","wish"] [(15,UA)]:=.re 13 15 "wish_for" UA .nil
abbrev BS:Ev->M Fl:=(Ug (Ks$ eT$ Qd [(15,Qy)] 2 "holds" (ja 0)$ Ba (Sa ib (ja 1)$ eC$ Z 1) Ua) Xl Sh)
abbrev fW:Ev->M Fl:=(Ug (eT$ Sa Zh (Sa ib (ja 1)$ eC$ Z 0)$ eC$ ϐ "finish") Xl Sh)
abbrev WX:Ev->M Fl:=(Ce 2$ Sa Dl (Vc (Mb [15] "accounts")$ ja 0)$ Sa ib (ja 1)$ eC$ Z 1)
abbrev sR:Ev->M Fl:=(Ug (eT$ Sa rh (Qd [(11,Dq),(12,Fv),(13,Lz)] 1 "word" (ja 2) Ua)$ eC$ ϐ "calm") Xl Sh)
abbrev GZ:Ev->M Fl:=(NH (Ce 3$ Ye 3 Ag []$ Ba (ja 2)$ Ba (ja 1)$ Ba (Vc (Mb [14,15] "known")$ ja 0) Ua) [])
abbrev YZ:Ev->M Fl:=(Ui$ Qd [(15,UA)] 3 "wish_for" (ja 0)$ Ba (ja 3)$ Ba (ja 1) Ua)
def NZ:Ev->M Fl:=
 (zb BS$ zb fW$ zb WX$ zb sR$ zb GZ YZ)
def RA:=Ee 4 2 13 68 108 13 ["account","one"] (g:=NZ) (hb:=by exact λb c d=>
 (Mc (by walk_at "+b01")$ Mc (by walk_at "+b1")$ Mc (by walk_at "+2d01")$ Mc (by walk_at "+b2")$ Mc (vU rfl rfl (λv v a=>(by walk_at "+3210")) .nil)$ by walk_at "+031"))
instance zC:Qe 14 2 "wish" ["self","wish"] [(15,RA)]:=.re 14 15 "wish" RA .nil
instance ff:ZqF 1 1 "things_in" ["letter"]:=Fc 1 1 0 68 [] (hb:=by walk_at "-a0vb0zA0")
abbrev SO:Ev->M Fl:=(jI (eC$ ϒ A3) (Vc (Mb [16] "things")$ ja 0)$ ja 2)
def TW:Ev->M Fl:=
 (Yj (kh$ Ye 1 ff []$ Ba (ja 1) Ua) (wc 2) SO)
def GD:=Ee 3 2 1 89 111 10 ["thing"] (g:=TW) (hb:=by walk_at "-f12T02")
instance ev:Qe 2 2 "tell_band" ["self","letter"] [(16,GD)]:=.re 2 16 "tell_band" GD .nil
abbrev C2:Ev->M Fl:=(zb (Ce 4$ wB (Sa ib (Vc (Mb [9,14,16] "pots")$ ja 0)$ Sa ib (ja 3)$ eC$ Z 1) L6$ BD$ eC$ Z 2)$ zb (Ce 5$ uw (eT$ Sa Zh (Sa ib (ja 4)$ eC$ Z 0)$ ja 1) (Sa ib (ja 4)$ eC$ Z 1)$ Sa ib (ja 4)$ eC$ Z 0)$ Ug (eT$ Sa tq (ja 5)$ Vc (Mb [16] "keepers")$ ja 0) Xl$ Vh$ Qd [(16,GD)] 2 "tell_band" (ja 0)$ Ba (ja 3) Ua)
def FN:Ev->M Fl:=
 (Yj (kh$ ja 2) (wc 3) C2)
def Qp:=Ee 6 3 2 88 111 9 ["letter","hands","to"] (g:=FN) (hb:=by walk_at "-f234x0354144bi5003")
instance HC:Qe 3 3 "send" ["self","sender","letters"] [(16,Qp)]:=.re 3 16 "send" Qp .nil
def Vz:=Ee 4 3 14 91 111 12 ["told"] (hb:=by walk_at "-30120133")
instance (priority:=1001) mo23_wish:Qe 15 3 "wish" ["self","hand","wish"] [(16,Vz)]:=.re 15 16 "wish" Vz .nil
def rB:=be 2 2 2 84 111 5 [] (hb:=by walk_at "-10")
instance Zx:Qe 3 2 "has_pot" ["self","pot"] [(16,rB)]:=.re 3 16 "has_pot" rB .nil
def GE:=be 2 2 3 95 111 16 [] (hb:=by walk_at "-b01zc0.yx010i020")
instance vr:Qe 4 2 "keeping_hands" ["self","pot"] [(16,GE)]:=.re 4 16 "keeping_hands" GE .nil
def Hx:=be 3 3 3 85 111 6 [] (hb:=by walk_at "-012jx0120")
instance Bp:Qe 4 3 "is_side_of_band" ["self","pot","side"] [(16,Hx)]:=.re 4 16 "is_side_of_band" Hx .nil
def Kw:=be 2 2 4 87 111 8 [] (hb:=by walk_at "-at10b1011")
instance Jw:Qe 5 2 "band_can" ["self","thing"] [(16,Kw)]:=.re 5 16 "band_can" Kw .nil
abbrev GO:Ev->M Fl:=(NH (Ce 2$ Ye 3 Pe []$ Ba (Sa Dl (Vc (Mb [15] "accounts")$ ja 0)$ Sa ib (ja 1)$ eC$ Z 1)$ Ba (Sa ib (ja 1)$ eC$ Z 2)$ Ba (Sa ib (ja 1)$ eC$ Z 3) Ua)$ ⟨(sy [(1,A3),(2,A3)]),L6,(Ui$ Em Ua)⟩::[])
abbrev vQ:Ev->M Fl:=(Ug (Ks$ eT$ Qd [(15,mu)] 3 "is_good" (ja 0)$ Ba (Sa ib (ja 2)$ eC$ Z 0)$ Ba (eC$ Z 0) Ua) Xl Sh)
abbrev zN:Ev->M Fl:=(Wq (Sa ib (ja 2)$ eC$ Z 0) (Vc (Mb [15] "accounts")$ ja 0)$ Sa ib (ja 1)$ eC$ Z 1)
abbrev sQ:Ev->M Fl:=(Ui$ Em$ Ba (Sa ib (ja 2)$ eC$ Z 1) Ua)
def zP:Ev->M Fl:=
 (zb GO$ zb vQ$ zb zN sQ)
def Zz:=Ee 3 2 10 71 108 16 ["step"] (g:=zP) (hb:=by exact λa c d=>
 (Mc (vU rfl rfl (λz z b=>(gi$ dw (i:=2) d rfl (ϖ rfl)$ Wr (OT a) rfl (c.mono$ by decide) rfl$ by walk_at "+d0111"))$ .Jy rfl ⋯ (ϖ a.Np) rfl ⋯ (ϖ a.Ws) (ζ$ EV a.rk a.Hj$ EV a.yl a.Ck ņ) (λz=>(by walk_at "+v")) .nil)$ by walk_at "+b02m201v2"))
instance gw:Qe 11 2 "take_ask" ["self","letter"] [(15,Zz)]:=.re 11 15 "take_ask" Zz .nil
def Au:=be 2 2 0 72 108 17 [] (hb:=by walk_at "-a1j101d01")
instance Zs:Qe 1 2 "is_as_asked" ["self","letter"] [(15,Au)]:=.re 1 15 "is_as_asked" Au .nil
abbrev jP:Ev->M Fl:=(Ce 2$ Sa ib (ja 1)$ eC$ Z 1)
abbrev WM:Ev->M Fl:=(Ce 3$ Qd [(11,uz),(12,Oy),(13,zz)] 2 "taken" (Sa Dl (Vc (Mb [15] "accounts")$ ja 0)$ ja 2)$ Ba (ja 1) Ua)
abbrev iQ:Ev->M Fl:=(Ce 4$ Qd [(15,Au)] 2 "is_as_asked" (ja 0)$ Ba (ja 1) Ua)
abbrev uN:Ev->M Fl:=(Ce 5$ uw (eT$ ja 4) (Sa ib (Sa Dl (Vc (Mb [15] "asked")$ ja 0)$ ja 2)$ eC$ Z 0)$ eC$ Z 0)
abbrev QK:Ev->M Fl:=(Ug (Ks$ eT$ Qd [(15,mu)] 3 "is_good" (ja 0)$ Ba (Sa ib (ja 3)$ eC$ Z 0)$ Ba (ja 5) Ua) Xl Sh)
abbrev BL:Ev->M Fl:=(Wq (Sa ib (ja 3)$ eC$ Z 0) (Vc (Mb [15] "accounts")$ ja 0)$ ja 2)
abbrev ON:Ev->M Fl:=(Ug (eT$ ja 4) (zb (Vh$ AF AA (Vc (Mb [15] "asked")$ ja 0)$ Ba (ja 2) Ua)$ iH [15] "gave" (ja 5)$ ja 0) Sh)
abbrev YK:Ev->M Fl:=(Ui$ uw (eT$ Sa Ys (Sa ib (ja 3)$ eC$ Z 1)$ eC Ϛ) (Em Ua)$ Em$ Ba (Sa ib (ja 3)$ eC$ Z 1) Ua)
def KM:Ev->M Fl:=
 (zb jP$ zb WM$ xE [(13,11),(11,13),(11,12)] [11,12,13] (Sa ib (ja 3)$ eC$ Z 0) (Sa Dl (Vc (Mb [15] "accounts")$ ja 0)$ ja 2) Xl$ zb iQ$ zb uN$ zb QK$ zb BL$ zb ON YK)
def bB:=Ee 6 2 11 73 108 18 ["pot","step","as_asked","allowance"] (g:=KM) (hb:=by exact λa b c=>
 (Mc (by walk_at "+21")$ Mc (by walk_at "+3d021")$ w6 (Fm b) (IK a.yi a.Oj a.Ll a.Kl$ IK a.Oj a.yi a.zl a.Bl$ IK a.Oj a.Zk a.Hl a.nl Č) (TL a.Oj$ TL a.Zk$ TL a.yi yd4) rfl (by walk_at "+3") (by walk_at "+d02") Qu$ Mc (by walk_at "+401")$ Mc (by walk_at "+54d02")$ Mc (by walk_at "+b035")$ Mc (by walk_at "+m302")$ Mc (ju (JO$ Bj 4) (Mc (Gu$ wM sd pp PySem.F.type_dict_pop g6 zqw (by walk_at "+0")$ Vp (Bj 2) Ru)$ gi$ ZL rfl (fO a) (Bj 0)$ Bj 5) Wx)$ by walk_at "+3vv3"))
instance Xu:Qe 12 2 "take_step" ["self","letter"] [(15,bB)]:=.re 12 15 "take_step" bB .nil
def As:=Ee 2 2 12 70 108 15 [] (hb:=by walk_at "-b1b1b01a10101")
instance SC:Qe 13 2 "take" ["self","letter"] [(15,As)]:=.re 13 15 "take" As .nil
def SE:=Ee 3 3 13 90 111 11 [] (hb:=by walk_at "-01d012")
instance Iu:Qe 14 3 "hand_over" ["self","to","letter"] [(16,SE)]:=.re 14 16 "hand_over" SE .nil
def rq:=Ee 3 2 14 96 111 17 ["keeping"] (hb:=by walk_at "-b1201b2bzc0.y1020021")
instance wC:Qe 15 2 "band" ["self","letter"] [(16,rq)]:=.re 15 16 "band" rq .nil
abbrev rV:Ev->M Fl:=(zb (Vh$ Qd [(16,rq)] 2 "band" (ja 0)$ Ba (Ng$ Ba (eC$ ϐ "offer")$ Ba (eC$ Z 0)$ Ba (Ng$ Ba (eC$ ϐ "agree")$ Ba (eC$ Z 0)$ Ba (eC$ Z 0)$ Ba (ja 2) Ua) Ua) Ua)$ Vh$ Qd [(16,rq)] 2 "band" (ja 0)$ Ba (Ng$ Ba (eC$ ϐ "struck")$ Ba (eC$ Z 0)$ Ba (Ng$ Ba (eC$ ϐ "strike")$ Ba (eC$ Z 0)$ Ba (eC$ Z 0)$ Ba (ja 3) Ua) Ua) Ua)
abbrev lZ:Ev->M Fl:=(zb (Vh$ Qd [(16,rq)] 2 "band" (ja 0)$ Ba (Ng$ Ba (eC$ ϐ "ask")$ Ba (eC$ Z 0)$ Ba (Sa ib (ja 2)$ eC$ Z 1)$ Ba (Sa ib (ja 2)$ eC$ Z 2) Ua) Ua)$ Vh$ Qd [(16,rq)] 2 "band" (ja 0)$ Ba (Ng$ Ba (eC$ ϐ "accept")$ Ba (eC$ Z 0)$ Ba (Ng$ Ba (eC$ ϐ "agree")$ Ba (eC$ Z 0)$ Ba (eC$ Z 1)$ Ba (ja 2) Ua)$ Ba (Ng$ Ba (eC$ ϐ "strike")$ Ba (eC$ Z 0)$ Ba (eC$ Z 1)$ Ba (ja 3) Ua) Ua) Ua)
abbrev T9:Stmt:=bj 115
def RO:Ev->M Fl:=
 (Ug (eT$ Sa Zh (ja 1)$ eC$ Z 1) rV lZ)
def Rc:g'->M D:=Dd$ dh 4 RO
def IR:rc ["_law_hall","_law_side","_law_new_here","_law_number"] ["_law_hall","_law_side","_law_new_here","_law_number"]$ sf T9:=vt rfl rfl rfl (by decide +kernel)
def uT:Ci ⟨K,ca,tx K⟩ P w mg base 16 "_law_come" ["_law_hall","_law_side","_law_new_here","_law_number"] Rc:=
 Ci.Dd (xB a.Rc IR λv v v v v v v b=>
  by have:=IR.nd;walk_at "+a10203022023")
abbrev ywk:Ev->M Fl:=(Ce 4$ Sa lh (eC$ Z 1)$ Sa km (Sa au (ja 3)$ eC$ Z 4)$ ak GF$ Ba (eC$ Z 1)$ Ba (Sa ib (Sa ib (ja 2)$ eC$ Z 1)$ ja 1) Ua)
abbrev Ĥ:Ev->M Fl:=(Ce 4$ ak eB$ Ba (ja 4)$ Ba (Sa ib (Sa ib (ja 2)$ eC$ Z 1)$ ja 1)$ Ba (Sa Sy (eC$ Z 10)$ eC$ Z 12) Ua)
abbrev LN:Ev->M Fl:=(Vh$ Qd [(16,Vz)] 3 "wish" (ja 0)$ Ba (eC$ Z 1)$ Ba (Ng$ Ba (eC$ ϐ "give")$ Ba (eC$ Z 0)$ Ba (ja 4) Ua) Ua)
abbrev GK:Ev->M Fl:=(Ce 5$ Nr$ Ba (Sa ib (Sa ib (ja 2)$ eC$ Z 1)$ eC$ Z 0)$ Ba (Sa ib (Sa ib (ja 2)$ eC$ Z 1)$ eC$ Z 1) Ua)
abbrev bQ:Ev->M Fl:=(bx (Sa Op (Sa ib (ja 5)$ ja 1)$ ja 4) (ja 5)$ ja 1)
abbrev VO:Ev->M Fl:=(bx (Sa lh (Sa ib (ja 5)$ Sa Op (eC$ Z 1)$ ja 1)$ ja 4) (ja 5)$ Sa Op (eC$ Z 1)$ ja 1)
abbrev gP:Ev->M Fl:=(Vh$ Ye 4 Rc []$ Ba (ja 0)$ Ba (ja 1)$ Ba (Ng$ Ba (Sa lh (Sa ib (ja 2)$ eC$ Z 0)$ eC$ Z 1)$ Ba (ak oA$ Ba (ja 5) Ua)$ Ba (Sa ib (ja 2)$ eC$ Z 2) Ua)$ Ba (Sa ib (ja 2)$ eC$ Z 0) Ua)
abbrev zep:Stmt:=bj 116
def kI:Ev->M Fl:=
 (zb ywk$ zb Ĥ$ Ug (eT$ Sa EG (ja 4)$ eC$ Z 0) (zb LN$ zb GK$ zb bQ$ zb VO gP) Sh)
def Wd:g'->M D:=Dd$ dh 6 kI
def UH:rc ["_law_hall","_law_side","_law_one","_law_cell","_law_amount","_law_split"] ["_law_hall","_law_side","_law_one","_law_cell"]$ sf zep:=vt rfl rfl rfl (by decide +kernel)
def zdh:Ci ⟨K,ca,tx K⟩ P w mg base 17 "_law_gift" ["_law_hall","_law_side","_law_one","_law_cell"] Wd:=
 Ci.Dd (xB a.Wd UH λv v v v v v v b=>
  by have c:=UH.nd;exact(Mc (dw (i:=4) UH.nd rfl (ϖ rfl)$ Pt (bJ rfl) Rs mF$ Pt CK yN (by walk_at "+3")$ jx (VZ rfl) rX rfl a.Gy boot_max$ by walk_at "+21")$ Mc (dw (i:=4) UH.nd rfl (ϖ rfl)$ jx (fU rfl) PV rfl a.Tr boot_min$ by walk_at "+421")$ gi$ ju (by walk_at "+4") (Mc (by walk_at "+04")$ Mc (by walk_at "+5l22")$ Mc (by walk_at "+M51451")$ Mc (by walk_at "+M51451")$ gi$ Gu$ Wr (uT a) rfl (b.mono$ by decide) rfl$ by walk_at "+012B522") Wx))
abbrev IH:Ev->M Fl:=(SQ (ja 0)$ Hi 3$ Oe (wc 3)$ Oe (wc 4)$ Oe (wc 5) Qi)
abbrev PH:Ev->M Fl:=(Ce 4$ ak Zo$ Ba (ja 4) Ua)
abbrev DI:Ev->M Fl:=(Ce 6$ Sa km (Sa au (ja 2)$ eC$ Z 4)$ eC$ Z 30)
abbrev iI:Ev->M Fl:=(Ce 7$ Sa lh (eC$ Z 1)$ Sa km (Sa au (ja 2)$ eC$ Z 120)$ ak GF$ Ba (eC$ Z 1)$ Ba (Sa ib (ja 4)$ Sa Op (eC$ Z 1)$ ja 1) Ua)
abbrev pJ:Ev->M Fl:=(Ce 7$ ak eB$ Ba (ja 7)$ Ba (Sa ib (ja 4)$ Sa Op (eC$ Z 1)$ ja 1)$ Ba (Sa Sy (eC$ Z 10)$ eC$ Z 12) Ua)
abbrev nJ:Ev->M Fl:=(Ug (Pq (eT$ Sa Zh (Sa km (ja 2)$ eC$ Z 4)$ eC$ Z 0)$ eT$ Sa rh (ja 5)$ Ng Ua) (zb (bx (Sa lh (Sa ib (ja 4)$ ja 1)$ Sa ib (Sa ib (ja 5)$ Vc GH$ eC$ Z 1)$ eC$ Z 1) (ja 4)$ ja 1)$ Ce 5$ wB (ja 5) L6$ BD$ Vc GH$ eC$ Z 1)$ Ug (Pq (eT$ Sa oLt (Sa km (ja 2)$ eC$ Z 4)$ eC$ Z 3)$ Pq (eT$ Sa EG (ja 7)$ eC$ Z 0)$ Pq (eT$ Sa oLt (ak wk$ Ba (ja 5) Ua)$ eC$ Z 6)$ eT$ Sa (ay A3) (ja 6)$ cj$ Tk (bp$ kh$ ja 5) [] (wc 0) am$ Sa ib (ja 0)$ eC$ Z 2) (zb (bx (Sa Op (Sa ib (ja 4)$ Sa Op (eC$ Z 1)$ ja 1)$ ja 7) (ja 4)$ Sa Op (eC$ Z 1)$ ja 1)$ Ce 5$ Sa lh (ja 5)$ Ng$ Ba (Ng$ Ba (Sa Op (eC$ Z 1)$ ja 1)$ Ba (ja 7)$ Ba (ja 6)$ Ba (Sa km (Sa au (ja 2)$ eC$ Z 7)$ eC$ Z 200) Ua) Ua)$ zb (bx (Sa Op (Sa ib (ja 4)$ Sa Op (eC$ Z 1)$ ja 1)$ ja 7) (ja 4)$ Sa Op (eC$ Z 1)$ ja 1)$ bx (Sa lh (Sa ib (ja 4)$ ja 1)$ ja 7) (ja 4)$ ja 1)
abbrev WI:Ev->M Fl:=(Ui$ Ng$ Ba (Sa lh (ja 3)$ eC$ Z 1)$ Ba (ak oA$ Ba (ja 4) Ua)$ Ba (ja 5) Ua)
def FH:Ev->M Fl:=
 (zb IH$ zb PH$ zb DI$ zb iI$ zb pJ$ zb nJ WI)
instance Bg:ZqF 1 3 "_law_new" ["_law_one","_law_side","_law_cell"]:=Fc 8 3 0 114 ["_law_number","_law_split","_law_ties","_law_word","_law_amount"] (g:=FH) (hb:=by exact λa c b=>
 (Mc (O3 (Bj 0)$ by walk_at "+345")$ Mc (by walk_at "+4A4")$ Mc (by walk_at "+62")$ Mc (dw (i:=7) b rfl (ϖ rfl)$ Pt (bJ rfl) Rs mF$ Pt CK yN (by walk_at "+2")$ jx (VZ rfl) rX rfl a.Gy boot_max$ by walk_at "+41")$ Mc (dw (i:=7) b rfl (ϖ rfl)$ jx (fU rfl) PV rfl a.Tr boot_min$ by walk_at "+741")$ by walk_at "+a25M4154155a275S6zc.y500M41741551762M41741M417413B45"))
def Iy:=be 1 1 0 32 62 2 [] (hb:=by walk_at "-0")
instance KA:Qe 1 1 "today" ["self"] [(9,Iy)]:=.re 1 9 "today" Iy .nil
def JC:=be 1 1 0 59 108 4 [] (hb:=by walk_at "-0")
instance Ky:Qe 1 1 "looked" ["self"] [(15,JC)]:=.re 1 15 "looked" JC .nil
def bv:=be 2 2 2 31 62 1 [] (hb:=by walk_at "-b10")
instance Lu:Qe 3 2 "check_pot" ["self","pot"] [(9,bv)]:=.re 3 9 "check_pot" bv .nil
def JE:=be 1 1 0 18 51 0 []
def oJ:=be 1 1 0 22 52 1 [] (hb:=by walk_at "-000")
def NI:=be 1 1 0 27 53 1 [] (hb:=by walk_at "-0")
instance jD:Qe 1 1 "told" ["self"] [(6,JE),(7,oJ),(8,NI)]:=.re 1 6 "told" JE$ .re 1 7 "told" oJ$ .re 1 8 "told" NI .nil
def Jn:=be 2 2 3 38 62 8 [] (hb:=by walk_at "-01x01")
instance (priority:=1001) mo38_told:Qe 4 2 "told" ["self","pot"] [(9,Jn)]:=.re 4 9 "told" Jn .nil
def fD:=Ee 2 2 3 39 62 9 [] (hb:=by walk_at "-01Hx01")
instance Vu:Qe 4 2 "shown_for" ["self","pot"] [(9,fD)]:=.re 4 9 "shown_for" fD .nil
abbrev oP:Ev->M Fl:=(Vh$ AF Yz (ja 1)$ Ba (ja 2) Ua)
def wT:Ev->M Fl:=
 (zb (Ce 1 Rp)$ zb (Yj (kh$ Vc (Mb [9] "shown")$ ja 0) (wc 2) oP)$ Ui$ cj$ ak Ux$ Ba (ja 1) Ua)
def dA:=be 3 1 0 43 62 13 ["words","shown"] (g:=wT) (hb:=by exact λa b c=>
 (Mc (by walk_at "+1n")$ Mc (xA zr rfl (by walk_at "+0") (by walk_at "+2")$ gi$ Gu$ wM sd rn PySem.F.type_dict_update Ų ġ (Bj 1)$ Vp (Bj 2) Ru)$ by walk_at "+zO1"))
instance Iv:Qe 1 1 "all_shown" ["self"] [(9,dA)]:=.re 1 9 "all_shown" dA .nil
instance Xe:ZqF 1 2 "is_given_up" ["account","claim"]:=Fc 2 2 0 103 [] (hb:=by walk_at "-110D10")
instance uf:ZqF 4 1 "check_side" ["side"]:=Fc 1 1 3 61 [] (hb:=by walk_at "-b0")
def IM:=be 5 5 0 20 51 2 [] (hb:=by exact λa b c=>
 Qu)
def qC:=be 2 2 0 23 52 2 [] (hb:=by walk_at "-100")
instance lA:Qe 1 2 "waits" ["self","day"] [(7,qC)]:=.re 1 7 "waits" qC .nil
def lC:=be 5 5 7 25 52 4 [] (hb:=by walk_at "-b20034410x0")
def uQ:=be 5 5 0 29 53 3 [] (hb:=by exact λa b c=>
 Qu)
instance Ut:Qe 8 5 "may_strike" ["self","pot","side","day","thing"] [(6,IM),(7,lC),(8,uQ)]:=.re 8 6 "may_strike" IM$ .re 8 7 "may_strike" lC$ .re 8 8 "may_strike" uQ .nil
def uB:=Ee 3 3 2 26 53 0 [] (hb:=by exact λa b d=>
 (Mc (Gu$ JW (c:=5) ⟨a.Xr,a.Yg,_,_,a.Rg,a.Xg,a.Tg,(cy.ok a)⟩ rfl (b.mono$ by decide) rfl$ by walk_at "+01")$ by walk_at "+02"))
instance:ZqC 8 3 3 "Taken" ["self","whole","side"] uB.f:=⟨λa=>⟨_,a.jy,a.Yu,uB.ok a⟩,rfl⟩
def uD:=Ee 4 4 8 37 62 7 [] (hb:=by walk_at "-012bx011203MzRx01201")
instance oz:Qe 9 4 "strike" ["self","pot","side","thing"] [(9,uD)]:=.re 9 9 "strike" uD .nil
instance (priority:=1003) mo44_strike_of:Qe 1 3 "strike_of" ["self","side","one"] [(10,ii),(11,ii),(12,ii),(13,ii)]:=.re 1 10 "strike_of" ii$ .re 1 11 "strike_of" ii$ .re 1 12 "strike_of" ii$ .re 1 13 "strike_of" ii .nil
abbrev SX:Ev->M Fl:=(zb (Ce 6$ Sa Dl (Vc (Mb [9,15] "claims")$ ja 0)$ ja 4)$ Ug (Pq (eT$ Ye 2 Xe []$ Ba (ja 5)$ Ba (ja 6) Ua)$ eT$ Sa oLt (Vc (Mb [14,15] "last_look")$ ja 0)$ Sa lh (Sa ib (ja 6)$ eC$ Z 3)$ Sa ib (ja 3)$ ja 4) (zb (Vh$ Qd [(9,uD)] 4 "strike" (ja 1)$ Ba (ja 4)$ Ba (Vc (Mb [7,8,10,11,12,13] "side")$ ja 5)$ Ba (Qd [(10,ii),(11,ii),(12,ii),(13,ii)] 3 "strike_of" (ja 5)$ Ba (Sa ib (ja 6)$ eC$ Z 1)$ Ba (Sa ib (ja 6)$ eC$ Z 2) Ua) Ua)$ zb (Wq (Ng$ Ba (eC$ ϐ "taken")$ Ba (Vc (Mb [7,8,10,11,12,13] "side")$ ja 5) Ua) (Vc (Mb [9,15] "claims")$ ja 0)$ ja 4)$ Vh$ Eu lj (ja 2)$ Ba (Ng$ Ba (eC$ ϐ "strike")$ Ba (ja 4) Ua) Ua) Sh)
def TV:Ev->M Fl:=
 (zb (Ce 2$ Nr Ua)$ zb (Ce 3$ cj$ Tk (bp$ kh$ Qd [(9,Tt)] 1 "made_of" (ja 1) Ua) [] (wc 0) am$ Sa ib (ja 0)$ eC$ Z 4)$ zb (Zt (Vc (Mb [15] "accounts")$ ja 0)$ rm (Ur$ Vc (Mb [15] "accounts")$ ja 0) (Hi 2$ Oe (wc 4)$ Oe (wc 5) Qi) SX)$ Ui$ ja 2)
def Uw:=Ee 7 2 9 75 108 20 ["deeds","waits","pot","account","claim"] (g:=TV) (hb:=by walk_at "-2lq3.y100hFL0456d04a560634145566m504242")
instance ou:Qe 10 2 "strike_all" ["self","book"] [(15,Uw)]:=.re 10 15 "strike_all" Uw .nil
abbrev E7:Ev->M Fl:=(Vh$ Eu Gw (ja 2)$ Ba (cj$ Tk (bp$ kh$ Sa ib (ja 3)$ eC$ Z 2) [0] (wc 0) (eT$ Sa rh (Sa ib (ja 0)$ eC$ Z 0)$ Vc (Mb [7,8,10,11,12,13] "side")$ ja 2)$ ja 0) Ua)
def JS:Ev->M Fl:=
 (zb (Ce 2$ Nr Ua)$ zb (Yj (kh$ Ye 2 Cc []$ Ba (ja 0)$ Ba (ja 1) Ua) (wc 3) E7)$ Ui$ ja 2)
instance vk:ZqF 3 2 "ties_to" ["account","claim"]:=Fc 4 2 2 102 ["ties","one"] (g:=JS) (hb:=by walk_at "-2lf0132zc0.y300202")
def rC:=be 3 3 0 76 108 21 [] (hb:=by walk_at "-aj20i2d010200")
instance ku:Qe 1 3 "is_to_show" ["self","pot","tie"] [(15,rC)]:=.re 1 15 "is_to_show" rC .nil
def Uy:=Ee 3 3 3 34 62 4 [] (hb:=by walk_at "-01b2aj2x01m0x012")
instance TC:Qe 4 3 "show" ["self","pot","word"] [(9,Uy)]:=.re 4 9 "show" Uy .nil
abbrev QJ:Ev->M Fl:=(Ug (eT$ Qd [(15,rC)] 3 "is_to_show" (ja 0)$ Ba (ja 3)$ Ba (ja 5) Ua) (zb (Vh$ Qd [(9,Uy)] 3 "show" (ja 1)$ Ba (ja 3)$ Ba (Sa ib (ja 5)$ eC$ Z 2) Ua)$ zb (Wq (Vc (Mb [14,15] "last_look")$ ja 0) (Sa Dl (Vc (Mb [15] "seen")$ ja 0)$ ja 3)$ Sa ib (ja 5)$ eC$ Z 2)$ Vh$ Eu lj (ja 2)$ Ba (Ng$ Ba (eC$ ϐ "show")$ Ba (ja 3)$ Ba (Sa ib (ja 5)$ eC$ Z 2) Ua) Ua) Sh)
abbrev xX:Ev->M Fl:=(Yj (kh$ Ye 2 vk []$ Ba (ja 4)$ Ba (Sa Dl (Vc (Mb [9,15] "claims")$ ja 0)$ ja 3) Ua) (wc 5) QJ)
def JT:Ev->M Fl:=
 (zb (Ce 2$ Nr Ua)$ zb (Zt (Vc (Mb [15] "accounts")$ ja 0)$ rm (Ur$ Vc (Mb [15] "accounts")$ ja 0) (Hi 2$ Oe (wc 3)$ Oe (wc 4) Qi) xX)$ Ui$ ja 2)
def mD:=Ee 6 2 4 77 108 22 ["deeds","pot","account","tie"] (g:=JT) (hb:=by walk_at "-2lhFL034f4d035a035135m0d0352352")
instance fw:Qe 5 2 "show_all" ["self","book"] [(15,mD)]:=.re 5 15 "show_all" mD .nil
abbrev XT:Ev->M Fl:=(Ug (Pq (eT$ Sa tq (ja 3)$ Vc (Mb [15] "finishing")$ ja 0) BV) Xl Sh)
def BX:Ev->M Fl:=
 (zb (Ce 2$ Nr Ua)$ zb (Zt (Vc (Mb [15] "accounts")$ ja 0)$ rm (Ur$ Vc (Mb [15] "accounts")$ ja 0) (Hi 2$ Oe (wc 3)$ Oe (wc 4) Qi) XT)$ Ui$ ja 2)
def HD:=Ee 5 2 0 78 108 23 ["deeds","pot","account"] (g:=BX) (hb:=by exact λa b c=>
 (Mc (by walk_at "+2l")$ Mc (TQ$ SA zr rfl (by walk_at "+L0") (by walk_at "+34")$ gi$ ju (L2.PW.pt$ YY (by walk_at "+i30")$ EZ A8) Qu Wx)$ by walk_at "+2"))
instance xx:Qe 1 2 "lay_all" ["self","book"] [(15,HD)]:=.re 1 15 "lay_all" HD .nil
abbrev XU:Ev->M Fl:=(zb (Wq (Qd [(9,Jn)] 2 "told" (ja 1)$ Ba (ja 2) Ua) (Vc (Mb [9,15] "claims")$ ja 0)$ ja 2)$ Wq (Qd [(9,fD)] 2 "shown_for" (ja 1)$ Ba (ja 2) Ua) (Vc (Mb [15] "seen")$ ja 0)$ ja 2)
abbrev QE:Ev->M Fl:=(Uk [14,15] "last_look" (Qd [(9,Iy)] 1 "today" (ja 1) Ua)$ ja 0)
abbrev oF:Ev->M Fl:=(Zt (Vc (Mb [15] "accounts")$ ja 0)$ rm (hJ$ Vc (Mb [15] "accounts")$ ja 0) (wc 2) XU)
abbrev aJ:Ev->M Fl:=(Vh$ Qd [(15,Su)] 2 "learn" (ja 0)$ Ba (Qd [(9,dA)] 1 "all_shown" (ja 1) Ua) Ua)
abbrev kM:Ev->M Fl:=(Ui$ Sa wG (Sa lh (Qd [(15,Uw)] 2 "strike_all" (ja 0)$ Ba (ja 1) Ua)$ Qd [(15,mD)] 2 "show_all" (ja 0)$ Ba (ja 1) Ua)$ Qd [(15,HD)] 2 "lay_all" (ja 0)$ Ba (ja 1) Ua)
def PR:Ev->M Fl:=
 (zb QE$ zb oF$ zb aJ kM)
def vB:=Ee 3 2 10 74 108 19 ["pot"] (g:=PR) (hb:=by exact λa b c=>
 (Mc (by walk_at "+01")$ Mc (by walk_at "+hFK02m1202m1202")$ Mc (by walk_at "+01")$ gi$ Fq$ Pt ş Rs (by walk_at "+0101")$ by walk_at "+01"))
instance YB:Qe 11 2 "look" ["self","book"] [(15,vB)]:=.re 11 15 "look" vB .nil
def vC:=Ee 1 1 0 33 62 3 [] (hb:=by exact λa b c=>
 (gi$ ZL rfl (fO a) (Bj 0) mF))
instance aw:Qe 1 1 "next_day" ["self"] [(9,vC)]:=.re 1 9 "next_day" vC .nil
abbrev YH:Ev->M Fl:=(Ug (eT$ Sa vS (Sa Op (Qd [(9,Iy)] 1 "today" (Vc (Mb [16] "public")$ ja 0) Ua)$ Qd [(15,JC)] 1 "looked" (ja 1) Ua)$ Vc (Mb [14,15,16] "every")$ ja 0) (Vh$ Qd [(15,vB)] 2 "look" (ja 1)$ Ba (Vc (Mb [16] "public")$ ja 0) Ua) Sh)
def AS:Ev->M Fl:=
 (zb (Zt (Vc (Mb [16] "keepers")$ ja 0)$ rm (rP$ Vc (Mb [16] "keepers")$ ja 0) (wc 1) YH)$ Vh$ Qd [(9,vC)] 1 "next_day" (Vc (Mb [16] "public")$ ja 0) Ua)
def Sr:=Ee 2 1 11 101 111 22 ["keeper"] (g:=AS) (hb:=by exact λa b c=>
 (Mc (TQ$ SA zr rfl (Ψ$ by walk_at "+0") (by walk_at "+1")$ by walk_at "+a01010")$ by walk_at "+0"))
instance (priority:=1001) mo52_next_day:Qe 12 1 "next_day" ["self"] [(16,Sr)]:=.re 12 16 "next_day" Sr .nil
abbrev UQ:Ev->M Fl:=(Ce 5$ Vc (Mb [10,11,12,13] "mine")$ Qd [(15,jt)] 2 "account" (Qd [(16,Gq)] 2 "keeper" (ja 0)$ Ba (eC$ Z 1) Ua)$ Ba (eC$ Z 0) Ua)
abbrev pE:Ev->M Fl:=(Ug (eT$ Sa Zh (Sa km (ja 4)$ eC$ Z 3)$ eC$ Z 2) (Vh$ Ye 4 Wd []$ Ba (ja 0)$ Ba (ja 1)$ Ba (ja 5)$ Ba (Sa au (ja 4)$ eC$ Z 3) Ua)$ Vh$ Ye 4 Rc []$ Ba (ja 0)$ Ba (ja 1)$ Ba (Ye 3 Bg []$ Ba (ja 5)$ Ba (ja 1)$ Ba (Sa au (ja 4)$ eC$ Z 3) Ua)$ Ba (Sa ib (ja 5)$ eC$ Z 0) Ua)
abbrev ZK:Ev->M Fl:=(Ug (eT$ Sa rh (Vc (Mb [10,11,12,13] "mine")$ Qd [(15,jt)] 2 "account" (Qd [(16,Gq)] 2 "keeper" (ja 0)$ Ba (eC$ Z 1) Ua)$ Ba (eC$ Z 0) Ua)$ ja 5) (Vh$ Eu lj (ja 3)$ Ba (Vc (Mb [10,11,12,13] "mine")$ Qd [(15,jt)] 2 "account" (Qd [(16,Gq)] 2 "keeper" (ja 0)$ Ba (eC$ Z 1) Ua)$ Ba (eC$ Z 0) Ua) Ua) Sh)
abbrev QL:Ev->M Fl:=(Ug (eT$ Sa Zh (Sa km (ja 4)$ eC$ Z 7)$ eC$ Z 3) (Vh$ Qd [(16,Sr)] 1 "next_day" (ja 0) Ua) Sh)
abbrev EF:Ev->M Fl:=(zb UQ$ zb pE$ zb ZK QL)
abbrev zci:Stmt:=bj 117
def hX:Ev->M Fl:=
 (zb (Ce 3$ Nr$ Ba (Vc (Mb [10,11,12,13] "mine")$ Qd [(15,jt)] 2 "account" (Qd [(16,Gq)] 2 "keeper" (ja 0)$ Ba (eC$ Z 1) Ua)$ Ba (eC$ Z 0) Ua) Ua)$ zb (Yj (kh$ ja 2) (wc 4) EF)$ Ui$ ja 3)
def ce:g'->M D:=Dd$ dh 6 hX
def RT:rc ["_law_hall","_law_side","_law_cells","_law_stands","_law_cell","_law_one"] ["_law_hall","_law_side","_law_cells"]$ sf zci:=vt rfl rfl rfl (by decide +kernel)
def zby:Ci ⟨K,ca,tx K⟩ P w mg base 18 "_law_forward" ["_law_hall","_law_side","_law_cells"] ce:=
 Ci.Dd (xB a.ce RT λv v v v v v v b=>
  by have c:=RT.nd;exact(Mc (by walk_at "+3l0")$ Mc (xA zr rfl (kP rfl$ Bj 2) (by walk_at "+4")$ Mc (by walk_at "+50")$ Mc (ju (by walk_at "+4") (gi$ Gu$ Wr (zdh a) rfl (b.mono$ by decide) rfl$ by walk_at "+0154")$ gi$ Gu$ Wr (uT a) rfl (b.mono$ by decide) rfl$ by walk_at "+015145")$ by walk_at "+a0530a40")$ by walk_at "+3"))
def Ew:=be 1 1 0 80 111 1 [] (hb:=by walk_at "-0")
instance ED:Qe 1 1 "book" ["self"] [(16,Ew)]:=.re 1 16 "book" Ew .nil
def vF:=be 3 3 4 86 111 7 [] (hb:=by walk_at "-b012")
instance Qn:Qe 5 3 "check_side_of_band" ["self","pot","side"] [(16,vF)]:=.re 5 16 "check_side_of_band" vF .nil
instance Wk:ZqF 8 4 "is_agreed" ["pot","side","stand","agreement"]:=Fc 4 4 7 60 [] (hb:=by walk_at "-33012")
def QC:=be 6 5 8 35 62 5 ["made"] (hb:=by exact λa b c=>
 (Mc (ju (WR$ JO$ v5 (l:=[(6,A3),(7,Ŷ),(8,Ŷ),(9,Ŷ),(11,Ŷ),(12,Ŷ),(13,Ŷ),(14,Ŷ),(15,Ŷ),(16,Ŷ)]) rfl (by walk_at "+x01") rfl a.wf rfl ⋯ a.Ju$ zw a.cx a.qo$ zw a.Sx a.zo$ zw a.nv a.Wm$ zw a.ux a.Do$ zw a.Jx a.mo$ zw a.Ar a.ql$ zw a.Sq a.ul$ zw a.Ix a.Eo$ zw a.ft a.Zl$ zw a.ny a.Go yfz) (by walk_at "") Wx)$ by walk_at "+5x013551234"))
instance qy:Qe 9 5 "may_lie" ["self","pot","side","stand","agreement"] [(9,QC)]:=.re 9 9 "may_lie" QC .nil
def yz:=Ee 6 6 2 21 52 0 [] (hb:=by exact λa b d=>
 (Mc (Gu$ JW (c:=5) ⟨a.Xr,a.Yg,_,_,a.Rg,a.Xg,a.Tg,(cy.ok a)⟩ rfl (b.mono$ by decide) rfl$ by walk_at "+01")$ by walk_at "+02030405"))
instance:ZqC 7 3 6 "Laid" ["self","whole","side","stand","day","wait"] yz.f:=⟨λa=>⟨_,a.YA,a.lx,yz.ok a⟩,rfl⟩
abbrev rR:Stmt:=Bv (bj 62) 6
def PZ:Ev->M Fl:=
 (zb (Vh$ Qd [(9,bv)] 2 "check_pot" (ja 0)$ Ba (ja 1) Ua)$ zb (Vh$ Ye 1 uf []$ Ba (ja 2) Ua)$ zb (Ce 5$ Sa ib (Vc (Mb [9,14,16] "pots")$ ja 0)$ ja 1)$ zb (Ug (Ks$ eT$ Ye 2 we []$ Ba (ja 3)$ Ba (Ye 1 Nf []$ Ba (ja 5) Ua) Ua) Xl Sh)$ zb (Ug (Ks$ eT$ Qd [(9,QC)] 5 "may_lie" (ja 0)$ Ba (ja 1)$ Ba (ja 2)$ Ba (ja 3)$ Ba (ja 4) Ua) Xl Sh)$ bx (cj$ Yo 7 6 yz$ Ba (Ye 1 Nf []$ Ba (ja 5) Ua)$ Ba (ja 2)$ Ba (ja 3)$ Ba (Vc (Mb [7,9] "day")$ ja 0)$ Ba (Sa ib (ja 5)$ eC$ Z 4) Ua) (Vc (Mb [9,15] "claims")$ ja 0)$ ja 1)
def Kf:g'->M D:=Dd$ dh 6 PZ
def VT:rc ["self","pot","side","stand","agreement","made"] ["self","pot","side","stand","agreement"]$ sf rR:=vt rfl rfl rfl (by decide +kernel)
def Ő:JI "lay" "Book.lay" rR ["self","pot","side","stand","agreement"] [Yb]:=λe e e e e e e e e e d b c=>⟨λa=>QF.ap [0,0,0,0,0] d (by simpa using a) (by intro _ _ _ _ _;show Me _ _ _ _;exact Pc rfl b c rfl rfl),λa=>QF.ap [0,0,0,0] d (by simpa using a) (by intro _ _ _ _;show Me _ _ _ _;exact Pc rfl b c rfl rfl)⟩
def Ė:Rt ⟨K,ca,tx K⟩ P w mg base 10 (ca 36) ["self","pot","side","stand","agreement"] [Yb] Kf:=
 Rt.Dd (FP a.Kf VT λv v v v v v b=>
  by have:=VT.nd;walk_at "+0125x01b35b01234MzR5230501")
def OC:=Ee 5 4 10 98 111 19 ["agreement"] (hb:=by exact λa b d=>
 (Mc (by walk_at "+012")$ Mc (by walk_at "+b3")$ Mc (by walk_at "+4123")$ gi$ Gu$ L9 (k:=10) (c:=9) (ps:=["self","pot","side","stand","agreement"]) rfl (by walk_at "+0") (a.tc.get 9$ by decide) ((a.te.get (9,_)$ by repeat (first|with_reducible exact ya|refine ra _ ?_)).get ("lay",36)$ by repeat (first|with_reducible exact ya|refine ra _ ?_)) (Ė a) (b.mono$ by decide)$ by walk_at "+123044"))
instance RE:Qe 11 4 "lay" ["self","P","side","stand"] [(16,OC)]:=.re 11 16 "lay" OC .nil
def eD:=Ee 3 3 5 97 111 18 [] (hb:=by walk_at "-b02012")
instance (priority:=1001) mo57_show:Qe 6 3 "show" ["self","P","W"] [(16,eD)]:=.re 6 16 "show" eD .nil
def AO:=be 3 3 0 19 51 1 [] (hb:=by exact λa b c=>
 Qu)
def AK:=be 6 3 0 24 52 3 ["due","tie","side"] (hb:=by exact λa b c=>
 Qu)
def FF:=be 4 3 1 28 53 2 ["shares"] (hb:=by walk_at "-30033")
instance AB:Qe 2 3 "comes" ["self","day","shown"] [(6,AO),(7,AK),(8,FF)]:=.re 2 6 "comes" AO$ .re 2 7 "comes" AK$ .re 2 8 "comes" FF .nil
def AC:=be 2 2 3 40 62 10 [] (hb:=by walk_at "-01x010x01")
instance Hy:Qe 4 2 "due_of" ["self","pot"] [(9,AC)]:=.re 4 9 "due_of" AC .nil
abbrev Z1:Ev->M Fl:=(Ug (eT$ Sa Zh (Sa ib (ja 4)$ ja 5)$ ja 1) (Hw (λa b=>a+b) 2$ Sa ib (Qd [(9,AC)] 2 "due_of" (ja 0)$ Ba (ja 3) Ua)$ ja 5) Sh)
abbrev mQ:Ev->M Fl:=(Yj (kh$ Ng$ Ba (eC$ Z 0)$ Ba (eC$ Z 1) Ua) (wc 5) Z1)
def xT:Ev->M Fl:=
 (zb (Ug (Ks$ eT$ Ye 1 uh []$ Ba (ja 1) Ua) Xl Sh)$ zb (Ce 2$ eC$ Z 0)$ zb (rm (sx$ Vc (Mb [9,14,16] "pots")$ ja 0) (Hi 2$ Oe (wc 3)$ Oe (wc 4) Qi) mQ)$ Ui$ ja 2)
def gG:=be 6 2 4 41 62 11 ["coin","pot","made","side"] (g:=xT) (hb:=by walk_at "-b12F034f5a45120352")
instance Dx:Qe 5 2 "coin_of" ["self","hand"] [(9,gG)]:=.re 5 9 "coin_of" gG .nil
def sw:=be 2 2 5 83 111 4 [] (hb:=by walk_at "-01")
instance DC:Qe 6 2 "coin" ["self","hand"] [(16,sw)]:=.re 6 16 "coin" sw .nil
abbrev u1:Ev->M Fl:=(Ce 1$ Ye 2 ic []$ Ba (ja 0)$ Ba (eC$ Z 0) Ua)
abbrev u2:Ev->M Fl:=(Ce 2$ Sa km (ja 1)$ eC$ Z 2)
abbrev u3:Ev->M Fl:=(Ce 3$ Sa lh (eC$ Z 1)$ Sa km (Sa au (ja 1)$ eC$ Z 2)$ eC$ Z 20)
abbrev u4:Ev->M Fl:=(Ce 4$ Ng$ Ba (Sa lh (eC$ Z 1)$ Sa km (Ye 2 ic []$ Ba (ja 0)$ Ba (eC$ Z 1) Ua)$ Sa Sy (eC$ Z 10)$ eC$ Z 12)$ Ba (Sa lh (eC$ Z 1)$ Sa km (Ye 2 ic []$ Ba (ja 0)$ Ba (eC$ Z 2) Ua)$ Sa Sy (eC$ Z 10)$ eC$ Z 12) Ua)
abbrev u5:Ev->M Fl:=(Ce 5$ Sa lh (Sa lh (Sa ib (Em$ Ba (Ng$ Ba (eC$ Z 1)$ Ba (eC$ Z 2) Ua)$ Ba (Ng$ Ba (eC$ Z 2)$ Ba (eC$ Z 1) Ua) Ua)$ ja 2)$ ja 4)$ Ng$ Ba (Sa lh (Sa lh (ja 3)$ eC$ Z 1)$ Sa km (Sa au (ja 1)$ eC$ Z 40)$ eC$ Z 30) Ua)
abbrev u6:Ev->M Fl:=(Ce 6 Rp)
abbrev bK:Ev->M Fl:=(Wq (Sa lh (eC$ Z 1)$ Sa km (ja 7)$ eC$ Z 2) (ja 6)$ ja 7)
abbrev u7:Ev->M Fl:=(Yj (Gv$ eC$ Z 30) (wc 7) bK)
abbrev u8:Ev->M Fl:=(Ce 8$ Yo 16 5 ko$ mB []$ Ba (Em$ Ba (ja 5) Ua)$ Ba (Em$ Ba (eC$ Z 1) Ua)$ Ba (ja 3)$ Ba (ja 6) Ua)
abbrev u9:Ev->M Fl:=(Ce 9$ wB (ja 0) (BD$ eC$ Z 4)$ BD$ eC$ Z 12)
abbrev IJ:Ev->M Fl:=(Ug (eT$ Sa Zh (ja 9)$ Em Ua) (Ce 9$ Em$ Ba (eC$ Z 0) Ua) Sh)
abbrev PM:Ev->M Fl:=(Ce 10$ Ye 3 ce []$ Ba (ja 8)$ Ba (ja 2)$ Ba (ja 9) Ua)
abbrev yM:Ev->M Fl:=(Ug (IA (eT$ Sa rh (Qd [(11,Dq),(12,Fv),(13,Lz)] 1 "word" (Qd [(15,jt)] 2 "account" (Qd [(16,Gq)] 2 "keeper" (ja 8)$ Ba (eC$ Z 1) Ua)$ Ba (eC$ Z 0) Ua) Ua)$ eC$ ϐ "calm")$ eT$ Sa rh (Vc (Mb [10,11,12,13] "strikes")$ Qd [(15,jt)] 2 "account" (Qd [(16,Gq)] 2 "keeper" (ja 8)$ Ba (eC$ Z 1) Ua)$ Ba (eC$ Z 0) Ua)$ Vc MC$ Sa Op (ak wk$ Ba (ja 10) Ua)$ eC$ Z 1) Xl Sh)
abbrev XP:Ev->M Fl:=(Ug (eT$ Sa oLt (ak wk$ Ba (ja 10) Ua)$ eC$ Z 2) (Ui$ Sa Zh (Qd [(9,Jn)] 2 "told" (Qd [(16,Ew)] 1 "book" (ja 8) Ua)$ Ba (eC$ Z 0) Ua)$ Ng$ Ba (eC$ ϐ "held") Ua) Sh)
abbrev eM:Ev->M Fl:=(Ce 11$ Sa lh (Sa ib (ja 4)$ eC$ Z 0)$ Sa ib (ja 4)$ eC$ Z 1)
abbrev lE:Ev->M Fl:=(Vh$ Qd [(16,Sr)] 1 "next_day" (ja 8) Ua)
abbrev TM:Ev->M Fl:=(Yj (Gv$ Sa km (Ye 2 ic []$ Ba (ja 0)$ Ba (eC$ Z 3) Ua)$ eC$ Z 40) (wc 12) lE)
abbrev EQ:Ev->M Fl:=(Vh$ Qd [(16,OC)] 4 "lay" (ja 8)$ Ba (eC$ Z 0)$ Ba (Sa Op (eC$ Z 1)$ ja 2)$ Ba (Sa ib (ja 10)$ Sa km (Sa au (Ye 2 ic []$ Ba (ja 0)$ Ba (eC$ Z 3) Ua)$ eC$ Z 40)$ Sa Op (ak wk$ Ba (ja 10) Ua)$ eC$ Z 1) Ua)
abbrev cP:Ev->M Fl:=(Vh$ Qd [(16,eD)] 3 "show" (ja 8)$ Ba (eC$ Z 0)$ Ba (Sa lh (eC$ Z 1)$ Sa bH (eC$ Z 2)$ Sa km (Sa au (ja 1)$ eC$ Z 40)$ eC$ Z 15) Ua)
abbrev rQ:Ev->M Fl:=(Ce 13$ eC$ Z 0)
abbrev nL:Ev->M Fl:=(zb (Vh$ Qd [(16,Sr)] 1 "next_day" (ja 8) Ua)$ Ce 13$ Sa lh (ja 13)$ eC$ Z 1)
abbrev cO:Ev->M Fl:=(UU (Pq (eT$ Sa Zh (Sa ib (Qd [(9,Jn)] 2 "told" (Qd [(16,Ew)] 1 "book" (ja 8) Ua)$ Ba (eC$ Z 0) Ua)$ eC$ Z 0)$ eC$ ϐ "laid")$ eT$ Sa oLt (ja 13)$ Sa lh (ja 3)$ eC$ Z 1) nL)
abbrev vM:Ev->M Fl:=(Ug (IA (eT$ Sa rh (Qd [(9,Jn)] 2 "told" (Qd [(16,Ew)] 1 "book" (ja 8) Ua)$ Ba (eC$ Z 0) Ua)$ Ng$ Ba (eC$ ϐ "taken")$ Ba (ja 2) Ua)$ IA (eT$ Sa rh (Qd [(16,sw)] 2 "coin" (ja 8)$ Ba (eC$ Z 1) Ua)$ ja 11)$ eT$ Sa rh (Qd [(16,sw)] 2 "coin" (ja 8)$ Ba (eC$ Z 2) Ua)$ eC$ Z 0) Xl Sh)
abbrev aP:Ev->M Fl:=(Yj (Gv$ Sa km (Ye 2 ic []$ Ba (ja 0)$ Ba (eC$ Z 2) Ua)$ eC$ Z 30) (wc 12)$ Vh$ Qd [(16,Sr)] 1 "next_day" (ja 8) Ua)
abbrev zK:Ev->M Fl:=(Ui$ EJ (Sa Zh (Qd [(16,sw)] 2 "coin" (ja 8)$ Ba (eC$ Z 1) Ua)$ ja 11)$ EJ (Sa Zh (Qd [(16,sw)] 2 "coin" (ja 8)$ Ba (eC$ Z 2) Ua)$ eC$ Z 0)$ Sa Zh (Qd [(15,px)] 1 "worth" (Qd [(16,Gq)] 2 "keeper" (ja 8)$ Ba (eC$ Z 1) Ua) Ua)$ ja 11)
abbrev l7:Stmt:=bj 118
def LY:Ev->M Fl:=
 (zb u1$ zb u2$ zb u3$ zb u4$ zb u5$ zb u6$ zb u7$ zb u8$ zb u9$ zb IJ$ zb PM$ zb yM$ zb XP$ zb eM$ zb TM$ zb EQ$ zb cP$ zb rQ$ zb cO$ zb vM$ zb aP zK)
def Wl:g'->M D:=dh 14 LY
def MH:rc ["_law_script","_law_cell","_law_side","_law_every","_law_coins","_law_pot","_law_words","_law_word","_law_hall","_law_cells","_law_stands","_law_whole","_law_k","_law_days"] ["_law_script"]$ sf l7:=vt rfl rfl rfl (by decide +kernel)
def X4:fN ⟨K,ca,tx K⟩ P w mg 19 "law" ["_law_script"] Wl:=
 Ě a.Wl MH λv v v v v v v v b=>
  by have d:=MH.nd;exact(Mc (by walk_at "+10")$ Mc (by walk_at "+21")$ Mc (by walk_at "+31")$ Mc (by walk_at "+400")$ Mc (by walk_at "+5v2431")$ Mc (by walk_at "+6n")$ Mc (by walk_at "+f7m767")$ Mc (dw (i:=8) MH.nd rfl (ϖ rfl)$ sV (c:=16) (ps:=["self","pots","keeps","every","words"]) a.CB a.qx (ò a) (ϖ rfl) Ϥ (λv v=>Za.nil) rfl (b.mono$ by decide) rfl$ by walk_at "+v5v36")$ Mc (by walk_at "+90")$ Mc (by walk_at "+a9v9v")$ Mc (dw (i:=10) MH.nd rfl (ϖ rfl)$ Wr (zby a) rfl (b.mono$ by decide) rfl$ by walk_at "+829")$ Mc (ju (L2.PW.pt$ OU (by walk_at "+8")$ XZ$ Rq (AN$ Fm b) Rs (by walk_at "+8") (Q4 rfl rfl a.Zu rfl a.Rr$ by walk_at "+:")$ Gn _) Qu Wx)$ Mc (by walk_at "+a:8")$ Mc (by walk_at "+;44")$ Mc (by walk_at "+f0<8")$ Mc (by walk_at "+82:0:")$ Mc (by walk_at "+81")$ Mc (by walk_at "+=")$ Mc (Ħ zr (by walk_at "+8=3")$ by walk_at "+8==")$ by walk_at "+b828;8f0<88;88;")
end
end K93
namespace K93
open L2 L4
set_option maxHeartbeats 4000000
section
variable{α:Type}{xs:List α}{σ:Ca}{fi:Ev->M Bool}{fe:Ev->M D}{tg:D->Ev->Option Ev}{nx:NX}{rest:Ev}
def GQ(O:Option D->Prop)(v a:α->D)(b:α->Option D) p y(u:∀ i j,i<=xs.length->nx i (σ++j)=BD ((xs[i]?).map v))(w:∀ x o c,O c->tg (v x) (o::c::rest)=BD (BD (a x)::b x::rest)/\O (b x))
  (h:∀ x∈xs,∀ j,fi (BD (a x)::b x::rest) (σ++j)=Y (p x) (σ++j)/\(p x=A3->fe (BD (a x)::b x::rest) (σ++j)=Y (y x) (σ++j))) (A:xs.length<=1000) :
  ∀ k i o c f,O c->xs.length<k+i->i<=xs.length->f.length<=i->
   aj nx σ.length tg fi fe k i (o::c::rest) (σ++[ϑ f])=Y () (σ++[ϑ$ f++((xs.drop i).filter p).map y]):=by
 intro k;induction k with
 |zero=>intro i o c f _ s n;omega
 |succ k q=>
  intro i o c f t s n B;unfold aj;rw[u i _ n];cases e:xs[i]? with
  |none=>
   have l:=yc.mp e;rw[Jq l];simp
  |some d=>
   obtain⟨l,m⟩:=ba.mp e;have hd:xs.drop i=d::xs.drop (i+1):=by rw[<-m];exact oh l
   obtain⟨s1,s2⟩:=h d (by rw[<-m];exact di l) [ϑ f];obtain⟨z,r⟩:=w d o c t;simp only[Option.map_some,z];rw[Ml,zA s1,zd];by_cases g:p d=A3
   ·rw[g,ia rfl,Ml,zA$ s2 g,zd,Ml,zev ⋯,zd,q (i+1) _ _ (f++[y d]) r ⋯ ⋯ (by simp;omega),hd,Ue,ia g];simp
   ·rw[qa g,q (i+1) _ _ f r ⋯ ⋯ ⋯,hd,Ue,qa g]
end
def gx{xs}(h:vf xs=A3):lg σ (Y (U σ.length)$ σ++[ϑ xs])=Y (ώ xs) σ:=by
 have:=xY (σ:=σ) (j:=[]) (j':=[]) h
 simp_all
def cG{e:Type}{xs:List e}{src}{s}{ix}{fi}{fe}{ρ}{σ} v y p(l:src ρ σ=Y s σ)(k:∀ i j,s.nx i (σ++j)=BD ((xs[i]?).map v))(g:xs.length<=1000)
  (a:∀ x∈xs,∀ j,fi (BD (v x)::L6::(ix.map λi=>(ρ[i]?).getD L6)) (σ++j)=Y (p x) (σ++j)/\(p x=A3->fe (BD (v x)::L6::(ix.map λi=>(ρ[i]?).getD L6)) (σ++j)=Y (y x) (σ++j))) (f:∀ x∈xs,p x=A3->cl (y x)=A3) :
  cj (Tk (bp src) ix (wc 0) fi fe) ρ σ=Y (ώ$ (xs.filter p).map y) σ:=by
 show lg σ (Lc (Lc _ SM) _ σ)=_;rw[Ml,Ml,l,zd];show lg σ (Lc (aj s.nx σ.length _ fi fe 1001 0$ L6::L6::(ix.map λi=>(ρ[i]?).getD L6)) _ _)=_;rw[Ml,GQ _ v v _ p y (λi j d=>k i j) (λx o n h=>by subst h;exact⟨rfl,rfl⟩) a g 1001 0 L6 L6 [] rfl ⋯ ⋯ ⋯,zd];refine Eq.trans (Ab _ ?_)$ gx (Xs λd hd=>by obtain⟨x,m,rfl⟩:=La.mp hd;obtain⟨b,c⟩:=Li.mp m;exact f x b c);simp
def Av{b:Type}{xs:List b}{src}{s}{ix}{fe}{ρ}{σ} v y(g:src ρ σ=Y s σ)(f:∀ i j,s.nx i (σ++j)=BD ((xs[i]?).map v))(e:xs.length<=1000)
  (a:∀ x∈xs,∀ j,fe (BD (v x)::L6::(ix.map λi=>(ρ[i]?).getD L6)) (σ++j)=Y (y x) (σ++j)) (c:∀ x∈xs,cl (y x)=A3) :
  cj (Tk (bp src) ix (wc 0) am fe) ρ σ=Y (ώ$ xs.map y) σ:=by
 have:=cG (p:=λh=>A3) v y (fi:=am) g f e (λd hd j=>⟨rfl,λh=>a d hd j⟩) (λd hd h=>c d hd)
 rwa [Cj.mpr λh h=>rfl]at this
def lcP{g:Type}{xs:List g}{c}{nx}{ix}{fe}{ρ}{σ}(a b y:g->D)(m:c ρ σ=Y nx σ)(l:∀ i j,i<=xs.length->nx i (σ++j)=BD ((xs[i]?).map λx=>Ϗ [a x,b x]))(k:xs.length<=1000)
  (e:∀ x∈xs,∀ j,fe (BD (a x)::BD (b x)::(ix.map λi=>(ρ[i]?).getD L6)) (σ++j)=Y (y x) (σ++j)) (h:∀ x∈xs,cl (y x)=A3) :
  cj (Tk c ix (Hi 2$ Oe (wc 0)$ Oe (wc 1) Qi) am fe) ρ σ=Y (ώ$ xs.map y) σ:=by
 show lg σ (Lc _ _ σ)=_;rw[Ml,m,zd];show lg σ (Lc (aj nx σ.length _ am fe 1001 0$ L6::L6::(ix.map λi=>(ρ[i]?).getD L6)) _ _)=_;rw[Ml,GQ (λd=>True) _ a _ _ y l (λx o n d=>⟨rfl,trivial⟩) (λx f j=>⟨rfl,λd=>e x f j⟩) k 1001 0 L6 L6 [] trivial ⋯ ⋯ ⋯,zd];refine Eq.trans (Ab _ ?_)$ gx (Xs λd hd=>by obtain⟨x,f,rfl⟩:=La.mp hd;exact h x f);have fe:List.filter _ xs=xs:=Cj.mpr λd d=>rfl;simp[fe]
noncomputable def Sc:D->Bool
 | Z _=>A3
 | Ϛ=>A3
 | ϒ _=>A3
 | ϐ _=>A3
 |_=>Ŷ
noncomputable def bd(d:D)(a b:Int):Bool:=match d with
 | Z i=>decide (a<=i) && decide (i<=b)
 |_=>Ŷ
theorem Ö x a:mz .int (ϐ x) a=Y (ϒ Ŷ) a:=nr rfl
def C6(h:Sc d=A3) a:dm [d] a=Y (ϒ$ match d with | Z _=>A3|_=>Ŷ) a:=by
 unfold dm Fc;cases d with
 |int i=>simp
 |Lb=>simp
 |bl b=>simp
 |str x=>simp[Ö]
 |_=>cases h
def ycs(h:Sc d=A3) a b c:xf [d,Z a,Z b] c=Y (ϒ$ bd d a b) c:=by
 have w:=C6 h;unfold xf Fc;cases d with
 |int i=>cases e:decide (a<=i)<;>simp[bd,e,w]
 |Lb=>simp[bd,w]
 |bl b=>simp[bd,w]
 |str x=>simp[bd,w]
 |_=>cases h
theorem JY a b c d e r f:ib (Ϗ$ a::b::c::d::e::r) (Z 4) f=Y e f:=Lw$ Aq rfl
@[simp] theorem ydw f lo b a c:wB f lo b a c=(f a c).bind (eO (DB lo a)$ DB b a):=nr rfl
@[simp] theorem yac lo a x b:eO lo a x b=(lo b).bind (ZN x a):=nr rfl
@[simp] theorem yad x a lo b:ZN x a lo b=(a b).bind (Xx x lo):=nr rfl
@[simp] theorem zte b a:DB L6 b a=Y L6 a:=nr rfl
@[simp] theorem ztf f a b:DB (BD f) a b=(f a b).bind aN:=nr rfl
@[simp] theorem zyk i a:aN (Z i) a=Y (BD i) a:=nr rfl
@[simp] theorem vD xs lo a b:Xx (Ϗ xs) lo a b=Y (Ϗ$ Ep xs lo a) b:=nr rfl
@[simp] theorem yoy a r b:ib (ώ$ a::r) (Z 0) b=Y a b:=XM$ Aq rfl
@[simp] theorem yoz a b r c:ib (ώ$ a::b::r) (Z 1) c=Y b c:=XM$ Aq rfl
theorem VC(h:nx i e=BD (BD d))(f:c d ρ=BD b):wq nx c a (k+1) i ρ e=(a b e).bind (Kt$ wq nx c a k$ i+1):=by
 rw[wq];simp only[h,f];rfl
def WC(h:nx i b=BD L6):wq nx d a (k+1) i c b=Y (Ϙ c) b:=by
 rw[wq];simp only[h]
@[simp] theorem ya1 f a b:sx f a b=(f a b).bind Xy:=nr rfl
@[simp] theorem rs b d a c e:rm b d a c e=fk c (bW d a c) (b c e):=xk ..
theorem WT{xs}(b:zi a x=BD xs)(h:vf xs=A3):lg a (Zo [x] a)=Y (ώ xs) a:=by
 have e:Zo [x] a=Y (U a.length) (a++[ϑ xs]):=by unfold Zo;simp[b];rfl
 have:=xY (σ:=a) (j:=[]) (j':=[]) h
 simp_all
section
variable{σ:Ca}{x:D}{xs:g'}
def UN(h:Bf σ x=BD xs):Xy x σ=Y (Ts x) σ:=by unfold Xy;rw[h]
def BN(h:Bf σ x=BD xs)(a:xs[i]?=BD d):Ts x i σ=BD (BD$ Ϗ [Z i,d]):=by unfold Ts;rw[h];simp[a]
def LL(h:Bf σ x=BD xs):Ts x xs.length σ=BD L6:=by unfold Ts;rw[h];simp
end
@[simp] theorem b_0:(("accept" : Str) == "offer")=Ŷ:=by decide
@[simp] theorem b_1:(("agree" : Str) == "strike")=Ŷ:=by decide
@[simp] theorem b_2:(("agree" : Str) == "word")=Ŷ:=by decide
@[simp] theorem b_3:(("ask" : Str) == "accept")=Ŷ:=by decide
@[simp] theorem b_4:(("ask" : Str) == "offer")=Ŷ:=by decide
@[simp] theorem b_5:(("ask" : Str) == "struck")=Ŷ:=by decide
@[simp] theorem b_6:(("ask" : Str) == "word")=Ŷ:=by decide
@[simp] theorem yu1:(("strike" : Str) == "word")=Ŷ:=by decide
@[simp] theorem yu2:(("struck" : Str) == "accept")=Ŷ:=by decide
@[simp] theorem yu3:(("struck" : Str) == "offer")=Ŷ:=by decide
theorem WA{xs}(h:vf xs=A3) a:lg a (Zo [ώ xs] a)=Y (ώ xs) a:=WT (l6 xs) h
def dt(xs:List a)(v:a->D)(i:Nat):(xs.map v)[i]?=(xs[i]?).map v:=Na ..
def bt(h:a<=i/\i<=b) c:xf [Z i,Z a,Z b] c=Y (ϒ A3) c:=by
 rw[ycs rfl];simp[bd,h]
def Ly(h:s=0\/s=1) c:Nn [Z s] c=Y (ϒ A3) c:=by
 unfold Nn Fc;simp[(bt (i:=s) (a:=0) (b:=1) ⋯ c)]
def jX(h:0<=s/\s<=59) a:On [Z s] a=Y (ϒ A3) a:=by
 unfold On Fc;simp[(bt h a)]
def SN(h:0<=s/\s<=1000000) a:Vk [Z s] a=Y (ϒ A3) a:=by
 unfold Vk Fc;simp[(bt h a)]
def GV(h:0<=p/\p<=2) a:Tp [Z p] a=Y (ϒ A3) a:=by
 unfold Tp Fc;simp[(bt h a)]
structure Ti where
 (p a w y:Int)
noncomputable def Ti.D(t:Ti):L4.D:=Ϗ [Z t.p,Z t.a,Z t.w,Z t.y]
structure Ti.Ok(t:Ti):Prop where
 p:t.p=0\/t.p=1
 a:1<=t.a/\t.a<=1000000000000
 w:0<=t.w/\t.w<=59
 y:0<=t.y/\t.y<=1000000
noncomputable def xr(b:List Ti):Int:=(b.map Ti.a).sum
def Um(n a b:Int)(c:List Ti):D:=Ϗ [Z n,Ϗ [Z a,Z b],Ϗ$ c.map Ti.D]
def W5{t:Ti}(h:t.Ok) b:Yl [t.D] b=Y (ϒ A3) b:=by
 have c:Vg [Z t.a] b=Y (ϒ A3) b:=by
  unfold Vg Fc;simp[(bt h.a b)]
 have d:Yp [Z t.y] b=Y (ϒ A3) b:=by
  unfold Yp Fc;simp[(bt h.y b)]
 unfold Ti.D Yl Fc;simp[(Ly h.p b),c,(jX h.w b),d]
structure gn(n a b:Int)(ts:List Ti):Prop where
 n:0<=n/\n<=1000000
 a:0<=a/\a<=2000000000000
 b:0<=b/\b<=2000000000000
 t:∀ t∈ts,t.Ok
 l:ts.length<=6
 d:(ts.map Ti.w).Nodup
def Wz(h:gn n a b ts) σ:Kh [Um n a b ts] σ=Y (ϒ A3) σ:=by
 have s:=h.l;have g:∀ σ,kh (ja 0) [BD$ Ϗ$ ts.map Ti.D] σ=Y (.seq$ ts.map Ti.D) σ:=λσ=>by simp
 have p:=Av (ix:=[]) (fe:=Ye 1 Yl []$ Ba (ja 0) Ua) Ti.D (λu=>ϒ A3) (g σ) (λi u=>Ab BD$ dt ts _ i) ⋯ (λt o j=>by
  have:=W5 (h.t t o)$ σ++j;simp[this]) (λu u=>by simp)
 have e:=Av (ix:=[]) (fe:=Sa ib (ja 0)$ eC$ Z 2) Ti.D (λt=>Z t.w) (g σ) (λi u=>Ab BD$ dt ts _ i) ⋯ (λt h j=>by simp[Ti.D]) (λd hd=>by simp);rw[show ts.map (λt=>Z t.w)=(ts.map Ti.w).map Z by rw[Qb];rfl]at e;have c:=NT (σ:=σ) (f:=λu:Ti=>A3) (l:=ts);rw[show ts.all (λu=>A3)=A3 from qb.mpr λu u=>rfl]at c;have s1:=ď (σ:=σ) (l:=ts.map Ti.w) (by simp;lia);rw[(ý$ ts.map Ti.w).mpr h.d,Ra]at s1;have q:wk [Ϗ$ ts.map Ti.D] σ=Y (Z (ts.length:Int)) σ:=by
  have:=PK (σ:=σ)$ ts.map Ti.D;simpa using this
 have m:decide ((ts.length:Int) > 6)=Ŷ:=by simp;lia
 have k:=SN h.n σ;have w:=bt h.a σ;unfold Um Kh Fc;dsimp only;unfold Vq Fc;dsimp only;unfold ro Fc;dsimp only;generalize _=N,ts.map (λu=>ϒ A3)=r,ts.map Ti.D=TT,(ts.map Ti.w).map Z=W at *;simp[k,w,(bt h.b σ),p,e,c,s1,q,m,-lr]
def PX(t:Ti):cl t.D=A3:=by unfold Ti.D;simp
def bX(a:List Ti):vf (a.map Ti.D)=A3:=Xs λd hd=>by obtain⟨t,_,rfl⟩:=La.mp hd;exact PX t
def sZ n a b c:cl (Um n a b c)=A3:=by
 unfold Um;simp[bX]
def FZ(f:0<=u/\u<=1000000000000)(g:0<=v/\v<=1000000000000) c:Kj [Z u,Z v] c=Y (Um 0 u v []) c:=by
 have d:=Wz (n:=0) (a:=u) (b:=v) (ts:=[]) ⟨by lia,by lia,by lia,by simp,by simp,by simp⟩ c;have e:Jh [Z 0,Ϗ [Z u,Z v],Ϛ] c=Y (Um 0 u v []) c:=by
  unfold Um at d ⊢;simp at d ⊢;unfold Jh QP;simp[d]
 unfold Kj Fc;simp[e,(sZ 0 u v [])]
def J7 a b c:NA [Ϗ [Z a,Z b]] c=Y (Z$ a+b) c:=by
 simp[NA,Ls]
def UP(l:dl) a:NA [ώ$ l.map Z] a=Y (Z l.sum) a:=by
 simp[NA]
def KH n a b(g:c.length<=6) σ:Gj [Um n a b c] σ=Y (Z$ a+b+xr c) σ:=by
 have f:∀ σ,ib (Um n a b c) (Z 1) σ=Y (Ϗ [Z a,Z b]) σ:=λσ=>by simp[Um]
 have l:=Av (s:=.seq _) (ix:=[]) (fe:=Sa ib (ja 0)$ eC$ Z 1) (ρ:=[BD$ Um n a b c]) (σ:=σ) (src:=kh$ Sa ib (ja 0)$ eC$ Z 2) Ti.D (λt=>Z t.a) (by rfl) (λi d=>Ab BD$ dt c _ i) ⋯ (λt h j=>by simp[Ti.D]) (λd hd=>by simp);have e:c.map (λt=>Z t.a)=(c.map Ti.a).map Z:=by rw[Qb];rfl
 rw[e]at l;have o:=UP (c.map Ti.a) σ;unfold Gj Fc;dsimp only;generalize (c.map Ti.a).map Z=G,Um n a b c=S at *;simp[f,l,J7,o,xr,-lr]
def aL(h:gn n a b d) c:we [Um n a b d,Z$ a+b+xr d] c=Y (ϒ A3) c:=by
 unfold we Fc;simp[(Wz h c),(KH n a b (by have:=h.l;omega) c)]
def AW(h:ys.length+zs.length<=1000):Gw (U σ.length) [ώ zs] (σ++[ϑ ys])=Y Ϛ (σ++[ϑ$ ys++zs]):=by
 have e:Bf (σ++[ϑ ys]) (ώ zs)=BD zs:=rfl;unfold Gw;simp only[UE,e];rw[ia (show _<=Yf from h),bD]
theorem ĭ{xs ys}(b:ja i a σ=Y (ώ xs) σ)(c:ja j a σ=Y (ώ ys) σ):BM (ja i) (ja j) a σ=Y (rJ (ώ xs)$ ώ ys) σ:=by
 unfold BM;rw[Ml,b,zd];unfold zV;rw[Ml,c,zd];rfl
@[simp] theorem zln d b c a e:fH d b c a e=(c a e).bind (Gx b$ d.map λi=>(a[i]?).getD L6):=nr rfl
theorem jB{x:List b}{a:b}(h:x[i]?=BD a):x.take (i+1)=x.take i++[a]:=by
 rw[List.take_add_one,h];rfl
def pU{xs}(P:Nat->Ev->Ca->Prop)(A:xs.length<=1000)(x:S=.seq xs\/∃ n,S=.Fo n/\∀ i ρ σ,P i ρ σ->af σ n=BD xs)
  (u:∀ i d ρ σ,xs[i]?=BD d->P i ρ σ->∃ f c e,tg d ρ=BD f/\body f σ=Y (Ϙ c) e/\P (i+1) c e) (t:P 0 ρ σ):∃ a b,zE tg body ρ S σ=Y (Ϙ a) b/\P xs.length a b:=by
 rcases x with rfl|⟨n,rfl,z⟩
 ·have q:∀ (r:g') (i:Nat) (ρ:Ev) (σ:Ca),xs.drop i=r->i<=xs.length->P i ρ σ->∃ a b,Qj tg body r ρ σ=Y (Ϙ a) b/\P xs.length a b:=λr=>by
   induction r with
   |nil=>
    intro i ρ σ hd y g;have:i=xs.length:=by have:=List.drop_eq_nil_iff.mp hd;lia
    exact⟨ρ,σ,by simp,this ▸ g⟩
   |cons d r s=>
    intro i ρ σ hd y g;have h:xs[i]?=BD d:=by have:=Ab (·[0]?) hd;simpa using this
    obtain⟨f,c,e,j,l,m⟩:=u i d ρ σ h g;obtain⟨a,b,o,p⟩:=s (i+1) c e (by have:=Ab List.tail hd;simpa using this) (ba.mp h).1 m;exact⟨a,b,by rw[IS j,l,zd,Vn,o],p⟩
  exact q xs 0 ρ σ rfl ⋯ t
 ·have q:∀ (k i:Nat) (ρ:Ev) (σ:Ca),xs.length<k+i->i<=xs.length->P i ρ σ->∃ a b,Dr tg body n k i ρ σ=Y (Ϙ a) b/\P xs.length a b:=λk=>by
   induction k with
   |zero=>intro i ρ σ v w;lia
   |succ k s=>
    intro i ρ σ v w g;rw[Dr];simp only[(z i ρ σ g)];cases h:xs[i]? with
    |none=>
     have:i=xs.length:=by have:=yc.mp h;lia
     exact⟨ρ,σ,rfl,this ▸ g⟩
    |some d=>
     obtain⟨f,c,e,j,l,m⟩:=u i d ρ σ h g;obtain⟨a,b,o,p⟩:=s _ c e ⋯ (ba.mp h).1 m;refine⟨a,b,?_,p⟩;simp only[j];show (body f σ).bind _=_;rw[l,zd,Vn,o]
  exact q 1001 0 ρ σ ⋯ ⋯ t
abbrev Kv:=List$ Nc × D
theorem Bo:∀ A:Kv,(A.map (·.1)).zip (A.map (·.2))=A
 |[]=>rfl
 |x::A=>by simp[Bo A]
def ą A a:mi a (Ϭ (A.map (·.1)) (A.map (·.2)))=BD A:=by unfold mi;simp[Bo]
def EL A a:gm A A.length a=BD L6:=by unfold gm;simp
def ZM(h:f b a=Y (Ϭ (A.map (·.1)) (A.map (·.2))) a):EA f b a=Y (gm A) a:=by
 have z:∀ A:Kv,(A.map (·.1)).zip (A.map (·.2))=A:=λA=>by
  induction A with
  |nil=>rfl
  |cons x r c=>simp_all
 show Lc _ ZG a=_;rw[Ml,h,zd];unfold ZG
 simp_all
theorem vE{nx:NX}{tg:D->Ev->Option Ev}{body:Ev->M Fl}{N:Nat}(P:Nat->Ev->Ca->Prop)(l:∀ i ρ a,i<N->P i ρ a->∃ d g c f,nx i a=BD (BD d)/\tg d ρ=BD g/\body g a=Y (Ϙ c) f/\P (i+1) c f)(j:∀ a,nx N a=BD L6):∀ (k i:Nat) (ρ:Ev) (a:Ca),N<k+i->i<=N->P i ρ a->∃ b e,wq nx tg body k i ρ a=Y (Ϙ b) e/\P N b e
 |0,i,ρ,a,s,t,_=>by lia
 |k+1,i,ρ,a,s,t,h=>by
  by_cases u:i=N
  ·subst u;exact⟨ρ,a,WC$ j a,h⟩
  ·obtain⟨d,g,c,f,m,n,o,p⟩:=l i ρ a ⋯ h;obtain⟨b,e,q,r⟩:=vE P l j k _ c f ⋯ ⋯ p;refine⟨b,e,?_,r⟩;rw[VC m n,o,zd,Vn,q]
theorem QU{f:α->D}{key:α->Int}{rest:Ev}(h:fe (BD (f x)::rest) σ=Y (Z$ key x) σ):Gx fe rest [ώ [f x]] σ=Y (f x) σ:=by
 unfold Gx;dsimp only;rw[Ml,zA h,zd];rfl
theorem δ{f:α->D}{key:α->Int}{rest:Ev}(h:fe (BD (f x)::rest) σ=Y (Z$ key x) σ)(a:fe (BD (f y)::rest) σ=Y (Z$ key y) σ):Gx fe rest [ώ [f x,f y]] σ=Y (if key y<key x then f y else f x) σ:=by
 unfold Gx;dsimp only;rw[Ml,zA h,zd];show Mx fe rest [f y] (f x) (key x) σ=_;unfold Mx;rw[Ml,zA a,zd];dsimp only;split<;>rfl
structure Sn where
 (n a b:Int)
 ts:List Ti
def Sn.D(s:Sn):L4.D:=Um s.n s.a s.b s.ts
def Jl(s:Sn):cl s.D=A3:=sZ ..
def VF(a:List Sn):vf (a.map Sn.D)=A3:=Xs λd hd=>by obtain⟨s,_,rfl⟩:=La.mp hd;exact Jl s
def s0(s:Sn) a:ib s.D (Z 0) a=Y (Z s.n) a:=by unfold Sn.D Um;simp
def s1(s:Sn) c:ib s.D (Z 1) c=Y (Ϗ [Z s.a,Z s.b]) c:=by unfold Sn.D Um;simp
def s2(s:Sn) a:ib s.D (Z 2) a=Y (Ϗ$ s.ts.map Ti.D) a:=by unfold Sn.D Um;simp
noncomputable def ow(q:Int)(s:Sn):Int:=if q=0 then s.a else s.b
def pN(d:q=0\/q=1) s c:ib (Ϗ [Z s.a,Z s.b]) (Z q) c=Y (Z$ ow q s) c:=by
 rcases d with rfl|rfl<;>simp[ow]
structure Sn.Ok(W:Int)(s:Sn):Prop where
 st:gn s.n s.a s.b s.ts
 w:s.a+s.b+xr s.ts=W
abbrev Sm:=List$ Int × Int
noncomputable def sK(S:Sm):Kv:=S.map λz=>(.inl z.1,Z z.2)
def sD(S:Sm):D:=Ϭ ((sK S).map (·.1)) ((sK S).map (·.2))
structure Pv where
 q:Int
 S:Sm
 y:List Sn
def bh(p:Pv):D:=Ϗ [Z p.q,ώ$ p.y.map Sn.D,sD p.S]
structure Vw where
 e:Int
 L:Int
 K:dl
noncomputable def kj(v:Vw)(P:g'):D:=Ϲ 14 ["every","last_look","known","pots"] [Z v.e,Z v.L,ώ$ v.K.map Z,ώ P]
theorem ym4 S:vf ((sK S).map (·.2))=A3:=Xs λd hd=>by
 unfold sK at hd;rw[Qb]at hd;obtain⟨s,_,rfl⟩:=La.mp hd;rfl
def nW S:cl (sD S)=A3:=ym4 S
theorem IF(K:dl):vf (K.map Z)=A3:=Xs λd hd=>by obtain⟨s,_,rfl⟩:=La.mp hd;rfl
def aS p:cl (bh p)=A3:=by unfold bh;simp[VF,nW]
def ŉ v(h:vf P=A3):cl (kj v P)=A3:=by unfold kj;simp[h]
structure Lo where
 (w:Int)
 (k:Str)
 (v d:Int)
noncomputable def Lo.D(l:Lo):L4.D:=Ϗ [ϐ l.k,Z l.v,Z l.d]
structure Rd where
 (f:Int)
 (x:List Lo)
noncomputable def Sl(x:List Lo):Kv:=x.map λl=>(.inl l.w,l.D)
noncomputable def Rd.D(r:Rd):L4.D:=Ϗ [Z r.f,Ϭ ((Sl r.x).map (·.1)) ((Sl r.x).map (·.2))]
noncomputable def lu(S:Sm)(w:Int):Option Int:=(S.find? λz=>decide$ z.1=w).map (·.2)
def WL S w:Rn (sK S) (.inl w)=(lu S w).map Z:=by
 unfold Rn sK lu;induction S with
 |nil=>rfl
 |cons z S a=>
  by_cases h:z.1=w;all_goals simp_all
def CA(S:Sm)(t:Ti):Bool:=match lu S t.w with
 |none=>Ŷ
 |some d=>decide (d<t.y)
def lk(v:Vw)(S:Sm)(t:Ti):Str:=if CA S t then "won" else if v.L ≥ t.y then "gone" else if t.w∈v.K/\v.L+v.e<t.y then "sure" else "hangs"
noncomputable def MM(k:Str):Bool:=k == "sure" || k == "won"
def fa(v:Vw)(S:Sm)(t:Ti):Int:=if MM (lk v S t)then t.a else 0
def Hs(v:Vw)(S:Sm)(a:List Ti):Int:=(a.map$ fa v S).sum
def lo(v:Vw)(S:Sm)(t:Ti):Lo:=⟨t.w,lk v S t,t.a,t.y⟩
def rd(v:Vw)(S:Sm)(q:Int)(s:Sn):Rd:=⟨ow q s+Hs v S s.ts,s.ts.map$ lo v S⟩
def rY(l:Lo):cl l.D=A3:=by unfold Lo.D;simp
def FV x:vf ((Sl x).map (·.2))=A3:=Xs λd hd=>by
 unfold Sl at hd;rw[Qb]at hd;obtain⟨l,_,rfl⟩:=La.mp hd;exact rY l
def gQ(r:Rd):cl r.D=A3:=by unfold Rd.D;simp[cl,FV]
def ycz(a:List Rd):vf (a.map Rd.D)=A3:=Xs λd hd=>by obtain⟨s,_,rfl⟩:=La.mp hd;exact gQ s
@[simp] theorem ZZ b a:Rp b a=Y (U a.length) (a++[J []]):=nr rfl
@[simp] theorem zhm o f b a c:AF o f b a c=(f a c).bind (zx o$ b a):=nr rfl
@[simp] theorem k8 f c b a d:Wq f c b a d=fk a (qL a c b) (f a d):=xk ..
@[simp] theorem h9 b a d ρ c:qL ρ b a d c=fk ρ (QO ρ a d) (b ρ c):=xk ..
@[simp] theorem zqd a d x ρ b:QO ρ a d x b=fk ρ (Ln ρ d x) (a ρ b):=xk ..
theorem Wp(h:σ[n]?=BD (J kvs))(a:kvs.length<1000):Ln ρ d (U n) (Z w) σ=Y (Ϙ ρ) (σ.set n$ J$ Dm kvs (.inl w) d):=by
 unfold Ln;simp only[Vi,h];rw[ia (show kvs.length<Yf from a)]
theorem UL{f:D->Option D}(a:∀ d,cl d=A3->f d=BD d):∀ {xs:g'},vf xs=A3->Rl f xs=BD xs
 |[],_=>rfl
 |x::xs,h=>by
  rw[vf,Da]at h;rw[Rl,a x h.1,UL a h.2]
theorem VS(h:vf (kvs.map (·.2))=A3):fz σ.length (σ++J kvs::j) (m+1) (U σ.length)=BD (Ϭ (kvs.map (·.1)) (kvs.map (·.2))):=by
 have e:(σ++J kvs::j)[σ.length]?=BD (J kvs):=by simp
 unfold fz;dsimp only;rw[qa$ qd _,e];dsimp only;rw[UL (λd hd=>pC hd) h];rfl
theorem v8 b m(xs:dl):ax b (Z m) (xs.map Z)=BD (xs.map λx=>decide$ x=m):=by
 induction xs with
 |nil=>rfl
 |cons x xs a=>
  rw[gb,gb,ax,a];rfl
def cX(K:dl) w a:uG Ŷ (Z w) (ώ$ K.map Z) a=Y (ϒ$ decide$ w∈K) a:=by
 have:zi a (ώ _)=BD (K.map Z):=rfl;unfold uG;simp only[this,v8];have e:((K.map λx=>decide$ x=w).any id)=decide (w∈K):=by
  rw[List.any_map];by_cases h:w∈K
  ·rw[Ib h,Ld];exact⟨w,h,by simp⟩
  ·rw[Vb h,Jv];intro x b;simp;intro z;exact h$ z ▸ b
 simp[e]
def RZ v S t:lk v S t = "won"\/lk v S t = "gone"\/lk v S t = "sure"\/lk v S t = "hangs":=by
 unfold lk;repeat' split
 all_goals simp
theorem Ů v S t a:aK Ŷ ["won","sure","back"] (ϐ$ lk v S t) a=Y (ϒ$ MM$ lk v S t) a:=by
 rcases RZ v S t with h|h|h|h<;>rw[h]<;>exact nr rfl
section
variable(t:Ti)(σ:Ca)
def AU:ib t.D (Z 0) σ=Y (Z t.p) σ:=by unfold Ti.D;simp
def kT:ib t.D (Z 1) σ=Y (Z t.a) σ:=by unfold Ti.D;simp
def dD:ib t.D (Z 2) σ=Y (Z t.w) σ:=by unfold Ti.D;simp
def JH:ib t.D (Z 3) σ=Y (Z t.y) σ:=by unfold Ti.D;simp
end
def zqo S t a:Yh [t.D,sD S] a=Y (ϒ$ CA S t) a:=by
 have h:=dD t;have g:mi a (sD S)=BD (sK S):=by
  exact ą _ _
 have c:=WL S t.w;have b:tq (Z t.w) (sD S) a=Y (ϒ (lu S t.w).isSome) a:=by
  unfold tq;simp only[Vi,c]
  simp_all
 have f:∀ d,lu S t.w=BD d->Dl (sD S) (Z t.w) a=Y _ a:=λd e=>by
  unfold Dl;simp[Vi,g,c,e];rfl
 unfold Yh CA Fc;dsimp only;cases e:lu S t.w with
 |none=>simp_all
 |some d=>
  rw[e]at b;simp[h,(JH t),b,(f d e)]
def B2{l:List Ti}(hd:(l.map Ti.w).Nodup)(h:l[i]?=BD t):∀ u∈l.take i,u.w≠t.w:=by
 have a:((l.take$ i+1).map Ti.w).Nodup:=hd.sublist$ (jl _ _).map _;rw[jB h,vc,Uc]at a;exact λu b e=>a.2.2 u.w (ge b) t.w ⋯ e
def aA d(h:∀ p∈a,p.1≠.inl w):Dm a (.inl w) d=a++[(.inl w,d)]:=by
 unfold Dm;rw[qa];intro z;obtain⟨p,b,e⟩:=Ld.mp z;exact h p b ⋯
structure Hn(q:Int)(s:Sn):Prop where
 p:∀ t∈s.ts,t.p≠q
 d:(s.ts.map Ti.w).Nodup
 l:s.ts.length<=6
section
variable(v:Vw)(P:g')(σ:Ca)(S:Sm)(q:Int)(ss:List Sn)
def Ĝ{t}(u:t.p≠q):im [kj v P,bh ⟨q,S,ss⟩,t.D] σ=Y (ϐ$ lk v S t) σ:=by
 have k1:∀ σ,Mb [14,15] "last_look" (kj v P) σ=Y _ σ:=λσ=>Ih (Pn rfl) rfl rfl;have n:∀ σ,Mb [14,15] "known" (kj v P) σ=Y _ σ:=λσ=>Ih (Pn rfl) rfl rfl;have s:∀ σ,Mb [14,15,16] "every" (kj v P) σ=Y _ σ:=λσ=>Ih (Pn rfl) rfl rfl;have f:∀ σ,ib (bh ⟨q,S,ss⟩) (Z 0) σ=Y (Z q) σ:=λσ=>by unfold bh;simp
 have g:∀ σ,ib (bh ⟨q,S,ss⟩) (Z 2) σ=Y (sD S) σ:=λσ=>by unfold bh;simp
 have h:=AU t;have o:=dD t;have l:=JH t;have d:=cX v.K t.w;have a:=zqo S t;have b:(t.p == q)=Ŷ:=by simp[u]
 unfold im lk Fc;dsimp only;unfold wo Fc;dsimp only;generalize sD S=x,bh _=A,kj v P=V at *;cases r:CA S t with
 |true=>
  rw[r]at a;simp[f,g,h,a,b]
 |false=>
  rw[r]at a;by_cases k:v.L ≥ t.y
  ·have c:decide (v.L ≥ t.y)=A3:=Ib k;simp[f,g,h,a,b,k1,l,c,k]
  ·have c:decide (v.L ≥ t.y)=Ŷ:=Vb k;rw[qa ⋯,qa k];by_cases i:t.w∈v.K
   ·rw[Ib i]at d;by_cases j:v.L+v.e<t.y
    ·have m:decide (v.L+v.e<t.y)=A3:=Ib j;rw[ia ⟨i,j⟩];simp[f,g,h,a,b,k1,n,s,o,l,c,d,m]
    ·have m:decide (v.L+v.e<t.y)=Ŷ:=Vb j;rw[qa λz=>j z.2];simp[f,g,h,a,b,k1,n,s,o,l,c,d,m]
   ·rw[Vb i]at d;rw[qa λz=>i z.1];simp[f,g,h,a,b,k1,n,o,l,c,d]
def Ň ϊ f F{t}(z:t.p≠q){kv}(u:∀ p∈kv,p.1≠.inl t.w)(s:kv.length<1000):yF [BD$ kj v P,BD$ bh ⟨q,S,ss⟩,BD ϊ,BD$ Z f,BD$ U σ.length,BD t.D,F] (σ++[J kv])=Y (Ϙ [BD$ kj v P,BD$ bh ⟨q,S,ss⟩,BD ϊ,BD$ Z$ f+fa v S t,BD$ U σ.length,BD t.D,BD$ ϐ$ lk v S t]) (σ++[J$ kv++[(.inl t.w,(lo v S t).D)]]):=by
 have l:=λσ=>Ĝ v P σ S q ss z;have B:=kT t;have C:=dD t;have E:=JH t;have st:=λk=>Wp (ρ:=k) (σ:=σ++[J kv]) (d:=(lo v S t).D) (n:=σ.length) (w:=t.w) (kvs:=kv) ⋯ s;rw[bD,aA _ u]at st;have A:=Ů v S t;have o:∀ (f:Ev->M D) (c e g h i j:Option D) (x:D) (σ:Ca),Hw (λa b=>a+b) 3 f [c,e,g,BD x,h,i,j] σ=fk [c,e,g,BD x,h,i,j] (EC (λa b=>a+b) 3 [c,e,g,BD x,h,i,j] x) (f [c,e,g,BD x,h,i,j] σ):=λf c e g h i j x σ=>yK rfl;have r:Ϗ [ϐ$ lk v S t,Z t.a,Z t.y]=(lo v S t).D:=rfl;unfold yF fa;generalize σ++[J kv]=ό,σ++[J$ kv++[(.inl t.w,(lo v S t).D)]]=ϊ,bh ⟨q,S,ss⟩=P,kj v P=V,t.D=H,lk v S t=LK,(lo v S t).D=G at *;generalize MM LK=m at *;cases m<;>simp[l,B,C,E,st,A,o,r]
def D9(o:q=0\/q=1){s}(h:Hn q s):kg [kj v P,bh ⟨q,S,ss⟩,s.D] σ=Y (rd v S q s).D σ:=by
 have w:∀ σ,ib (bh ⟨q,S,ss⟩) (Z 0) σ=Y (Z q) σ:=λσ=>by unfold bh;simp
 have A:=h.l;obtain⟨y,z,b,c,y6,rfl,rfl⟩:=pU (S:=.seq$ s.ts.map Ti.D) (xs:=s.ts.map Ti.D) (tg:=wc 5) (body:=yF) (ρ:=[BD$ kj v P,BD$ bh ⟨q,S,ss⟩,BD s.D,BD$ Z$ ow q s,BD$ U σ.length,L6,L6]) (σ:=σ++[J []]) (λi ρ k=>∃ c y6,ρ=[BD$ kj v P,BD$ bh ⟨q,S,ss⟩,BD s.D,BD$ Z$ ow q s+Hs v S (s.ts.take i),BD$ U σ.length,c,y6]/\k=σ++[J$ Sl$ (s.ts.take i).map$ lo v S]) (by simp;lia) (ϖ rfl) (λi d ρ k hd n=>by
  obtain⟨c,y6,rfl,rfl⟩:=n;rw[Na]at hd;obtain⟨t,a,rfl⟩:=Wa.mp hd;have st:=Ň v P σ S q ss s.D (ow q s+Hs v S (s.ts.take i)) y6 (h.p t$ wa a) (kv:=Sl$ (s.ts.take i).map$ lo v S) (λp g e=>by
   unfold Sl at g;rw[Qb]at g;obtain⟨u,r,rfl⟩:=La.mp g;exact(B2 h.d a) u r$ Ki e) (by unfold Sl;simp;omega)
  refine⟨_,_,_,rfl,st,BD t.D,BD$ ϐ$ lk v S t,?_,?_⟩
  ·rw[jB a];unfold Hs;simp[Int.add_assoc]
  ·rw[jB a];unfold Sl;simp[lo]) ⟨L6,L6,by simp[Hs],by simp[Sl]⟩
 rw[Ra,Uf]at b;have fz:lg σ (Y (Ϗ [Z (rd v S q s).f,U σ.length])$ σ++[J$ Sl (rd v S q s).x])=Y (rd v S q s).D σ:=by
  unfold lg;dsimp only;rw[ia ⋯];have:fz σ.length (σ++[J$ Sl (rd v S q s).x]) 6 (Ϗ [Z (rd v S q s).f,U σ.length])=BD (rd v S q s).D:=by
   unfold fz;dsimp only;unfold Rl;unfold Rl;rw[(VS (σ:=σ) (j:=[]) (m:=4)$ FV (rd v S q s).x)];rfl
  rw[this]
 have b:Qj (wc 5) yF (s.ts.map Ti.D) [BD$ kj v P,BD$ bh ⟨q,S,ss⟩,BD s.D,BD$ Z$ ow q s,BD$ U σ.length,L6,L6] (σ++[J []])=Y (Ϙ [BD$ kj v P,BD$ bh ⟨q,S,ss⟩,BD s.D,BD$ Z (rd v S q s).f,BD$ U σ.length,c,y6]) (σ++[J$ Sl (rd v S q s).x]):=b;unfold kg ZU Fc;simp[w,(s1 s),(s2 s),(pN o s),b,fz]
end
structure gC(p:Pv):Prop where
 q:p.q=0\/p.q=1
 n:0<p.y.length/\p.y.length<=2
 s:∀ s∈p.y,Hn p.q s
noncomputable def RL(a:List Rd):D:=ώ [ώ$ a.map Rd.D]
def yq(v:Vw)(p:Pv):List Rd:=p.y.map$ rd v p.S p.q
def XR a:cl (RL a)=A3:=by
 have:=ycz a;unfold RL;simp[this]
def v4(h:gC p) b:Fi [kj v [bh p]] b=Y (RL$ yq v p) b:=by
 obtain⟨q,S,a⟩:=p;have g:∀ b,Mb [9,14,16] "pots" (kj v _) b=Y (ώ [bh ⟨q,S,a⟩]) b:=λb=>Ih (Pn rfl) rfl rfl;have l:∀ c,cj (Tk (bp$ kh$ Sa ib (ja 2)$ eC$ Z 1) [0,2] (wc 0) am$ Ye 3 kg []$ Ba (ja 2)$ Ba (ja 3)$ Ba (ja 0) Ua) [BD$ kj v [bh ⟨q,S,a⟩],BD$ U b.length,BD$ bh ⟨q,S,a⟩] c=Y (ώ$ (yq v ⟨q,S,a⟩).map Rd.D) c:=λc=>by
  unfold yq;rw[Qb];refine Av (s:=.seq$ a.map Sn.D) (ix:=[0,2]) Sn.D _ (by unfold bh;simp) (λi x=>Ab BD$ dt a _ i) (show a.length<=1000 from ub h.n.2 ⋯) (λs k j=>?_) (λs x=>gQ _);have r:=D9 v [bh ⟨q,S,a⟩] (c++j) S q a h.q$ h.s s k;rw[show (Rd.D ∘ rd v S q) s=(rd v S q s).D from rfl];generalize c++j=ό,s.D=w,kj v [bh ⟨q,S,a⟩]=V,bh ⟨q,S,a⟩=f,(rd v S q s).D=R at *;simp[r]
 have e:=zev (σ:=b) (xs:=[]) (d:=ώ$ (yq v ⟨q,S,a⟩).map Rd.D) ⋯;rw[wg]at e;have o:∀ m,jv lj m (U b.length) (b++[ϑ []])=(m$ b++[ϑ []]).bind (lj$ U b.length):=λm=>hD (xs:=[]) (by unfold Bf af;simp);have fz:lg b (Y (U b.length)$ b++[ϑ [ώ$ (yq v ⟨q,S,a⟩).map Rd.D]])=Y (RL$ yq v ⟨q,S,a⟩) b:=gx$ XR _;unfold Fi sY Fc;dsimp only;generalize kj v [bh ⟨q,S,a⟩]=V,bh ⟨q,S,a⟩=f,(yq v ⟨q,S,a⟩).map Rd.D=t,RL (yq v ⟨q,S,a⟩)=u at *;simp[g,l,e,o,fz,-lr]
def Œ a(s:a.length<=2) c:Qf [RL a] c=Y (ώ$ (List.range a.length).map λ(i:Nat)=>ώ [Z i]) c:=by
 have n:∀ e,wk [ώ$ a.map Rd.D] e=Y (Z a.length) e:=λe=>by simp
 have l:∀ e,cj (Tk (bp$ Gv$ ak wk$ Ba (ja 2) Ua) [4] (wc 0) am$ Sa lh (ja 2)$ Em$ Ba (ja 0) Ua) [BD$ RL a,BD$ ώ [ώ []],BD$ ώ$ a.map Rd.D,BD$ U c.length,BD$ ώ []] e=Y (ώ$ (List.range a.length).map λ(i:Nat)=>ώ [Z i]) e:=λe=>by
  have q:dB (Z a.length) e=Y (.seq$ (List.range a.length).map λ(i:Nat)=>Z i) e:=by
   rw[GS ⋯ ⋯];rfl
  have r:Gv (ak wk$ Ba (ja 2) Ua) [BD$ RL a,BD$ ώ [ώ []],BD$ ώ$ a.map Rd.D,BD$ U c.length,BD$ ώ []] e=Y (.seq$ (List.range a.length).map λ(i:Nat)=>Z i) e:=by
   generalize a.map Rd.D=f at *;simp[n,q]
  exact Av (ix:=[4]) (xs:=List.range a.length) (fe:=Sa lh (ja 2)$ Em$ Ba (ja 0) Ua) (λ(i:Nat)=>Z i) (λ(i:Nat)=>ώ [Z i]) r (λi d=>Ab BD$ dt (List.range a.length) _ i) (by simp;lia) (λi d j=>by
   have h:∀ e,lh (ώ []) (ώ [Z i]) e=Y (ώ [Z i]) e:=λe=>by rw[AJ (by simp[Yf])];rfl
   simp[h]) (λi d=>by simp)
 have k:vf ((List.range a.length).map λ(i:Nat)=>ώ [Z i])=A3:=Xs λd hd=>by
  obtain⟨i,_,rfl⟩:=La.mp hd;simp
 have ex:=AW (σ:=c) (ys:=[]) (zs:=(List.range a.length).map λ(i:Nat)=>ώ [Z i]) (by simp;lia);rw[wg]at ex;have p:∀ m,jv Gw m (U c.length) (c++[ϑ []])=(m$ c++[ϑ []]).bind (Gw$ U c.length):=λm=>hD (xs:=[]) (by unfold Bf af;simp);have fz:=gx (σ:=c) k;have b:LM [BD$ RL a,BD$ ώ [ώ []],BD$ ώ$ a.map Rd.D,L6,L6] c=Y (Ϙ [BD$ RL a,BD$ U c.length,BD$ ώ$ a.map Rd.D,BD$ U c.length,BD$ ώ []]) (c++[ϑ ((List.range a.length).map λ(i:Nat)=>ώ [Z i])]):=by
  generalize a.map Rd.D=f,(List.range a.length).map (λ(i:Nat)=>ώ [Z i])=g at *;simp[l,ex,p,-lr]
 have o:Qj (wc 2) LM [ώ$ a.map Rd.D] [BD$ RL a,BD$ ώ [ώ []],L6,L6,L6] c=Y (Ϙ [BD$ RL a,BD$ U c.length,BD$ ώ$ a.map Rd.D,BD$ U c.length,BD$ ώ []]) (c++[ϑ ((List.range a.length).map λ(i:Nat)=>ώ [Z i])]):=by
  rw[iu];simp only[Zb,qc];rw[b,zd,Vn,lw]
 unfold Qf jU Fc;dsimp only;unfold RL at *;generalize ώ (a.map Rd.D)=f,(List.range a.length).map (λ(i:Nat)=>ώ [Z i])=g at *;simp[o,fz]
def F5{k:Nat}(d:b[k]?=BD r) a:De [RL b,ώ [Z k]] a=Y (ώ [r.D]) a:=by
 have e:∀ a,ib _ _ a=Y r.D a:=λa=>XM$ Aq (by rw[Na,d];rfl);have c:=gQ r;have l:=lcP (xs:=[()]) (ix:=[]) (fe:=Sa ib (ja 0)$ ja 1) (ρ:=[BD$ RL b,BD _]) (λg=>ώ _) (λg=>Z k) _ (ĭ (i:=0) (j:=1) (σ:=a) (xs:=[ώ _]) (ys:=[Z k]) rfl rfl) (λi j h=>by
  show rJ _ _ i _=_
  match i,h with
  |0,_=>rfl
  |1,_=>rfl) ⋯ (λx f j=>by simp[e]) (λx g=>c)
 rw[show [()].map _=[r.D]from rfl]at l;unfold De Fc
 simp_all
theorem eW{a:Type}{f:D->Option D}{g h:a->D}:∀ {xs:List a},(∀ x∈xs,f (g x)=BD (h x))->Rl f (xs.map g)=BD (xs.map h)
 |[],_=>rfl
 |x::xs,H=>by
  rw[gb,Rl,H x ya,eW λy b=>H y$ ra _ b];rfl
noncomputable def gK(x:List Lo):Kv:=x.map λl=>(.inl l.w,ώ [l.D])
noncomputable def gD(x:List Lo):D:=Ϭ ((gK x).map (·.1)) ((gK x).map (·.2))
noncomputable def rK(n:Nat)(x:List Lo):Kv:=x.zipIdx.map λz=>(.inl z.1.w,U (n+1+z.2))
noncomputable def lS(x:List Lo):Ca:=x.map λl=>ϑ [l.D]
structure uH(x:List Lo):Prop where
 d:(x.map Lo.w).Nodup
 l:x.length<=6
 k:∀ l∈x,(l.k == ("open" : Str))=Ŷ
def EX{l:List Lo}(hd:(l.map Lo.w).Nodup)(h:l[i]?=BD t):∀ u∈l.take i,u.w≠t.w:=by
 have a:((l.take$ i+1).map Lo.w).Nodup:=hd.sublist$ (jl _ _).map _;rw[jB h,vc,Uc]at a;exact λu b e=>a.2.2 u.w (ge b) t.w ⋯ e
theorem Μ n x:(rK n x).map (·.1)=(gK x).map (·.1):=by
 unfold rK gK;rw[Qb,Qb,show ((λx=>x.1) ∘ λz:Lo × Nat=>((.inl z.1.w),U _))=(λl:Lo=>(.inl l.w:Nc)) ∘ Prod.fst from rfl,<-Qb,Ht];rfl
def Ľ a x:lg a (Y (U a.length)$ a++J (rK a.length x)::lS x)=Y (gD x) a:=by
 unfold lg;dsimp only;rw[ia ⋯];have b:∀ n,(a++J (rK a.length x)::lS x)[a.length+1+n]?=(lS x)[n]?:=λn=>by
  rw[pc ⋯,show a.length+1+n - a.length=n+1 by lia,List.getElem?_cons_succ]
 have:fz a.length (a++J (rK a.length x)::lS x) 6 (U a.length)=BD (gD x):=by
  have e:(a++J (rK a.length x)::lS x)[a.length]?=BD (J$ rK a.length x):=by simp
  unfold fz;dsimp only;rw[qa$ qd _,e];dsimp only;have h:=eW (f:=fz a.length (a++J (rK a.length x)::lS x) 5) (xs:=x.zipIdx) (g:=λz=>U$ a.length+1+z.2) (h:=λz=>ώ [z.1.D]) (λz c=>by
   have c:=xg.mp c;unfold fz;rw[qa ⋯];dsimp only;rw[qa ⋯,b];unfold lS;rw[Na,c];dsimp only[Option.map_some];rw[UL (λd hd=>pC hd) (show vf [z.1.D]=A3 by simp[vf,rY])];rfl)
  rw[show (rK a.length x).map (λx:Nc × D=>x.2)=x.zipIdx.map λz=>U$ a.length+1+z.2 by unfold rK;rw[Qb];rfl,h];unfold gD;rw[<-Μ a.length x,show (gK x).map (·.2)=x.zipIdx.map λz=>ώ [z.1.D] by
   rw[show (λz:Lo × Nat=>ώ [z.1.D])=(λl:Lo=>ώ [l.D]) ∘ Prod.fst from rfl,<-Qb,Ht];unfold gK;rw[Qb];rfl]
  rfl
 rw[this]
def zwf{r:Rd}(h:uH r.x) σ:Cg [ώ [r.D]] σ=Y (gD r.x) σ:=by
 have R:=h.l;have E:∀ σ,ib r.D (Z 1) σ=Y (Ϭ ((Sl r.x).map (·.1)) ((Sl r.x).map (·.2))) σ:=λσ=>by unfold Rd.D;simp
 obtain⟨O,P,o,b,c,rfl,rfl⟩:=vE (nx:=gm$ Sl r.x) (tg:=Hi 2$ Oe (wc 3)$ Oe (wc 4) Qi) (body:=xW) (N:=(Sl r.x).length) (λi s g=>∃ b c,s=[BD$ ώ [r.D],BD$ U σ.length,BD r.D,b,c]/\g=σ++J (rK σ.length$ r.x.take i)::lS (r.x.take i)) (λi s g j G=>by
  obtain⟨b,c,rfl,rfl⟩:=G;have j:i<r.x.length:=by simpa [Sl]using j
  have e:r.x[i]?=BD r.x[i]:=ba.mpr ⟨j,rfl⟩;generalize r.x[i]=l at *;have p:=EX h.d e;have q:(r.x.take i).length=i:=by rw[ci];omega
  have m:(lS$ r.x.take i).length=i:=by unfold lS;rw[Ra,q]
  have u:(σ++J (rK σ.length$ r.x.take i)::lS (r.x.take i)).length=σ.length+1+i:=by simp[m];omega
  have t:(σ++J (rK σ.length$ r.x.take i)::lS (r.x.take i))++[ϑ []]=σ++J (rK σ.length$ r.x.take i)::(lS (r.x.take i)++[ϑ []]):=by simp
  have F:Rn (rK σ.length$ r.x.take i) (.inl l.w)=L6:=by
   unfold Rn rK;rw[vu.mpr,Option.map_none];intro z f;obtain⟨y,k,rfl⟩:=La.mp f;have:=p y.1$ wa$ xg.mp k;simp[this]
  have ύ:Dm (rK σ.length$ r.x.take i) (.inl l.w) (U$ σ.length+1+i)=rK σ.length (r.x.take$ i+1):=by
   rw[aA _ λz f=>by
    unfold rK at f;obtain⟨y,k,rfl⟩:=La.mp f;have:=p y.1$ wa$ xg.mp k;simpa using this]
   unfold rK;rw[jB e,List.zipIdx_append,q];simp
  have I:∀ a,zx BA a (U σ.length) (σ++J (rK σ.length$ r.x.take i)::lS (r.x.take i))=(a$ σ++J (rK σ.length$ r.x.take i)::lS (r.x.take i)).bind (BA$ U σ.length):=λa=>by
   have:mi (σ++J (rK σ.length$ r.x.take i)::lS (r.x.take i)) (U σ.length)=BD (rK σ.length$ r.x.take i):=by unfold mi;simp
   unfold zx;rw[this];rfl
  have K:(rK σ.length$ r.x.take i).length<1000:=by unfold rK;rw[Ra,List.length_zipIdx];omega
  have L:BA (U σ.length) [Z l.w,U$ σ.length+1+i] (σ++J (rK σ.length$ r.x.take i)::(lS (r.x.take i)++[ϑ []]))=Y (U$ σ.length+1+i) (σ++J (rK σ.length$ r.x.take$ i+1)::(lS (r.x.take i)++[ϑ []])):=by
   have C:(σ++J (rK σ.length$ r.x.take i)::(lS (r.x.take i)++[ϑ []]))[σ.length]?=BD (J$ rK σ.length$ r.x.take i):=by simp
   unfold BA;simp only[Vi,C,F];simp[ύ,Yf,K]
  have n:(σ++J (rK σ.length$ r.x.take$ i+1)::(lS (r.x.take i)++[ϑ []]))[σ.length+1+i]?=BD (ϑ []):=by
   rw[pc ⋯,show σ.length+1+i - σ.length=i+1 by omega,List.getElem?_cons_succ,pc ⋯,m];simp
  have H:∀ a,jv lj a (U$ σ.length+1+i) (σ++J (rK σ.length$ r.x.take$ i+1)::(lS (r.x.take i)++[ϑ []]))=(a$ σ++J (rK σ.length$ r.x.take$ i+1)::(lS (r.x.take i)++[ϑ []])).bind (lj$ U$ σ.length+1+i):=λa=>hD (xs:=[]) (by unfold Bf af;simp[n]);have B:lj (U$ σ.length+1+i) [l.D] (σ++J (rK σ.length$ r.x.take$ i+1)::(lS (r.x.take i)++[ϑ []]))=Y Ϛ (σ++J (rK σ.length$ r.x.take$ i+1)::lS (r.x.take$ i+1)):=by
   unfold lj af;simp only[n];rw[ia (by simp[Yf]),Rf _ _ ⋯,show σ.length+1+i - σ.length=i+1 by omega,Zb,Rf _ _ ⋯,m,jB e];unfold lS;simp
  refine⟨Ϗ [Z l.w,l.D],[BD$ ώ [r.D],BD$ U σ.length,BD r.D,BD$ Z l.w,BD l.D],[BD$ ώ [r.D],BD$ U σ.length,BD r.D,BD$ Z l.w,BD l.D],_,?_,rfl,?_,_,_,rfl,rfl⟩
  ·unfold gm Sl;simp only[Na,e];rfl
  ·generalize l.D=Q,r.D=v at *;simp[I,u,t,L,H,B]) (λg=>EL (Sl r.x) g) 1001 0 [BD$ ώ [r.D],BD$ U σ.length,BD r.D,L6,L6] (σ++[J []]) (by simp[Sl];omega) ⋯ ⟨L6,L6,rfl,by simp[rK,lS]⟩
 rw[show (Sl r.x).length=r.x.length by simp[Sl],Uf]at o;have fz:=Ľ σ r.x;have M:eP [BD$ ώ [r.D],BD$ U σ.length,BD r.D,L6,L6] (σ++[J []])=Y (Ϙ [BD$ ώ [r.D],BD$ U σ.length,BD r.D,b,c]) (σ++J (rK σ.length r.x)::lS r.x):=by
  show rm _ _ _ _ _=_;rw[rs,ZM (A:=Sl r.x) (by simp[E]),Ym];exact o
 have lo:Qj (wc 2) eP [r.D] [BD$ ώ [r.D],BD$ U σ.length,L6,L6,L6] (σ++[J []])=Y (Ϙ [BD$ ώ [r.D],BD$ U σ.length,BD r.D,b,c]) (σ++J (rK σ.length r.x)::lS r.x):=by
  rw[iu];simp only[Zb,qc];rw[M,zd,Vn,lw]
 unfold Cg aZ Fc;dsimp only;generalize r.D=v at *;simp[lo,fz]
section
variable{l:Lo}(hk:(l.k == ("open" : Str))=Ŷ)(e:Int)(σ:Ca)
include hk
theorem M8:Wf [l.D,Ϛ,Z e] σ=Y (ϒ Ŷ) σ:=by
 have b:∀ σ,ib l.D (Z 0) σ=Y (ϐ l.k) σ:=λσ=>by unfold Lo.D;simp
 have c:∀ σ,OX Ϛ Ϛ σ=Y (ϒ Ŷ) σ:=λσ=>nr rfl;unfold Wf Fc;dsimp only;generalize l.D=L at *;generalize (l.k == ("hangs" : Str))=H at *;cases a:(l.k == ("hangs" : Str))<;>simp[b,hk,a,c]
theorem M5:tj [ώ [l.D]] σ=Y (ώ [Ϛ]) σ:=by
 have b:∀ σ,ib l.D (Z 0) σ=Y (ϐ l.k) σ:=λσ=>by unfold Lo.D;simp
 have d:=cG (src:=kh$ ja 0) (ρ:=[BD$ ώ [l.D]]) (σ:=σ) (s:=.seq _) (ix:=[]) (fi:=eT$ Sa Zh (Sa ib (ja 0)$ eC$ Z 0)$ eC$ ϐ "open") (fe:=NQ) Lo.D (λe=>Ϛ) (λe=>Ŷ) ⋯ (λi e=>Ab BD$ dt [l] Lo.D i) ⋯ (λx a j=>by
  obtain rfl:=Oa.mp a;exact⟨by simp[b,hk],λz=>by cases z⟩) (λe e e=>rfl)
 have c:∀ σ,lh (ώ [Ϛ]) (ώ []) σ=Y (ώ [Ϛ]) σ:=λσ=>by rw[AJ (by simp[Yf])];rfl
 unfold tj Fc;dsimp only
 simp_all
theorem UX:ve [ώ [l.D],Ϛ,Z e] σ=Y (Z 0) σ:=by
 have b:=cG (src:=kh$ ja 0) (ρ:=[BD$ ώ [l.D],BD Ϛ,BD$ Z e]) (σ:=σ) (s:=.seq _) (ix:=[1,2]) (fi:=eT$ Ye 3 Wf []$ Ba (ja 0)$ Ba (ja 2)$ Ba (ja 3) Ua) (fe:=NQ) Lo.D (λc=>Ϛ) (λc=>Ŷ) ⋯ (λi c=>Ab BD$ dt [l] Lo.D i) ⋯ (λx a j=>by
  obtain rfl:=Oa.mp a;exact⟨by simp[(M8 hk e _)],λz=>by cases z⟩) (λc c c=>rfl)
 have s:=UP [] σ;unfold ve Fc;dsimp only
 simp_all
theorem è:Re [ώ [l.D],Z e] σ=Y Ϛ σ:=by
 have fa:=M5 hk;have m:=QU (f:=λa:Unit=>Ϛ) (key:=λa=>0) (x:=()) (fe:=Ye 3 ve []$ Ba (ja 1)$ Ba (ja 0)$ Ba (ja 2) Ua) (rest:=[BD$ ώ [l.D],BD$ Z e]) (σ:=σ) (by simp[(λσ=>UX hk e σ)]);unfold Re IT
 simp_all
end
noncomputable def FK(x:List Lo):Kv:=x.map λl=>(.inl l.w,Ϛ)
theorem zuc(h:l∈x):Rn (FK x) (.inl l.w)=BD Ϛ:=by
 unfold Rn;cases a:(FK x).find? λb:Nc × D=>decide$ b.1=(.inl l.w)with
 |none=>
  have:=vu.mp a _$ ge h
  simp_all
 |some z=>
  have:=List.mem_of_find?_eq_some a;obtain⟨y,_,rfl⟩:=La.mp this;rfl
theorem BY x:vf ((FK x).map (·.2))=A3:=Xs λd hd=>by
 unfold FK at hd;rw[Qb]at hd;obtain⟨p,_,rfl⟩:=La.mp hd;rfl
noncomputable def Uo(r:Rd)(k:Nat):D:=Ϗ [Z r.f,ώ [Z k],Ϭ ((FK r.x).map (·.1)) ((FK r.x).map (·.2))]
def rS r k:cl (Uo r k)=A3:=by unfold Uo;simp[cl,BY]
section
variable{r:Rd}(h:uH r.x)(e:Int)(σ:Ca)
include h
theorem D5:fm [ώ [r.D],gD r.x,U σ.length,Z e] (σ++[J$ FK r.x])=Y (Z r.f) (σ++[J$ FK r.x]):=by
 have M:=h.l;have F:∀ σ,ib r.D (Z 0) σ=Y (Z r.f) σ:=λσ=>by unfold Rd.D;simp
 have l:=Av (xs:=[r]) (src:=kh$ ja 0) (ρ:=[BD$ ώ [r.D],BD$ gD r.x,BD$ U σ.length,BD$ Z e,L6,L6,L6]) (σ:=σ++[J$ FK r.x]) (s:=.seq _) (ix:=[]) (fe:=Sa ib (ja 0)$ eC$ Z 0) Rd.D (λr=>Z r.f) ⋯ (λi O=>Ab BD$ dt [r] Rd.D i) ⋯ (λx m j=>by
  obtain rfl:=Oa.mp m;simp[F]) (λO O=>rfl)
 have l:cj _ _ _=Y (ώ [Z r.f]) _:=l;have s1:=UP [r.f]$ σ++[J$ FK r.x];rw[gb,Df,show [r.f].sum=r.f by simp]at s1;have I:∀ f p q t u c d (x:D) (σ:Ca),Hw (λa b=>a+b) 4 f [p,q,t,u,BD x,c,d] σ=fk [p,q,t,u,BD x,c,d] (EC _ 4 [p,q,t,u,BD x,c,d] x) _:=λO O O O O O O O O=>yK rfl;obtain⟨ύ,K,E,c,d,rfl,rfl⟩:=vE (nx:=gm$ gK r.x) (tg:=Hi 2$ Oe (wc 5)$ Oe (wc 6) Qi) (body:=JP) (N:=(gK r.x).length) (λO v n=>∃ c d,v=[BD$ ώ [r.D],BD$ gD r.x,BD$ U σ.length,BD$ Z e,BD$ Z r.f,c,d]/\n=σ++[J$ FK r.x]) (λi v n o C=>by
  obtain⟨c,d,rfl,rfl⟩:=C;have o:i<r.x.length:=by simpa [gK]using o
  have m:r.x[i]?=BD r.x[i]:=ba.mpr ⟨o,rfl⟩;generalize r.x[i]=l at *;have y:=wa m;have G:=UX (h.k l y) e$ σ++[J$ FK r.x];have g:Dl (U σ.length) (Z l.w) (σ++[J$ FK r.x])=Y Ϛ (σ++[J$ FK r.x]):=by
   unfold Dl mi;simp[Vi,zuc y]
  refine⟨Ϗ [Z l.w,ώ [l.D]],[BD$ ώ [r.D],BD$ gD r.x,BD$ U σ.length,BD$ Z e,BD$ Z r.f,BD$ Z l.w,BD$ ώ [l.D]],[BD$ ώ [r.D],BD$ gD r.x,BD$ U σ.length,BD$ Z e,BD$ Z r.f,BD$ Z l.w,BD$ ώ [l.D]],_,?_,rfl,?_,_,_,rfl,rfl⟩
  ·unfold gm gK;simp only[Na,m];rfl
  ·generalize l.D=L,r.D=B,gD r.x=z,σ++[J$ FK r.x]=ό at *;simp[G,I,g]) (λn=>EL (gK r.x) n) 1001 0 [BD$ ώ [r.D],BD$ gD r.x,BD$ U σ.length,BD$ Z e,BD$ Z r.f,L6,L6] (σ++[J$ FK r.x]) (by simp[gK];lia) ⋯ ⟨L6,L6,rfl,rfl⟩
 have H:rm (EA$ ja 1) (Hi 2$ Oe (wc 5)$ Oe (wc 6) Qi) JP [BD$ ώ [r.D],BD$ gD r.x,BD$ U σ.length,BD$ Z e,BD$ Z r.f,L6,L6] (σ++[J$ FK r.x])=Y (Ϙ [BD$ ώ [r.D],BD$ gD r.x,BD$ U σ.length,BD$ Z e,BD$ Z r.f,c,d]) (σ++[J$ FK r.x]):=by
  rw[rs,ZM (A:=gK r.x) rfl,Ym];exact E
 unfold fm RV Fc;dsimp only;generalize r.D=B,gD r.x=z,σ++[J$ FK r.x]=ό at *;simp[l,s1,H,-lr,-rs]
theorem ziu(k:Nat):Pf [ώ [r.D],ώ [Z k],Z e] σ=Y (Uo r k) σ:=by
 have O:=h.l;have lo:=zwf h;obtain⟨I,ύ,q,c,y6,rfl,rfl⟩:=vE (nx:=gm$ gK r.x) (tg:=Hi 2$ Oe (wc 5)$ Oe (wc 6) Qi) (body:=MK) (N:=(gK r.x).length) (λi a g=>∃ c y6,a=[BD$ ώ [r.D],BD$ ώ [Z k],BD$ Z e,BD$ gD r.x,BD$ U σ.length,c,y6]/\g=σ++[J$ FK$ r.x.take i]) (λi a g o v=>by
  obtain⟨c,y6,rfl,rfl⟩:=v;have o:i<r.x.length:=by simpa [gK]using o
  have b:r.x[i]?=BD r.x[i]:=ba.mpr ⟨o,rfl⟩;generalize r.x[i]=l at *;have B:=wa b;have F:=EX h.d b;have E:=è (h.k l B) e;have st:=λa=>Wp (ρ:=a) (σ:=σ++[J$ FK$ r.x.take i]) (d:=Ϛ) (n:=σ.length) (w:=l.w) (kvs:=FK$ r.x.take i) ⋯ (by unfold FK;simp;omega);rw[bD,aA _ λz p=>by
   unfold FK at p;obtain⟨y,C,rfl⟩:=La.mp p;have:=F y C;simpa using this]at st
  rw[show FK (r.x.take i)++[(.inl l.w,Ϛ)]=FK (r.x.take$ i+1) by rw[jB b];unfold FK;simp]at st;refine⟨Ϗ [Z l.w,ώ [l.D]],[BD$ ώ [r.D],BD$ ώ [Z k],BD$ Z e,BD$ gD r.x,BD$ U σ.length,BD$ Z l.w,BD$ ώ [l.D]],[BD$ ώ [r.D],BD$ ώ [Z k],BD$ Z e,BD$ gD r.x,BD$ U σ.length,BD$ Z l.w,BD$ ώ [l.D]],_,?_,rfl,?_,_,_,rfl,rfl⟩
  ·unfold gm gK;simp only[Na,b];rfl
  ·generalize l.D=L,r.D=t,gD r.x=s,σ++[J$ FK$ r.x.take i]=ό,σ++[J$ FK$ r.x.take$ i+1]=ϊ at *;simp[E,st]) (λg=>EL (gK r.x) g) 1001 0 [BD$ ώ [r.D],BD$ ώ [Z k],BD$ Z e,BD$ gD r.x,BD$ U σ.length,L6,L6] (σ++[J []]) (by simp[gK];omega) ⋯ ⟨L6,L6,rfl,by simp[FK]⟩
 rw[show (gK r.x).length=r.x.length by simp[gK],Uf]at q;have G:rm (EA$ ja 3) (Hi 2$ Oe (wc 5)$ Oe (wc 6) Qi) MK [BD$ ώ [r.D],BD$ ώ [Z k],BD$ Z e,BD$ gD r.x,BD$ U σ.length,L6,L6] (σ++[J []])=Y (Ϙ [BD$ ώ [r.D],BD$ ώ [Z k],BD$ Z e,BD$ gD r.x,BD$ U σ.length,c,y6]) (σ++[J$ FK r.x]):=by
  rw[rs,ZM (A:=gK r.x) rfl,Ym];exact q
 have H:=D5 h e σ;have fz:lg σ (Y (Ϗ [Z r.f,ώ [Z k],U σ.length])$ σ++[J$ FK r.x])=Y (Uo r k) σ:=by
  unfold lg;dsimp only;rw[ia ⋯];have h:=VS (σ:=σ) (kvs:=FK r.x) (j:=[]) (m:=4)$ BY ..;have u:=pC (k:=σ.length) (σ:=σ++[J$ FK r.x]) (m:=5) (show cl (ώ [Z k])=A3 by simp);have:fz σ.length (σ++[J$ FK r.x]) 6 (Ϗ [Z r.f,ώ [Z k],U σ.length])=BD (Uo r k):=by
   unfold fz;rw[qa ⋯];dsimp only;unfold Rl;unfold Rl;unfold Rl;rw[h,u];rfl
  rw[this]
 unfold Pf n0 Fc;dsimp only;generalize r.D=t,gD r.x=s,Uo r k=M,ώ [Z k]=K at *;simp[lo,G,H,fz,-rs]
end
def wS(v:Vw)(S:Sm)(q:Int)(s:Sn):Int:=ow q s+Hs v S s.ts
def wD(v:Vw)(p:Pv):Int:=match p.y with
 |[s]=>wS v p.S p.q s
 |[s,t]=>if wS v p.S p.q t<wS v p.S p.q s then wS v p.S p.q t else wS v p.S p.q s
 |_=>0
def V8(h:Hn q s):uH (rd v S q s).x:=by
 refine⟨?_,by unfold rd;simp;exact h.l,λl a=>?_⟩
 ·unfold rd;rw[Qb];exact h.d
 ·unfold rd at a;obtain⟨t,_,rfl⟩:=La.mp a;show (lk v S t == ("open"))=Ŷ;rcases RZ v S t with e|e|e|e<;>rw[e]<;>decide
def LR(h:gC p) a:Nj [kj v [bh p]] a=Y (Z$ wD v p) a:=by
 have M:=λa=>v4 (v:=v) h a;have C:∀ a,Mb [14,15,16] "every" (kj v [bh p]) a=Y (Z v.e) a:=λa=>Ih (Pn rfl) rfl rfl;have G:(yq v p).length<=2:=by unfold yq;rw[Ra];exact h.n.2
 have I:∀ r∈yq v p,uH r.x:=λr u=>by
  obtain⟨s,H,rfl⟩:=La.mp u;exact V8$ h.s s H
 have E:∃ k:Nat,∃ r,(yq v p)[k]?=BD r/\r.f=wD v p/\∀ a,Gx (Sa ib (ja 0)$ eC$ Z 0) [] [ώ ((List.range (yq v p).length).map λi=>Uo ((yq v p).getD i ⟨0,[]⟩) i)] a=Y (Uo r k) a:=by
  have g:∀ (r:Rd) (k:Nat) a,ib (Uo r k) (Z 0) a=Y (Z r.f) a:=λr k a=>by unfold Uo;simp
  unfold yq wD
  match ϋ:p.y,h.n with
  |[s],_=>
   refine⟨0,rd v p.S p.q s,rfl,rfl,λa=>?_⟩;exact QU (f:=λi:Nat=>Uo (rd v p.S p.q s) i) (key:=λJ=>(rd v p.S p.q s).f) (x:=0) (by simp[g])
  |[s,t],_=>
   have m:=λa=>δ (f:=λi:Nat=>Uo (if i=0 then rd v p.S p.q s else rd v p.S p.q t) i) (key:=λi=>(if i=0 then rd v p.S p.q s else rd v p.S p.q t).f) (x:=0) (y:=1) (fe:=Sa ib (ja 0)$ eC$ Z 0) (rest:=[]) (σ:=a) (by simp[g]) (by simp[g]);by_cases c:wS v p.S p.q t<wS v p.S p.q s
   ·refine⟨1,rd v p.S p.q t,rfl,(ia c).symm,λa=>(m a).trans ?_⟩;exact Ab (λz=>Y z a)$ ia c
   ·refine⟨0,rd v p.S p.q s,rfl,(qa c).symm,λa=>(m a).trans ?_⟩;exact Ab (λz=>Y z a)$ qa c
 apply b_;intro z_;obtain⟨k,r,T,u,w⟩:=E;apply z_;generalize yq v p=b,kj v _=V,v.e=e at *;have c:=Œ b G;have Q:=XR b;have ύ:∀ a,cj (Tk (bp$ kh$ Ye 1 Qf []$ Ba (ja 1) Ua) [1,0] (wc 0) am$ Ye 3 Pf []$ Ba (Ye 2 De []$ Ba (ja 2)$ Ba (ja 0) Ua)$ Ba (ja 0)$ Ba (Vc (Mb [14,15,16] "every")$ ja 3) Ua) [BD V,BD$ RL b,L6] a=Y (ώ$ (List.range b.length).map λi=>Uo (b.getD i ⟨0,[]⟩) i) a:=λa=>by
  refine Av (s:=.seq$ (List.range b.length).map λ(i:Nat)=>ώ [Z i]) (λ(i:Nat)=>ώ [Z i]) _ ?_ (λi J=>Ab BD$ dt _ _ i) (by simp;omega) (λi o j=>?_) (λi J=>rS _ _)
  ·generalize RL b=R,(List.range b.length).map (λ(i:Nat)=>ώ [Z i])=N at *;simp[c]
  ·have o:i<b.length:=ke.mp o;have d:b[i]?=BD b[i]:=ba.mpr ⟨o,rfl⟩;have A:=F5 d;have K:=λa=>ziu (I _$ wa d) e a i;have B:b.getD i ⟨0,[]⟩=b[i]:=by rw[ah,d];rfl
   rw[B];generalize b[i]=r at *;generalize RL b=R,r.D=P,Uo r i=l,ώ [Z i]=O at *;simp[A,K,C]
 have F:=rS r k;have g:∀ a,ib (Uo r k) (Z 0) a=Y (Z r.f) a:=λa=>by unfold Uo;simp
 rw[u]at g;generalize Uo r k=l,(List.range b.length).map (λi=>Uo (b.getD i ⟨0,[]⟩) i)=PL at *;have L:∀ a,Pj [V] a=Y l a:=λa=>by
  have w:=w a;unfold Pj QS;generalize RL b=R at *;simp[M,(ύ a),w,F,-lr]
 unfold Nj Fc;simp[L,g]
def Di{a j:Ca}{k:Nat}(h:a[k]?=BD o):(a++j)[k]?=BD o:=by
 rw[Xa (ba.mp h).1,h]
structure Ac where
 (p q:Int)
 c:Nat
 m:Sn
 G:D
 y:List Sn
 L:g'
def Ac.fs(a:Ac):List$ Str × D:=[("pot",Z a.p),("side",Z a.q),("mine",a.m.D),("grant",a.G),("may",ώ (a.y.map Sn.D)),("strikes",ώ a.L)]
def Uh(b:Ca)(n:Nat)(a:Ac):Prop:=b[n]?=BD (ϓ a.c a.fs)
def Uh.app(h:Uh b n a) j:Uh (b++j) n a:=Di h
def OV(h:[10,11,12,13].contains c=A3):[7,8,10,11,12,13].contains c=A3:=by
 simp at h ⊢;omega
structure Ac.Ok(a:Ac):Prop where
 p:0<=a.p/\a.p<=2
 q:a.q=0\/a.q=1
 c:[10,11,12,13].contains a.c=A3
 g:cl a.G=A3
 l:vf a.L=A3
section
variable{σ:Ca}{n:Nat}{a:Ac}(h:Uh σ n a)(o:a.Ok)
include h
theorem So:gk σ (U n)=BD (a.c,a.fs):=by
 have h:σ[n]?=BD _:=h;unfold gk;simp[h]
include o
theorem nt:Mb [10,11,12,13] "pot" (U n) σ=Y (Z a.p) σ:=Ih (So h) o.c rfl
theorem Jt:Mb [7,8,10,11,12,13] "side" (U n) σ=Y (Z a.q) σ:=Ih (So h) (OV o.c) rfl
theorem Px:Mb [10,11,12,13] "mine" (U n) σ=Y a.m.D σ:=Ih (So h) o.c rfl
theorem BR:Mb [10,11,12,13] "grant" (U n) σ=Y a.G σ:=Ih (So h) o.c rfl
theorem CP:Mb [10,11,12,13] "may" (U n) σ=Y (ώ$ a.y.map Sn.D) σ:=Ih (So h) o.c rfl
theorem ZC:Mb [10,11,12,13] "strikes" (U n) σ=Y (ώ a.L) σ:=Ih (So h) o.c rfl
end
theorem Ó c i a b d e f g h:vj c 7 i [a,b,d,e,f,g] h=bu h.length (i [U h.length,a,b,d,e,f,g]$ h++[ϓ c []]):=VA rfl
def qE{a:Ac}(h:a.Ok) σ:vj a.c 7 qq [Z a.p,Z a.q,a.m.D,a.G,ώ$ a.y.map Sn.D,ώ a.L] σ=Y (U σ.length) (σ++[ϓ a.c a.fs]):=by
 have o:=VF a.y;have r:=h.l;have n:=h.c;unfold Ac.fs;generalize a.p=e,a.q=j,a.c=c,a.m.D=m,a.G=g,a.L=z,a.y.map Sn.D=y at *;have t:∀ p:D,Mh "pot" p []=([("pot",p)]:List (Str × D)):=λB=>rfl;have u:∀ p s:D,Mh "side" s [("pot",p)]=([("pot",p),_]:List (Str × D)):=λB B=>rfl;have w:∀ p s:D,Mh "mine" m [("pot",p),("side",s)]=([("pot",p),("side",s),("mine",m)]:List (Str × D)):=λB B=>rfl;have x:∀ p s:D,Mh "grant" g [("pot",p),("side",s),("mine",m)]=([("pot",p),("side",s),("mine",m),("grant",g)]:List (Str × D)):=λB B=>rfl;have p4:∀ p s:D,Mh "may" (ώ y) [("pot",p),("side",s),("mine",m),("grant",g)]=([("pot",p),("side",s),("mine",m),("grant",g),("may",ώ y)]:List (Str × D)):=λB B=>rfl;have A:∀ p s:D,Mh "strikes" (ώ z) [("pot",p),("side",s),("mine",m),("grant",g),("may",ώ y)]=([("pot",p),("side",s),("mine",m),("grant",g),("may",ώ y),("strikes",ώ z)]:List (Str × D)):=λB B=>rfl;have i:qq [U σ.length,Z e,Z j,m,g,ώ y,ώ z] (σ++[ϓ c []])=Y Ϛ (σ++[ϓ c [("pot",Z e),("side",Z j),("mine",m),("grant",g),("may",ώ y),("strikes",ώ z)]]):=by
  unfold qq Ee;simp[(λf v (b:List (Str × D)) (k:b.length<1000)=>bC (ρ:=[BD$ U σ.length,BD$ Z e,BD$ Z j,BD m,BD g,BD$ ώ y,BD$ ώ z]) (σ:=σ) (cs:=[10,11,12,13]) (f:=f) (d:=v) (c:=c) (fs:=b) n k),(λf v (b:List (Str × D)) (k:b.length<1000)=>bC (ρ:=[BD$ U σ.length,BD$ Z e,BD$ Z j,BD m,BD g,BD$ ώ y,BD$ ώ z]) (σ:=σ) (cs:=[7,8,10,11,12,13]) (f:=f) (d:=v) (c:=c) (fs:=b) (OV n) k),t,u,w,x,p4,A,(WA o),(WA r)]
 rw[Ó,i,Yy]
noncomputable def gc(p q:Int)(m:Sn)(G:D)(L:g'):Ac:=⟨p,q,11,m,G,[m],L⟩
noncomputable def Ul(p q:Int)(m o:Sn)(G:D)(L:g'):Ac:=⟨p,q,12,m,G,[m,o],L⟩
noncomputable def Pr(p q:Int)(o m:Sn)(G:D)(L:g'):Ac:=⟨p,q,13,m,G,[o,m],L⟩
noncomputable def Af(p s:Int)(X:D):D:=Ϗ [ϐ "agree",Z p,Z s,X]
noncomputable def pk(p s n:Int):D:=Ϗ [ϐ "strike",Z p,Z s,Z n]
def Pk(p s:Int)(X:Sn):D:=Ϗ [ϐ "offer",Z p,Af p s X.D]
noncomputable def vq(p s n:Int):D:=Ϗ [ϐ "struck",Z p,pk p s n]
def Ip(p:Int)(m s:Sn):D:=Ϗ [ϐ "accept",Z p,Af p 1 s.D,pk p 1 m.n]
def Xo(p:Int)(s:Sn):D:=Ϗ [ϐ "ask",Z p,Ϗ [Z s.a,Z s.b],Ϗ$ s.ts.map Ti.D]
def ID{xs}(h:∀ x∈xs,pl n x=A3):pl (n+1) (Ϗ xs)=A3:=qb.mpr h
def ă n(t:Ti):pl (n+1) t.D=A3:=by simp[pl,Ti.D]
def nM n(b:List Ti):pl (n+2) (Ϗ$ b.map Ti.D)=A3:=ID λx a=>by obtain⟨t,_,rfl⟩:=La.mp a;exact ă n t
def MO n(s:Sn):pl (n+3) s.D=A3:=ID λx c=>by
 have c:x=Z s.n\/x=Ϗ [Z s.a,Z s.b]\/x=Ϗ (s.ts.map Ti.D):=by simpa using c
 rcases c with rfl|rfl|rfl
 ·simp[pl]
 ·simp[pl]
 ·exact nM n s.ts
def OW n p q(s:Sn):pl (n+4) (Af p q s.D)=A3:=ID λx a=>by
 have a:x=ϐ "agree"\/x=Z p\/x=Z q\/x=s.D:=by simpa using a
 rcases a with rfl|rfl|rfl|rfl
 ·simp[pl]
 ·simp[pl]
 ·simp[pl]
 ·exact MO n s
def yiy p q s:pl 8 (Pk p q s)=A3:=ID λx a=>by
 have a:x=ϐ "offer"\/x=Z p\/x=Af p q s.D:=by simpa using a
 rcases a with rfl|rfl|rfl
 ·simp[pl]
 ·simp[pl]
 ·exact OW 3 p q s
def yix p m s:pl 8 (Ip p m s)=A3:=ID λx a=>by
 have a:x=ϐ "accept"\/x=Z p\/x=Af p 1 s.D\/x=pk p 1 m.n:=by simpa using a
 rcases a with rfl|rfl|rfl|rfl
 ·simp[pl]
 ·simp[pl]
 ·exact OW 3 p 1 s
 ·simp[pl,pk]
def P2 p q n:pl 8 (vq p q n)=A3:=by simp[pl,vq,pk]
def Iz{X}(h:cl X=A3):cl (Af p s X)=A3:=by unfold Af;simp[h]
section
variable{p:Int}(hp:0<=p/\p<=2)(σ:Ca)
include hp
theorem NJ{q}(a:q=0\/q=1) k X:xi [Ϗ [k,Z p,Z q,X]] σ=Y (ϒ A3) σ:=by
 unfold xi Fc;simp[(Ly a σ),(GV hp σ)]
theorem mY{q}(c:q=0\/q=1){s:Sn}(h:gn s.n s.a s.b s.ts):qm [Af p q s.D] σ=Y (ϒ A3) σ:=by
 have t:Ie [Af p q s.D] σ=Y (ϒ A3) σ:=by
  unfold Sn.D Af Ie Fc;simp[(Wz h σ),(λX=>NJ hp σ c (ϐ "agree") X)]
 have i:ib (Af p q s.D) (Z 0) σ=Y (ϐ "agree") σ:=by unfold Af;simp
 unfold qm Fc
 simp_all
theorem hU{q n}(a:q=0\/q=1)(h:0<=n/\n<=1000000):Qk [pk p q n] σ=Y (ϒ A3) σ:=by
 have t:Ie [pk p q n] σ=Y (ϒ A3) σ:=by
  unfold pk Ie Fc;simp[(SN h σ),(λX=>NJ hp σ a (ϐ "strike") X)]
 have i:ib (pk p q n) (Z 0) σ=Y (ϐ "strike") σ:=by unfold pk;simp
 unfold Qk Fc
 simp_all
theorem vJ{k}{x}{r}(b:r.length<=3)(h:ue [Ϗ$ ϐ k::Z p::x::r] σ=Y (ϒ A3) σ):vd [Ϗ$ ϐ k::Z p::x::r] σ=Y (ϒ A3) σ:=by
 have a:wk [Ϗ$ ϐ k::Z p::x::r] σ=Y (Z$ r.length+3) σ:=by
  have:=PK (σ:=σ)$ ϐ k::Z p::x::r;rw[this];congr 2
 have lt:decide ((r.length:Int)+3<3)=Ŷ:=Vb ⋯;unfold vd Fc;simp[h,(GV hp σ),a,lt]
theorem GP{q}(c:q=0\/q=1){s}(h:gn s.n s.a s.b s.ts):vd [Pk p q s] σ=Y (ϒ A3) σ:=by
 refine vJ hp σ ⋯ ?_;unfold ue Fc;simp[(mY hp σ c h)]
theorem DP{m s}(h:gn s.n s.a s.b s.ts)(c:0<=m.n/\m.n<=1000000):vd [Ip p m s] σ=Y (ϒ A3) σ:=by
 refine vJ hp σ ⋯ ?_;unfold ue Fc;simp[(mY hp σ _ h),(hU hp σ _ c)]
theorem HN{q}(a:q=0\/q=1){n}(h:0<=n/\n<=1000000):vd [vq p q n] σ=Y (ϒ A3) σ:=by
 refine vJ hp σ ⋯ ?_;unfold ue Fc;simp[(hU hp σ a h)]
theorem LI{s}(h:gn s.n s.a s.b s.ts):vd [Xo p s] σ=Y (ϒ A3) σ:=by
 have a:=Wz (n:=0) ⟨by lia,h.a,h.b,h.t,h.l,h.d⟩ σ;unfold Um at a;refine vJ hp σ ⋯ ?_;unfold ue Fc;simp[a]
end
def W2{s m:Sn}(h:s.Ok W)(f:m.Ok W)(i:s.n=m.n+1) c:Gi [s.D,m.D] c=Y (ϒ A3) c:=by
 have d:=aL h.st c;have e:=KH m.n m.a m.b (by have:=f.st.l;omega) c;rw[h.w]at d;rw[f.w]at e;have j:=s0 s c;have k:=s0 m c;have g:(s.n == m.n+1)=A3:=by simp[i]
 unfold Gi Fc;unfold Sn.D at *;simp[d,e,j,k,g]
section
variable{σ:Ca}{n:Nat}{a:Ac}(h:Uh σ n a)(o:a.Ok)
include h o
theorem tG s{X}(b:cl X=A3):nh [U n,Z s,X] σ=Y (Af a.p s X) σ:=by
 unfold nh Af be;simp[(nt h o),b]
theorem zG s(m:Sn):ii [U n,Z s,m.D] σ=Y (pk a.p s m.n) σ:=by
 unfold ii pk be;simp[(nt h o),(s0 m)]
end
theorem gZ k a b:rh (ϐ k) (ϐ a) b=Y (ϒ$ !(k == a)) b:=qG (by rfl)
def neI a b c:rh (Z a) (Z b) c=Y (ϒ$ decide$ a≠b) c:=by
 by_cases h:a=b<;>simp[h]
def Lx(c:0<=p/\p<=2)(d:q=0\/q=1)(a:cl G=A3)(b:vf L=A3):(gc p q m G L).Ok:=⟨c,d,rfl,a,b⟩
def VH(c:0<=p/\p<=2)(d:q=0\/q=1)(a:cl G=A3)(b:vf L=A3):(Ul p q m o G L).Ok:=⟨c,d,rfl,a,b⟩
def JJ(c:0<=p/\p<=2)(d:q=0\/q=1)(a:cl G=A3)(b:vf L=A3):(Pr p q m o G L).Ok:=⟨c,d,rfl,a,b⟩
section
variable{σ:Ca}{n:Nat}{p:Int}(hp:0<=p/\p<=2){m s:Sn}{W:Int}(hm:m.Ok W)(hs:s.Ok W)(hn:s.n=m.n+1){G:D}{L:g'}(hg:cl G=A3)(hl:vf L=A3)(hLk:L.length<=100)
include hp hg hl
include hm hs hn
theorem wY(h:Uh a n$ gc p 1 m G L):uz [U n,Pk p 0 s] a=Y (Ϗ [U a.length,Ip p m s]) (a++[ϓ 13 (Pr p 1 m s (Af p 0 s.D) L).fs]):=by
 have o:=Lx (m:=m) hp (ϙ rfl) hg hl;have d:=h.app [ϓ 13 (Pr p 1 m s (Af p 0 s.D) L).fs];have mk:vj 13 7 qq [Z p,Z 1,s.D,Af p 0 s.D,ώ [m.D,s.D],ώ L] a=Y _ (a++[ϓ 13 (Pr p 1 m s _ L).fs]):=qE (JJ (p:=p) (q:=1) (m:=m) (o:=s) hp (ϙ rfl) (Iz (p:=p) (s:=0)$ Jl s) hl) a;generalize a++[ϓ 13 (Pr p 1 m s _ L).fs]=b at *;have k:Mb [7,8,10,11,12,13] "side" (U n) a=Y (Z 1) a:=Jt h o;have l:Mb [10,11,12,13] "pot" (U n) a=Y (Z p) a:=nt h o;have f:Mb [10,11,12,13] "pot" (U n) b=Y (Z p) b:=nt d o;have r:Mb [10,11,12,13] "mine" (U n) a=Y m.D a:=Px h o;have g:Mb [10,11,12,13] "mine" (U n) b=Y m.D b:=Px d o;have t:Mb [10,11,12,13] "strikes" (U n) a=Y (ώ L) a:=ZC h o;have u:∀ a,ib (Pk p 0 s) (Z 0) a=Y (ϐ "offer") a:=λa=>by unfold Pk;simp
 have v:∀ a,ib (Pk p 0 s) (Z 2) a=Y (Af p 0 s.D) a:=λa=>by unfold Pk;simp
 have w:∀ a,ib (Af p 0 s.D) (Z 3) a=Y s.D a:=λa=>by unfold Af;simp
 have j:nh [U n,Z 0,s.D] a=Y (Af p 0 s.D) a:=tG h o 0$ Jl s;have e:nh [U n,Z 1,s.D] b=Y (Af p 1 s.D) b:=tG d o 1$ Jl s;have B:ii [U n,Z 1,m.D] b=Y (pk p 1 m.n) b:=zG d o 1 m;have A:rh (ϐ "offer") (ϐ "offer") a=Y (ϒ Ŷ) a:=Wt (by simp[pl]);have y:∀ c,oj [(11,nh)] 3 "agree_of" c (U n) a=(c a).bind (Ai 3 nh$ U n):=λc=>Tn (So h) rfl rfl;have i:∀ c,oj [(11,nh)] 3 "agree_of" c (U n) b=(c b).bind (Ai 3 nh$ U n):=λc=>Tn (So d) rfl rfl;have x:∀ c,oj [(11,ii)] 3 "strike_of" c (U n) b=(c b).bind (Ai 3 ii$ U n):=λc=>Tn (So d) rfl rfl;have z:rh (Pk p 0 s) (Ϗ [ϐ "offer",Z p,Af p 0 s.D]) a=Y (ϒ Ŷ) a:=Wt$ yiy p 0 s;unfold Ip;unfold uz Ee;simp[(GP hp a (ϖ rfl) hs.st),k,l,f,r,g,t,u,v,w,j,e,B,y,i,x,z,A,(W2 hs hm hn a),mk]
theorem CV(h:Uh c n$ gc p 0 m G L):Pe [U n,Ϗ [Z s.a,Z s.b],Ϗ$ s.ts.map Ti.D] c=Y (Ϗ [U c.length,Pk p 0 s]) (c++[ϓ 12 (Ul p 0 m s G L).fs]):=by
 have o:=Lx (q:=0) (m:=m) hp (ϖ rfl) hg hl;have g:=h.app [ϓ 12 (Ul p 0 m s G L).fs];have mk:vj 12 7 qq [Z p,Z 0,m.D,G,ώ [m.D,s.D],ώ L] c=Y _ (c++[ϓ 12 (Ul p 0 m s G L).fs]):=qE (VH (p:=p) (q:=0) (m:=m) (o:=s) hp (ϖ rfl) hg hl) c;generalize c++[ϓ 12 (Ul p 0 m s G L).fs]=e at *;have r:Mb [7,8,10,11,12,13] "side" (U n) c=Y (Z 0) c:=Jt h o;have t:Mb [10,11,12,13] "pot" (U n) c=Y (Z p) c:=nt h o;have f:Mb [10,11,12,13] "pot" (U n) e=Y (Z p) e:=nt g o;have u:Mb [10,11,12,13] "mine" (U n) c=Y m.D c:=Px h o;have v:Mb [10,11,12,13] "strikes" (U n) c=Y (ώ L) c:=ZC h o;have y:Mb [10,11,12,13] "grant" (U n) c=Y G c:=BR h o;have k:Gj [m.D] c=Y (Z W) c:=by rw[<-hm.w];exact KH _ _ _ (by have:=hm.st.l;omega) c
 have E:we [s.D,Z W] c=Y (ϒ A3) c:=by rw[<-hs.w];exact aL hs.st c
 have C:Ϗ [Z$ m.n+1,Ϗ [Z s.a,Z s.b],Ϗ$ s.ts.map Ti.D]=s.D:=by rw[<-hn];rfl
 have B:rh (ϐ "calm") (ϐ "calm") c=Y (ϒ Ŷ) c:=Wt (by simp[pl]);have j:∀ x c,Dq [x] c=Y (ϐ "calm") c:=λx c=>by unfold Dq be;simp
 have A:∀ d,oj [(11,Dq),(12,Fv),(13,Lz)] 1 "word" d (U n) c=(d c).bind (Ai 1 Dq$ U n):=λd=>Tn (So h) rfl rfl;have i:nh [U n,Z 0,s.D] e=Y (Af p 0 s.D) e:=tG g o 0$ Jl s;have z:∀ d,oj [(10,nh),(11,nh),(12,nh),(13,nh)] 3 "agree_of" d (U n) e=(d e).bind (Ai 3 nh$ U n):=λd=>Tn (So g) rfl rfl;unfold Pk;unfold Pe HK;simp[r,t,f,u,v,y,(s0 m),k,E,C,B,j,A,i,z,mk]
omit hn
include hLk
theorem Ŋ(h:Uh σ n$ Ul p 0 m s G L):Oy [U n,Ip p m s] σ=Y (Ϗ [U σ.length,vq p 0 m.n]) (σ++[ϓ 11 (gc p 0 s (Af p 1 s.D)$ L++[Z m.n]).fs]):=by
 have o:=VH (m:=m) (o:=s) hp (ϖ rfl) hg hl;have f:vf (L++[Z m.n])=A3:=by rw[eH,hl];rfl
 have c:=h.app [ϓ 11 (gc p 0 s (Af p 1 s.D)$ L++[Z m.n]).fs];have mk:vj 11 7 qq [Z p,Z 0,s.D,Af p 1 s.D,ώ [s.D],ώ$ L++[Z m.n]] σ=Y (U σ.length) (σ++[ϓ 11 (gc p 0 s (Af p 1 s.D)$ L++[Z m.n]).fs]):=qE (Lx (p:=p) (q:=0) (m:=s) hp (ϖ rfl) (Iz (p:=p) (s:=1)$ Jl s) f) σ;generalize σ++[ϓ 11 (gc p 0 s (Af p 1 s.D)$ L++[Z m.n]).fs]=b at *;have l:Mb [7,8,10,11,12,13] "side" (U n) σ=Y (Z 0) σ:=Jt h o;have r:Mb [10,11,12,13] "pot" (U n) σ=Y (Z p) σ:=nt h o;have d:Mb [10,11,12,13] "pot" (U n) b=Y (Z p) b:=nt c o;have t:Mb [10,11,12,13] "mine" (U n) σ=Y m.D σ:=Px h o;have e:Mb [10,11,12,13] "mine" (U n) b=Y m.D b:=Px c o;have u:Mb [10,11,12,13] "strikes" (U n) σ=Y (ώ L) σ:=ZC h o;have v:Mb [10,11,12,13] "may" (U n) σ=Y (ώ [m.D,s.D]) σ:=CP h o;have k:nh [U n,Z 1,s.D] σ=Y (Af p 1 s.D) σ:=tG h o 1$ Jl s;have z:ii [U n,Z 1,m.D] σ=Y (pk p 1 m.n) σ:=zG h o 1 m;have i:ii [U n,Z 0,m.D] b=Y (pk p 0 m.n) b:=zG c o 0 m;have x:∀ a,oj [(12,nh)] 3 "agree_of" a (U n) σ=(a σ).bind (Ai 3 nh$ U n):=λa=>Tn (So h) rfl rfl;have w:∀ a,oj [(12,ii)] 3 "strike_of" a (U n) σ=(a σ).bind (Ai 3 ii$ U n):=λa=>Tn (So h) rfl rfl;have g:∀ a,oj [(12,ii)] 3 "strike_of" a (U n) b=(a b).bind (Ai 3 ii$ U n):=λa=>Tn (So c) rfl rfl;have y:rh (Ip p m s) (Ϗ [ϐ "accept",Z p,Af p 1 s.D,pk p 1 m.n]) σ=Y (ϒ Ŷ) σ:=Wt$ yix p m s;have j:lh (ώ L) (ώ [Z m.n]) σ=Y (ώ$ L++[Z m.n]) σ:=AJ (by unfold Yf;simp;lia);unfold vq;unfold Oy Ee;simp[(DP hp σ (m:=m) hs.st hm.st.n),l,r,d,t,e,u,v,k,z,i,(s0 m),x,w,g,y,j,mk]
theorem Y7(h:Uh σ n$ Pr p 1 m s G L):zz [U n,vq p 0 m.n] σ=Y (Ϗ [U σ.length,Ϛ]) (σ++[ϓ 11 (gc p 1 s G$ L++[Z m.n]).fs]):=by
 have o:=JJ (m:=m) (o:=s) hp (ϙ rfl) hg hl;have b:vf (L++[Z m.n])=A3:=by rw[eH,hl];rfl
 have mk:vj 11 7 qq [Z p,Z 1,s.D,G,ώ [s.D],ώ$ L++[Z m.n]] σ=Y (U σ.length) (σ++[ϓ 11 (gc p 1 s G _).fs]):=qE (Lx (q:=1) (m:=s) hp (ϙ rfl) hg b) σ;have d:Mb [7,8,10,11,12,13] "side" (U n) σ=Y (Z 1) σ:=Jt h o;have e:Mb [10,11,12,13] "pot" (U n) σ=Y (Z p) σ:=nt h o;have f:Mb [10,11,12,13] "mine" (U n) σ=Y s.D σ:=Px h o;have g:Mb [10,11,12,13] "strikes" (U n) σ=Y (ώ L) σ:=ZC h o;have i:Mb [10,11,12,13] "may" (U n) σ=Y (ώ [m.D,s.D]) σ:=CP h o;have j:Mb [10,11,12,13] "grant" (U n) σ=Y G σ:=BR h o;have r:ii [U n,Z 0,m.D] σ=Y (pk p 0 m.n) σ:=zG h o 0 m;have k:∀ a,oj [(13,ii)] 3 "strike_of" a (U n) σ=(a σ).bind (Ai 3 ii$ U n):=λa=>Tn (So h) rfl rfl;have l:rh (vq p 0 m.n) (Ϗ [ϐ "struck",Z p,pk p 0 m.n]) σ=Y (ϒ Ŷ) σ:=Wt$ P2 ..;have c:lh (ώ L) (ώ [Z m.n]) σ=Y (ώ$ L++[Z m.n]) σ:=AJ (by unfold Yf;simp;lia);unfold zz Ee;simp[(HN hp σ (q:=0) (ϖ rfl) hm.st.n),d,e,f,g,i,j,(s0 m),r,k,l,c,mk]
end
structure Pm where
 (s e u v w:Int)
structure Pm.Ok(P:Pm):Prop where
 s:P.s=0\/P.s=1
 e:1<=P.e/\P.e<=20
 u:1<=P.u/\P.u<=1000000000000
 v:1<=P.v/\P.v<=1000000000000
 w:P.e+1<=P.w/\P.w<=100
structure Xk where
 (N L g:Int)
 K:dl
 r:Nat
 (kc sv bc:D)
 (S V:Sm)
 T:List TK
 Q:Kv
def Wb{a:Ca}(n:r≠k)(h:a[k]?=BD o):(a.set r x)[k]?=BD o:=by
 rw[mj n,h]
def Bm{a:Ca}(h:a[n]?=BD o):(a.set n x)[n]?=BD x:=by
 have:=(ba.mp h).1
 simp_all
def Sk(h:b[n]?=BD (ϓ c a)):gk b (U n)=BD (c,a):=by unfold gk;simp[h]
def Vt(h:a[n]?=BD (J A)):mi a (U n)=BD A:=by unfold mi;simp[h]
noncomputable def ir(P:Pm)(x:Xk):List$ Str × D:=[("hand",Z 1),("every",Z P.e),("last_look",Z x.L),("gave",Z x.g),("known",U 10),("accounts",U 11),("claims",U 12),("seen",U 13),("asked",U 14),("finishing",U 15)]
noncomputable def Bk(K:dl):Kv:=K.map λw=>(.inl w,ϒ A3)
noncomputable def one(d:D):Kv:=[(.inl 0,d)]
structure KV(P:Pm)(x:Xk)(σ:Ca):Prop where
 h0:σ[9]?=BD (ϓ 15 (ir P x))
 h1:σ[10]?=BD (J (Bk x.K))
 h3:σ[12]?=BD (J (one x.kc))
 h4:σ[13]?=BD (J (one x.sv))
def qz(x:Xk)(a:Ca):Prop:=(x.sv=Ϭ [] []/\x.V=[])\/∃ q,x.sv=U q/\15<q/\a[q]?=BD (J$ sK x.V)
def zs5(h:a[n]?=BD (J kv))(b:Rn kv (.inl w)=BD d):Dl (U n) (Z w) a=Y d a:=by
 unfold Dl mi;simp[Vi,h];simp[b]
theorem pq(h:a[n]?=BD (J$ one d)):Dl (U n) (Z 0) a=Y d a:=zs5 h rfl
theorem BW:∀ K:dl,Tu (Bk K)=BD K
 |[]=>rfl
 |w::K=>by
  have a:=BW K;unfold Bk at a ⊢;unfold Tu;simp[a]
abbrev ks(K:dl):dl:=oq K
section
variable{P:Pm}{x:Xk}{σ:Ca}(h:KV P x σ)
include h
theorem KV.app j:KV P x$ σ++j:=⟨Di h.h0,Di h.h1,Di h.h3,Di h.h4⟩
theorem KV.set{r}(a:r=11\/13<r) o:KV P x$ σ.set r o:=⟨Wb ⋯ h.h0,Wb ⋯ h.h1,Wb ⋯ h.h3,Wb ⋯ h.h4⟩
theorem iW:Mb [14,15,16] "every" (U 9) σ=Y (Z P.e) σ:=Ih (Sk h.h0) rfl rfl
theorem uF:Mb [14,15] "last_look" (U 9) σ=Y (Z x.L) σ:=Ih (Sk h.h0) rfl rfl
theorem VI:Mb [14,15] "known" (U 9) σ=Y (U 10) σ:=Ih (Sk h.h0) rfl rfl
theorem Qs:Mb [15] "accounts" (U 9) σ=Y (U 11) σ:=Ih (Sk h.h0) rfl rfl
theorem JA:Mb [9,15] "claims" (U 9) σ=Y (U 12) σ:=Ih (Sk h.h0) rfl rfl
theorem zI:Mb [15] "seen" (U 9) σ=Y (U 13) σ:=Ih (Sk h.h0) rfl rfl
theorem sI:Mb [15] "asked" (U 9) σ=Y (U 14) σ:=Ih (Sk h.h0) rfl rfl
theorem yge:Mb [15] "finishing" (U 9) σ=Y (U 15) σ:=Ih (Sk h.h0) rfl rfl
theorem qk{m} n a b(c:(ir P x).lookup m=L6):oj [(15,a)] n m b (U 9) σ=(b σ).bind (Ai n a$ U 9):=Tn (Sk h.h0) rfl c
theorem G7(b:x.K.length<=60):XB [U 9] σ=Y (ώ$ (ks x.K).map Z) σ:=by
 have o:Ux [U 10] σ=Y (U σ.length) (σ++[ϑ$ (ks x.K).map Z]):=by
  have l:Bf σ (U 10)=L6:=by unfold Bf af;simp[h.h1]
  unfold Ux;simp[l];unfold AE;simp[Vt h.h1,BW];rw[ia ⋯];rfl
 have a:lg σ (Ux [U 10] σ)=Y (ώ$ (ks x.K).map Z) σ:=by rw[o];exact gx$ IF _
 unfold XB be;simp[(VI h),a]
end
def BQ{b}{n}{a}{c}(h:Uh b n a)(d:a.Ok)(e:∀ b,ib c (Z 0) b=Y (ϐ "held") b):Cc [U n,c] b=Y (ώ$ a.y.map Sn.D) b:=by
 unfold Cc Fc;simp[e,(CP h d),(VF a.y)]
def fM{a}{n}{xs}(h:af a n=BD xs) j:af (a++j) n=BD xs:=by
 unfold af;rw[Di$ vW h]
theorem zJ{f}{src}{nx}{n}{ρ a}{σ σf σ2}{A A'}{tg}{body}(d:f ρ σ=Y (U n) σ)(g:σ[n]?=BD (J A))(c:src ρ σ=Y nx σf)(e:wq nx tg body 1001 0 ρ σf=Y (Ϙ a) σ2)(b:σ2[n]?=BD (Ϡ A')):Zt f (rm src tg body) ρ σ=Y (Ϙ a) (σ2.set n$ J A'):=by
 show Ey sL _ _ σ=_;unfold Ey;rw[d];dsimp only;rw[g];rw[rs,c,Ym];show yC sL _ (wq nx tg body 1001 0 ρ σf)=_;rw[e];unfold yC;simp[b];rfl
def oM{f}{n}{a}{σ}{A}(b:f a σ=Y (U n) σ)(g:σ[n]?=BD (J A)):Ur f a σ=Y (gm A) (σ.set n$ Ϡ A):=by
 show Lc _ DJ σ=_;rw[Ml,b,zd];unfold DJ;simp[g]
def Ez{a:Ca}{r}{o}(h:a[r]?=BD o):a.set r o=a:=by
 obtain⟨b,c⟩:=ba.mp h;rw[<-c];exact List.set_getElem_self b
theorem ZJ{f}{n}{ρ c e}{σ b}{d}{tg}{a}(h:f ρ σ=Y (U n) σ)(g:σ[n]?=BD (J$ one d))(k:tg (Ϗ [Z 0,d]) ρ=BD c)(j:a c (σ.set n$ Ϡ$ one d)=Y (Ϙ e) b)(i:b[n]?=BD (Ϡ$ one d)):Zt f (rm (Ur f) tg a) ρ σ=Y (Ϙ e) (b.set n$ J$ one d):=by
 refine zJ h g (oM h g) ?_ i;rw[VC rfl k,j,zd,Vn];exact WC rfl
theorem WO c g a b d e f:vj c 5 g [a,b,d,e] f=bu f.length (g [U f.length,a,b,d,e]$ f++[ϓ c []]):=VA rfl
theorem qz.w9{x}{b}(h:qz x b):zB [x.sv] b=Y (sD x.V) b:=by
 rcases h with⟨e,a⟩|⟨q,e,_,a⟩
 ·rw[e,a];exact nr rfl
 ·rw[e];unfold zB;simp only[Vt a];rfl
def qz.app{x}{a}(h:qz x a) j:qz x$ a++j:=h.imp id λ⟨q,b,d,c⟩=>⟨q,b,d,Di c⟩
def Ť σ(v:Vw){n}{p}{h}(A:∀ j,zB [h] (σ++j)=Y (sD p.S) (σ++j))(l:af σ n=BD [Ϗ [Z p.q,ώ$ p.y.map Sn.D,h]]):OA [U σ.length,Z v.e,Z v.L,ώ$ v.K.map Z,U n] (σ++[ϓ 14 []])=Y Ϛ (σ++[ϓ 14 [("every",Z v.e),("last_look",Z v.L),("known",ώ (v.K.map Z)),("pots",ώ [bh p])]]):=by
 have r:∀ g,lg (σ++[ϓ 14 g]) (Zo [ώ$ v.K.map Z]$ σ++[ϓ 14 g])=Y (ώ$ v.K.map Z) (σ++[ϓ 14 g]):=λg=>WA (IF v.K) _;have B:∀ g,cj (Tk (bp$ kh$ ja 4) [] (wc 0) am$ Ng$ Ba (Sa ib (ja 0)$ eC$ Z 0)$ Ba (cj$ ak Zo$ Ba (Sa ib (ja 0)$ eC$ Z 1) Ua)$ Ba (ak zB$ Ba (Sa ib (ja 0)$ eC$ Z 2) Ua) Ua) [BD$ U σ.length,BD$ Z v.e,BD$ Z v.L,BD$ ώ$ v.K.map Z,BD$ U n] (σ++[ϓ 14 g])=Y (ώ [bh p]) (σ++[ϓ 14 g]):=λg=>by
  have s1:Fw (U n) (σ++[ϓ 14 g])=Y (.Fo n) (σ++[ϓ 14 g]):=by
   show (match af (σ++[ϓ 14 g]) n with|some _=>_|none=>_)=_;rw[fM l]
  exact Av (xs:=[()]) (ix:=[]) (src:=kh$ ja 4) (s:=.Fo n) (ρ:=[BD$ U σ.length,BD$ Z v.e,BD$ Z v.L,BD$ ώ$ v.K.map Z,BD$ U n]) (σ:=σ++[ϓ 14 g]) (fe:=Ng$ Ba (Sa ib (ja 0)$ eC$ Z 0)$ Ba (cj$ ak Zo$ Ba (Sa ib (ja 0)$ eC$ Z 1) Ua)$ Ba (ak zB$ Ba (Sa ib (ja 0)$ eC$ Z 2) Ua) Ua) (λu=>Ϗ [Z p.q,ώ$ p.y.map Sn.D,h]) (λu=>bh p) (by simp[s1]) (λi j=>by
    show (af (σ++[ϓ 14 g]++j) n).map _=_;rw[fM$ fM l _]
    match i with
    |0=>rfl
    |i+1=>rfl) ⋯
   (λu G j=>by
    have o:=WA$ VF p.y;have m:=A$ ϓ 14 g::j;show _=Y (Ϗ [Z p.q,ώ$ p.y.map Sn.D,sD p.S]) _;simp[o,m]) (λu u=>by
    have:=VF p.y;have:=nW p.S;unfold bh;simp[*])
 have C:Mh "every" (Z v.e) ([]:List (Str × D))=([("every",Z v.e)]:List (Str × D)):=rfl;have E:∀ a b:D,Mh "last_look" b ([("every",a)]:List (Str × D))=([("every",a),("last_look",b)]:List (Str × D)):=λu u=>rfl;have F:∀ a b c:D,Mh "known" c ([("every",a),("last_look",b)]:List (Str × D))=([("every",a),("last_look",b),("known",c)]:List (Str × D)):=λu u u=>rfl;have p4:∀ a b c d:D,Mh "pots" d ([("every",a),("last_look",b),("known",c)]:List (Str × D))=([("every",a),("last_look",b),("known",c),("pots",d)]:List (Str × D)):=λu u u u=>rfl;have t:∀ ρ σ,cj (ak Zo$ Ba (ja 3) Ua) ρ σ=lg σ (ak Zo (Ba (ja 3) Ua) ρ σ):=λu u=>rfl;unfold OA Ee;simp[(λ(k:dN) (x:k.contains 14=A3) (f:Str) (w:D) (g:List (Str × D)) (z:g.length<1000)=>bC (ρ:=[BD$ U σ.length,BD$ Z v.e,BD$ Z v.L,BD$ ώ$ v.K.map Z,BD$ U n]) (σ:=σ) (cs:=k) (f:=f) (d:=w) (c:=14) (fs:=g) x z),C,E,F,p4,r,B,t,-lr]
def DY v p:cl (kj v [bh p])=A3:=ŉ v (by simp[vf,aS])
def vw(P:Pm)(x:Xk):Vw:=⟨P.e,x.L,ks x.K⟩
section
variable{P:Pm}{x:Xk}{σ:Ca}(h:KV P x σ)(hK:x.K.length<=60)(sn:qz x σ)
include h hK sn
theorem oV{n}{a}(g:Uh σ n a)(u:a.Ok){ό}(I:∀ r,Uh r n a->Cc [U n,x.kc] r=Y (ώ$ ό.map Sn.D) r){m}(l:σ[m]?=BD (J$ one$ U n))(C:m=11\/13<m):oC [U 9,U m] σ=Y (kj (vw P x) [bh ⟨a.q,x.V,ό⟩]) σ:=by
 have c:=(ba.mp l).1;have o:(σ.set m$ Ϡ$ one$ U n).length=σ.length:=yg;have v:=(h.set C$ Ϡ$ one$ U n).app [ϑ []];have G:m≠n:=λe=>by
  have g:σ[n]?=_:=g;rw[<-e,l]at g;cases g
 have i:Uh (σ.set m (Ϡ$ one$ U n)++[ϑ []]) n a:=Di$ Wb G g;have s:=zev (σ:=σ.set m$ Ϡ$ one$ U n) (xs:=[]) (d:=Ϗ [Z a.q,ώ$ ό.map Sn.D,x.sv]) ⋯;rw[o,wg]at s;have E:∀ k,jv lj k (U σ.length) (σ.set m (Ϡ$ one$ U n)++[ϑ []])=(k$ σ.set m (Ϡ$ one$ U n)++[ϑ []]).bind (lj$ U σ.length):=λk=>hD (xs:=[]) (by unfold Bf af;rw[<-o];simp);have b:qY [BD$ U 9,BD$ U m,BD$ U σ.length,BD$ Z 0,BD$ U n] ((σ++[ϑ []]).set m$ Ϡ$ one$ U n)=Y (Ϙ [BD$ U 9,BD$ U m,BD$ U σ.length,BD$ Z 0,BD$ U n]) (σ.set m (Ϡ$ one$ U n)++[ϑ [Ϗ [Z a.q,ώ$ ό.map Sn.D,x.sv]]]):=by
  rw[nj _ _ c];have w:=pq v.h3;have y:=pq v.h4;have st:=I _ i;have H:=Jt i u;generalize σ.set m (Ϡ$ one$ U n)++[ϑ []]=N,σ.set m (Ϡ$ one$ U n)++[ϑ [Ϗ [Z a.q,ώ$ ό.map Sn.D,x.sv]]]=ϊ at *;simp[(JA v),(zI v),w,y,st,H,E,s]
 have t:=ZJ (f:=ja 1) (tg:=Hi 2$ Oe (wc 3)$ Oe (wc 4) Qi) (ρ:=[BD$ U 9,BD$ U m,BD$ U σ.length,L6,L6]) (σ:=σ++[ϑ []]) ⋯ (Di (j:=[ϑ []]) l) rfl b$ Di (by rw[oi c]);rw[nj _ _ (by rw[o];exact c),Gf,Ez l]at t;have v1:=h.app [ϑ [Ϗ [Z a.q,ώ$ ό.map Sn.D,x.sv]]];have ύ:=G7 v1 hK;have F:=λA=>qk v1 (m:="words") 1 XB A rfl;have z:=iW v1;have la:=uF v1;have B:=DY (vw P x) ⟨a.q,x.V,ό⟩;have mk:lg (σ++[ϑ [Ϗ [Z a.q,ώ$ ό.map Sn.D,x.sv]]]) (vj 14 5 OA [Z P.e,Z x.L,ώ$ (ks x.K).map Z,U σ.length]$ σ++[ϑ [Ϗ [Z a.q,ώ$ ό.map Sn.D,x.sv]]])=Y (kj (vw P x) [bh ⟨a.q,x.V,ό⟩]) (σ++[ϑ [Ϗ [Z a.q,ώ$ ό.map Sn.D,x.sv]]]):=by
  rw[WO,show OA [_,Z P.e,Z x.L,ώ$ (ks x.K).map Z,U σ.length] _=_ from Ť (σ++[ϑ [Ϗ [Z a.q,ώ$ ό.map Sn.D,x.sv]]]) (vw P x) (n:=σ.length) (p:=⟨a.q,x.V,ό⟩) (λj=>((sn.app _).app j).w9) (by unfold af;simp),Yy,xJ (by have:=aS ⟨a.q,x.V,ό⟩;generalize bh ⟨a.q,x.V,ό⟩=M at *;simp[this])];rfl
 have fz:lg σ (Y (kj (vw P x) [bh ⟨a.q,x.V,ό⟩])$ σ++[ϑ [Ϗ [Z a.q,ώ$ ό.map Sn.D,x.sv]]])=Y (kj (vw P x) [bh ⟨a.q,x.V,ό⟩]) σ:=BO B;unfold oC ZX be;dsimp only;generalize σ++[ϑ [Ϗ [Z a.q,ώ$ ό.map Sn.D,x.sv]]]=ϊ,kj (vw P x) [bh ⟨a.q,x.V,ό⟩]=V at *;simp[-rs,t,z,la,ύ,F,mk,fz]
theorem DR{n}{a}(g:Uh σ n a)(d:a.Ok){ό}(i:∀ c,Uh c n a->Cc [U n,x.kc] c=Y (ώ$ ό.map Sn.D) c)(f:σ[11]?=BD (J$ one$ U n))(ok:gC ⟨a.q,x.V,ό⟩):px [U 9] σ=Y (Z$ wD (vw P x) ⟨a.q,x.V,ό⟩) σ:=by
 have v:=oV h hK sn g d i f$ ϖ rfl;have w:=λσ=>LR (v:=vw P x) ok σ;have e:=DY (vw P x) ⟨a.q,x.V,ό⟩;generalize kj _ _=V at *;have vw:TF [U 9] σ=Y V σ:=by
  unfold TF be;simp[(λb=>qk h (m:="view_by") 2 oC b rfl),(Qs h),v,e]
 unfold px be;simp[(λb=>qk h (m:="view") 1 TF b rfl),vw,w]
end
noncomputable def Zm:D:=.gt ["held"]
def W(P:Pm)(x:Xk)(a:Ac):Int:=wD (vw P x) ⟨a.q,x.V,a.y⟩
structure Fz(a:Ac):Prop where
 o:a.Ok
 v:∀ V,gC ⟨a.q,V,a.y⟩
structure Rj(P:Pm)(x:Xk)(a:Ac)(σ:Ca):Prop where
 v:KV P x σ
 h2:σ[11]?=BD (J (one (U x.r)))
 h5:σ[14]?=BD (J x.Q)
 h6:σ[15]?=BD (J [])
 i:Uh σ x.r a
 s:qz x σ
 o:Fz a
 r:15<x.r
 z:x.K.length<=60
 c:∀ σ,ib x.kc (Z 0) σ=Y (ϐ "held") σ
def Rj.app{P}{x}{a}{b}(h:Rj P x a b) j:Rj P x a$ b++j:=⟨h.v.app j,Di h.h2,Di h.h5,Di h.h6,h.i.app j,h.s.app j,h.o,h.r,h.z,h.c⟩
section
variable{P:Pm}{x:Xk}{a:Ac}{σ:Ca}(h:Rj P x a σ)
include h
theorem Ņ:px [U 9] σ=Y (Z$ W P x a) σ:=DR h.v h.z h.s h.i h.o.o (λb i=>BQ i h.o.o h.c) h.h2$ h.o.v _
theorem VQ{n}{b}(j:Uh σ n b)(f:Fz b)(A:b.p=0) d(B:W P x b ≥ W P x a - d):mu [U 9,U n,Z d] σ=Y (ϒ A3) σ:=by
 have t:aD [U 11] σ=Y (U σ.length) (σ++[J$ one$ U x.r]):=by
  unfold aD;simp only[Vt h.h2]
 have st:∀ ρ,Ln ρ (U n) (U σ.length) (Z 0) (σ++[J$ one$ U x.r])=Y (Ϙ ρ) (σ++[J$ one$ U n]):=λρ=>by
  rw[Wp (kvs:=one$ U x.r) ⋯ (by simp[one]),bD];rfl
 have k:=nt (j.app [J$ one$ U x.r]) f.o;rw[A]at k;have F:=(ba.mp h.h6).1;have e:=h.app [J$ one$ U n];have v:=oV e.v h.z e.s (j.app _) f.o (λG i=>BQ i f.o h.c) (m:=σ.length) ⋯$ ϙ ⋯;have w:=λσ=>LR (v:=vw P x) (f.v x.V) σ;have w:∀ σ,Nj [kj (vw P x) [bh ⟨b.q,x.V,b.y⟩]] σ=Y (Z$ W P x b) σ:=w;have C:=λg=>qk e.v (m:="worth") 1 px g rfl;have kw:=Ņ e;have fz:lg σ (Y (ϒ A3)$ σ++[J$ one$ U n])=Y (ϒ A3) σ:=BO ⋯;have u:decide (W P x b ≥ W P x a - d)=A3:=Ib B;have l:=Qs h.v;generalize kj (vw P x) [bh ⟨b.q,x.V,b.y⟩]=V,W P x b=E,W P x a=D,σ++[J$ one$ U n]=ϊ,σ++[J$ one$ U x.r]=ό at *;unfold mu be;simp[l,t,st,k,v,w,kw,(λg=>qk e.v (m:="view_by") 2 oC g rfl),C,fz,u]
end
def Fr(b a:Ca):Prop:=∀ r o,(r<9\/15<r)->b[r]?=BD o->a[r]?=BD o
def Fr.trans{a c d}(h:Fr a c)(f:Fr c d):Fr a d:=λr o b e=>f r o b$ h r o b e
def Fr.app a j:Fr a$ a++j:=λb b b e=>Di e
def Fr.set a{i}(b:9<=i/\i<=15) o:Fr a$ a.set i o:=λr d c e=>Wb ⋯ e
@[simp] theorem zp4 b f d c a e:iH b f d c a e=fk a (gA a b f d) (c a e):=xk ..
theorem t8{l}{f}{b fr}{h e}{ρ}{a}{x y}{c d}{g i}(j:b ρ a=Y x a)(k:fr ρ a=Y y a)(n:gk a x=BD (c,g))(o:gk a y=BD (d,i))(m:(c,d)∈l):xE l f b fr h e ρ a=e ρ a:=by
 unfold xE;rw[xk,j,Ym,xk,k,Ym];unfold IP
 simp_all
noncomputable def isA:Ob->Bool
 | ϓ c _=>[10,11,12,13].contains c
 |_=>Ŷ
def Uh.ne{d}{n r}{a}{o}(h:Uh d n a)(f:a.Ok)(b:d[r]?=BD o)(g:isA o=Ŷ):r≠n:=λe=>by
 rw[e,h]at b;cases b;exact absurd (f.c.symm.trans g) ⋯
def Kx{a}{σ}{n}{c}{b}{l}{m}(h:Uh σ n a)(f:a.c=c)(g:ur l c=BD b)(e:a.fs.lookup m=L6) k d:oj l k m d (U n) σ=(d σ).bind (Ai k b$ U n):=Tn (So h) ⋯ e
def jr(d:Int)(s:Sn):D:=Ϗ [Z d,Ϗ [Z s.a,Z s.b],Ϗ$ s.ts.map Ti.D]
noncomputable def Mq:D:=Ϗ [ϐ "held"]
def aq(d:Option Int)(s:Sn):Kv:=match d with
 |none=>[]
 |some d=>one (jr d s)
def EM p q s a:ib (Pk p q s) (Z 0) a=Y (ϐ "offer") a:=by unfold Pk;simp
def aI p q s a:ib (Pk p q s) (Z 1) a=Y (Z p) a:=by unfold Pk;simp
section
variable{P:Pm}{x:Xk}{a:Ac}{σ:Ca}(h:Rj P x a σ)
include h
theorem PP(a:x.kc=Zm\/x.kc=Mq):Qy [U 9,Z 0] σ=Y (ϒ A3) σ:=by
 have b:=pq h.v.h3;have i:tq (Z 0) (U 11) σ=Y (ϒ A3) σ:=by
  unfold tq;simp only[Vi,Vt h.h2];rfl
 have e:∀ σ,yL x.kc (.gt ["held"]) σ=Y (ϒ A3) σ:=λσ=>by rcases a with e|e<;>rw[e]<;>exact nr rfl
 unfold Qy be;simp[(Qs h.v),(JA h.v),b,i,e]
theorem gL{n}{b}(i:Uh σ n b)(k:Fz b)(j:15<n):(∀ d,Ln d (U n) (U 11) (Z 0) σ=Y (Ϙ d) (σ.set 11$ J$ one$ U n))/\Rj P { x with r:=n } b (σ.set 11$ J$ one$ U n):=by
 refine⟨λd=>by rw[Wp h.h2 (by simp[one])];rfl,?_⟩;have a:=h.v.set (ϖ rfl)$ J$ one$ U n;exact⟨⟨a.h0,a.h1,a.h3,a.h4⟩,Bm h.h2,Wb ⋯ h.h5,Wb ⋯ h.h6,Wb (by show 11≠n;lia) i,h.s.imp id λ⟨q,e,f,g⟩=>⟨q,e,f,Wb ⋯ g⟩,k,j,h.z,h.c⟩
theorem TY{d}{ρ}{fv}(a:fv ρ σ=Y (Z d) σ):gA ρ [15] "gave" fv (U 9) σ=Y (Ϙ ρ) (σ.set 9$ ϓ 15$ ir P { x with g:=x.g+d }):=by
 have lk:List.lookup ("gave" : Str) (ir P x)=BD _:=rfl;unfold gA;rw[(Sk h.v.h0)];simp only[lk];rw[xk,a,Ym];unfold wI;simp only[h.v.h0];rfl
theorem CY d:Rj P { x with g:=x.g+d } a$ σ.set 9$ ϓ 15$ ir P { x with g:=x.g+d }:=by
 have j:=h.r;exact⟨⟨Bm h.v.h0,Wb ⋯ h.v.h1,Wb ⋯ h.v.h3,Wb ⋯ h.v.h4⟩,Wb ⋯ h.h2,Wb ⋯ h.h5,Wb ⋯ h.h6,Wb (by show 9≠x.r;lia) h.i,h.s.imp id λ⟨q,b,e,f⟩=>⟨q,b,e,Wb ⋯ f⟩,h.o,h.r,h.z,h.c⟩
theorem CU Q:Rj P { x with Q:=Q } a$ σ.set 14$ J Q:=by
 have b:=h.v.set (r:=14) (ϙ$ by lia)$ J Q;have g:=h.r;exact⟨⟨b.h0,b.h1,b.h3,b.h4⟩,Wb ⋯ h.h2,Bm h.h5,Wb ⋯ h.h6,Wb (by show 14≠x.r;lia) h.i,h.s.imp id λ⟨q,d,e,f⟩=>⟨q,d,e,Wb ⋯ f⟩,h.o,h.r,h.z,h.c⟩
theorem DW{ό}{kd}(c:∀ σ,ib ό (Z 0) σ=Y (ϐ kd) σ)(a:(kd == ("offer" : Str))=Ŷ):Au [U 9,ό] σ=Y (ϒ Ŷ) σ:=by
 have b:=gZ kd "offer" σ;rw[a]at b;unfold Au be
 simp_all
theorem ŷ{s}{d}(hd:x.Q=aq d s):Au [U 9,Pk 0 0 s] σ=Y (ϒ d.isSome) σ:=by
 have i:=sI h.v;have j:rh _ (ϐ "offer") σ=Y _ σ:=Wt (by simp[pl]);have f:=λσ=>EM 0 0 s σ;have g:=λσ=>aI 0 0 s σ;have c:=h.h5;rw[hd]at c;have n:Vo (Z 0) (U 14) σ=Y (ϒ !d.isSome) σ:=by
  unfold Vo;simp only[Vi,Vt c];cases d<;>rfl
 unfold Au be;cases d with
 |none=>simp[f,g,i,j,n]
 |some d=>
  have o:∀ σ,ib (Pk 0 0 s) (Z 2) σ=Y (Af 0 0 s.D) σ:=λσ=>by unfold Pk;simp
  have p:∀ σ,ib (Af 0 0 s.D) (Z 3) σ=Y s.D σ:=λσ=>by unfold Af;simp
  have k:Ep [Z s.n,Ϗ [Z s.a,Z s.b],Ϗ _] (BD 1) L6=[Ϗ [Z s.a,Z s.b],Ϗ$ s.ts.map Ti.D]:=rfl;have l:Ep [Z d,Ϗ [Z s.a,Z s.b],Ϗ _] (BD 1) L6=[Ϗ [Z s.a,Z s.b],Ϗ$ s.ts.map Ti.D]:=rfl;have q:∀ σ,Xx s.D _ L6 σ=Y _ σ:=λσ=>by
   unfold Sn.D Um;rw[vD,k]
  have r:∀ σ,Xx (jr d s) _ L6 σ=Y _ σ:=λσ=>by
   unfold jr;rw[vD,l]
  have m:Zh _ (Ϗ [Ϗ [Z s.a,Z s.b],Ϗ _]) σ=Y _ σ:=ZF (ID λx e=>by
   have e:x=Ϗ [Z s.a,Z s.b]\/x=Ϗ (s.ts.map Ti.D):=by simpa using e
   rcases e with rfl|rfl
   ·simp[pl]
   ·exact nM 5 s.ts)
  simp[f,g,o,p,i,n,j,(pq c),q,r,m]
theorem kQ(ha:a.p=0){a'}(hp:a'.p=0)(T:Fz a')(hc:(a'.c,a.c)∈[(13,11),(11,13),(11,12)]){ό R}{rb}(ϋ:∀ σ,ib ό (Z 1) σ=Y (Z 0) σ){d}{s}(hd:x.Q=aq d s)(C:∀ b,Rj P x a b->Au [U 9,ό] b=Y (ϒ d.isSome) b)(g:W P x a' ≥ W P x a - d.getD 0){N}(mk:∀ e,oj [(11,uz),(12,Oy),(13,zz)] 2 "taken" e (U x.r) σ=(e σ).bind (Ai 2 N$ U x.r))(tk:N [U x.r,ό] σ=Y (Ϗ [U σ.length,R]) (σ++[ϓ a'.c a'.fs]))(ϊ:∀ σ,Ys R Ϛ σ=Y (ϒ rb) σ):∃ k,bB [U 9,ό] σ=Y (ώ$ if rb then []else [R]) k/\Rj P { x with r:=σ.length,g:=x.g+d.getD 0,Q:=[] } a' k/\Fr σ k:=by
 have z:=Qs h.v;have u:=pq h.h2;have lb:=(ba.mp h.h6).1;have f:=h.app [ϓ a'.c a'.fs];have G:Uh (σ++[ϓ a'.c a'.fs]) σ.length a':=by unfold Uh;simp
 have o:=Fr.app σ [ϓ a'.c a'.fs];generalize a1:σ++[ϓ a'.c a'.fs]=b at *;have H:=Qs f.v;have kq:=sI f.v;have E:=pq f.h2;have L:∀ (A ύ:Option D) (F:Ev->M Fl),xE [(13,11),(11,13),(11,12)] [11,12,13] (Sa ib (ja 3)$ eC$ Z 0) (Sa Dl (Vc (Mb [15] "accounts")$ ja 0)$ ja 2) Xl F [BD$ U 9,BD ό,BD$ Z 0,BD$ Ϗ [U σ.length,R],A,ύ] b=F [BD$ U 9,BD ό,BD$ Z 0,BD$ Ϗ [U σ.length,R],A,ύ] b:=λA ύ F=>by
  refine t8 (x:=U σ.length) (y:=U x.r) ?_ ?_ (So G) (So f.i) hc
  ·simp
  ·simp[H,E]
 have l:=VQ f G T hp (d.getD 0) g;have V:=λe=>qk f.v (m:="is_good") 3 mu e rfl;have X:=λe=>qk f.v (m:="is_as_asked") 2 Au e rfl;have n:=C b f;obtain⟨sa,B⟩:=gL f G T ⋯;have q:Fr b$ b.set 11$ J$ one$ U σ.length:=.set b ⋯ _;generalize b.set 11 (J$ one$ U σ.length)=j at *;cases d with
 |none=>
  have hd:x.Q=[]:=hd;refine⟨j,?_,by simpa [hd]using B,o.trans q⟩;have l:mu [U 9,U σ.length,Z 0] b=Y (ϒ A3) b:=l;have n:Au [U 9,ό] b=Y (ϒ Ŷ) b:=n;unfold bB KM jP WM iQ uN QK BL ON YK Ee;cases rb<;>simp[z,u,H,E,ϋ,mk,tk,L,l,V,X,n,sa,ϊ]
 |some al=>
  have hd:x.Q=one (jr al s):=hd;have l:mu [U 9,U σ.length,Z al] b=Y (ϒ A3) b:=l;have n:Au [U 9,ό] b=Y (ϒ A3) b:=n;have S:=f.h5;rw[hd]at S;have gq:=pq S;have a0:∀ σ,ib (jr al s) (Z 0) σ=Y (Z al) σ:=λσ=>by unfold jr;simp
  have I:=sI B.v;have w:j[14]?=BD (J$ one$ jr al s):=hd ▸ B.h5;have mp:∀ e,zx AA e (U 14) j=(e j).bind (AA$ U 14):=λe=>by
   unfold zx;rw[Vt w];rfl
  have po:AA (U 14) [Z 0] j=Y (jr al s) (j.set 14$ J []):=by
   unfold AA;simp only[Vi,w];rfl
  have O:=CU B [];have t:Fr j$ j.set 14$ J []:=.set j ⋯ _;generalize j.set 14 (J [])=K at *;have h4:=CY O al;refine⟨_,?_,h4,o.trans$ (q.trans t).trans$ .set K (i:=9) ⋯ _⟩;unfold bB KM jP WM iQ uN QK BL ON YK Ee;cases rb<;>simp[z,u,H,kq,I,E,ϋ,mk,tk,L,l,V,X,n,gq,a0,sa,mp,po,(λ(y0 y1 y2 y3 A:Option D)=>TY (d:=al) (ρ:=[y0,y1,y2,y3,A,BD$ Z al]) (fv:=ja 5) O ⋯),ϊ]
end
def OP p s a:ib (Xo p s) (Z 0) a=Y (ϐ "ask") a:=by unfold Xo;simp
def GN p s a:ib (Xo p s) (Z 1) a=Y (Z p) a:=by unfold Xo;simp
def yW p s c:ib (Xo p s) (Z 2) c=Y (Ϗ [Z s.a,Z s.b]) c:=by unfold Xo;simp
def uW p s a:ib (Xo p s) (Z 3) a=Y (Ϗ$ s.ts.map Ti.D) a:=by unfold Xo;simp
def jM p m s a:ib (Ip p m s) (Z 0) a=Y (ϐ "accept") a:=by unfold Ip;simp
def nQ p m s a:ib (Ip p m s) (Z 1) a=Y (Z p) a:=by unfold Ip;simp
def wO p q n a:ib (vq p q n) (Z 0) a=Y (ϐ "struck") a:=by unfold vq;simp
def sP p q n a:ib (vq p q n) (Z 1) a=Y (Z p) a:=by unfold vq;simp
def v1{q}(a:q=0\/q=1){m}(h:Hn q m) V:gC ⟨q,V,[m]⟩:=⟨a,by simp,λs b=>by rw[Oa.mp b];exact h⟩
def v2{q}(c:q=0\/q=1){m s}(h:Hn q m)(b:Hn q s) V:gC ⟨q,V,[m,s]⟩:=⟨c,by simp,λz a=>by
 rcases Fa.mp a with rfl|a
 ·exact h
 ·rw[Oa.mp a];exact b⟩
def ws(P:Pm)(x:Xk)(q:Int)(s:Sn):Int:=wS (vw P x) x.V q s
section
variable(P:Pm)(x:Xk)(p q:Int)(m s:Sn)(G:D)(L:g')
theorem fF:W P x (gc p q m G L)=ws P x q m:=rfl
theorem DM:W P x (Ul p q m s G L)=if ws P x q s<ws P x q m then ws P x q s else ws P x q m:=rfl
theorem iP:W P x (Pr p q m s G L)=if ws P x q s<ws P x q m then ws P x q s else ws P x q m:=rfl
end
def á:((13,11):Nat × Nat)∈[(13,11),(11,13),(11,12)]:=by decide
def e8:((11,13):Nat × Nat)∈[(13,11),(11,13),(11,12)]:=by decide
def p56:((11,12):Nat × Nat)∈[(13,11),(11,13),(11,12)]:=by decide
structure xq(Wh q:Int)(m s:Sn):Prop where
 hm:m.Ok Wh
 hs:s.Ok Wh
 hn:s.n=m.n+1
 om:Hn q m
 os:Hn q s
section
variable{P:Pm}{x:Xk}{σ:Ca}(hc:x.kc=Zm\/x.kc=Mq){Wh:Int}{m s:Sn}{G:D}{L:g'}(hg:cl G=A3)(hl:vf L=A3)(hn:L.length<=90)
include hc
theorem FM{a}(h:Rj P x a σ){ό}{kd}{R}{b}(hl:vd [ό] σ=Y (ϒ A3) σ)(d:∀ σ,ib ό (Z 0) σ=Y (ϐ kd) σ)(e:∀ σ,ib ό (Z 1) σ=Y (Z 0) σ)(kw:(kd == ("word" : Str))=Ŷ)(f:(kd == ("ask" : Str))=Ŷ)(g:bB [U 9,ό] σ=Y R b):As [U 9,ό] σ=Y R b:=by
 unfold As Ee;simp[hl,d,e,kw,f,(PP h hc),(λc=>qk h.v (m:="holds") 2 Qy c rfl),(λc=>qk h.v (m:="take_step") 2 bB c rfl),g]
theorem EU{a}(h:Rj P x a σ){ό}{R}{b}(hl:vd [ό] σ=Y (ϒ A3) σ)(d:∀ σ,ib ό (Z 0) σ=Y (ϐ "ask") σ)(e:∀ σ,ib ό (Z 1) σ=Y (Z 0) σ)(f:Zz [U 9,ό] σ=Y R b):As [U 9,ό] σ=Y R b:=by
 unfold As Ee;simp[hl,d,e,(PP h hc),(λc=>qk h.v (m:="holds") 2 Qy c rfl),(λc=>qk h.v (m:="take_ask") 2 Zz c rfl),f]
include hg hl
theorem A7(z:xq Wh 1 m s)(h:Rj P x (gc 0 1 m G L) σ){d}(hd:x.Q=aq d s)(c:0<=d.getD 0)(g:ws P x 1 s ≥ ws P x 1 m - d.getD 0):∃ a,As [U 9,Pk 0 0 s] σ=Y (ώ [Ip 0 m s]) a/\Rj P { x with r:=σ.length,g:=x.g+d.getD 0,Q:=[] } (Pr 0 1 m s (Af 0 0 s.D) L) a/\Fr σ a:=by
 obtain⟨a,e,k,f⟩:=kQ h rfl rfl ⟨JJ ⋯ (ϙ rfl) (Iz$ Jl s) hl,v2 (ϙ rfl) z.om z.os⟩ á (aI _ _ _) hd (λj b=>ŷ b hd) (by rw[iP,fF];split<;>lia) (Kx h.i rfl rfl rfl 2) (wY ⋯ z.hm z.hs z.hn hg hl h.i) (λσ=>rfl);exact⟨a,FM hc h (GP ⋯ σ (ϖ rfl) z.hs.st) (EM _ _ _) (aI _ _ _) ⋯ ⋯ e,k,f⟩
include hn
theorem ykr(z:xq Wh 0 m s)(h:Rj P x (Ul 0 0 m s G L) σ)(hd:x.Q=[]):∃ a,As [U 9,Ip 0 m s] σ=Y (ώ [vq 0 0 m.n]) a/\Rj P { x with r:=σ.length,g:=x.g+0,Q:=[] } (gc 0 0 s (Af 0 1 s.D)$ L++[Z m.n]) a/\Fr σ a:=by
 obtain⟨a,e,k,f⟩:=kQ (a':=gc 0 0 s _ _) (d:=L6) (s:=s) h rfl rfl ⟨Lx ⋯ (ϖ rfl) (Iz$ Jl s) (by rw[eH,hl];rfl),v1 (ϖ rfl) z.os⟩ p56 (nQ _ _ _) hd (λc b=>DW b (jM _ _ _) ⋯) (by rw[DM,fF];show _ ≥ _ - 0;split<;>lia) (Kx h.i rfl rfl rfl 2) (Ŋ ⋯ z.hm z.hs hg hl ⋯ h.i) (rb:=Ŷ) (λσ=>rfl);exact⟨a,FM hc h (DP ⋯ σ z.hs.st z.hm.st.n) (jM _ _ _) (nQ _ _ _) ⋯ ⋯ e,k,f⟩
theorem B5(z:xq Wh 1 m s)(h:Rj P x (Pr 0 1 m s G L) σ)(hd:x.Q=[]):∃ a,As [U 9,vq 0 0 m.n] σ=Y (ώ []) a/\Rj P { x with r:=σ.length,g:=x.g+0,Q:=[] } (gc 0 1 s G$ L++[Z m.n]) a/\Fr σ a:=by
 obtain⟨a,e,k,f⟩:=kQ (a':=gc 0 1 s G$ L++[Z m.n]) (d:=L6) (s:=s) h rfl rfl ⟨Lx ⋯ (ϙ rfl) hg (by rw[eH,hl];rfl),v1 (ϙ rfl) z.os⟩ e8 (sP _ _ _) hd (λc b=>DW b (wO _ _ _) ⋯) (by rw[iP,fF];show _ ≥ _ - 0;split<;>omega) (Kx h.i rfl rfl rfl 2) (Y7 ⋯ z.hm z.hs hg hl ⋯ h.i) (rb:=A3) (λσ=>rfl);exact⟨a,FM hc h (HN ⋯ σ (ϖ rfl) z.hm.st.n) (wO _ _ _) (sP _ _ _) ⋯ ⋯ e,k,f⟩
omit hn
theorem Λ(z:xq Wh 0 m s)(h:Rj P x (gc 0 0 m G L) σ)(g:ws P x 0 s ≥ ws P x 0 m):∃ a,As [U 9,Xo 0 s] σ=Y (ώ [Pk 0 0 s]) a/\Rj P { x with r:=σ.length } (Ul 0 0 m s G L) a/\Fr σ a:=by
 have e:=GN 0 s;have o:=yW 0 s;have q:=uW 0 s;have d:=pq h.h2;have A:=(ba.mp h.h6).1;have u:=CV (p:=0) ⋯ z.hm z.hs z.hn hg hl h.i;have b:=h.app [ϓ 12 (Ul 0 0 m s G L).fs];have f:Uh (σ++[ϓ 12 (Ul 0 0 m s G L).fs]) σ.length$ Ul 0 0 m s G L:=by unfold Uh;simp[Ul]
 have c:=Fr.app σ [ϓ 12 (Ul 0 0 m s G L).fs];generalize σ++[ϓ 12 (Ul 0 0 m s G L).fs]=j at *;have ok:Fz$ Ul 0 0 m s G L:=⟨VH ⋯ (ϖ rfl) hg hl,v2 (ϖ rfl) z.om z.os⟩
 have t:=λk=>qk b.v (m:="is_good") 3 mu k rfl;have l:=VQ b f ok rfl 0 (by rw[DM,fF];split<;>omega);obtain⟨w,n⟩:=gL b f ok ⋯;have y:Zz [U 9,Xo 0 s] σ=Y (ώ [Pk 0 0 s]) (j.set 11$ J$ one$ U σ.length):=by
  unfold Zz zP GO vQ zN sQ Ee;simp[e,o,q,(Qs h.v),d,(Qs b.v),u,l,t,w]
 exact⟨_,EU hc h (LI ⋯ σ z.hs.st) (OP _ _) e y,n,c.trans$ .set j ⋯ _⟩
theorem R9(z:xq Wh 0 m s)(h:Rj P x (Ul 0 0 m s G L) σ):As [U 9,Xo 0 s] σ=Y (ώ []) σ:=by
 have e:=GN 0 s;have j:Mb [7,8,10,11,12,13] "side" (U x.r) σ=Y (Z 0) σ:=Jt h.i h.o.o;have c:rh (Z 0) (Z 0) σ=Y (ϒ Ŷ) σ:=by simp
 have f:∀ x σ,Fv [x] σ=Y (ϐ "offered") σ:=λx σ=>by unfold Fv be;simp
 have k:rh (ϐ "offered") (ϐ "calm") σ=Y (ϒ A3) σ:=gZ _ _ _;have n:Pe [U x.r,Ϗ [Z s.a,Z s.b],Ϗ$ s.ts.map Ti.D] σ=.ex ⟨2⟩ σ:=by
  unfold Pe HK;simp[j,c,(Kx (l:=[(11,Dq),(12,Fv),_]) (m:="word") h.i rfl rfl rfl 1),f,k]
 have hn:∀ g d σ,Vy d _ [⟨sy [(1,A3),_],L6,g⟩] σ=hit ⟨sy [(1,A3),(2,A3)],L6,g⟩ d ⟨2⟩ σ:=λg d σ=>C5 rfl;refine EU hc h (LI ⋯ σ z.hs.st) (OP _ _) e ?_;unfold Zz zP GO vQ zN sQ Ee;simp[e,(yW 0 s),(uW 0 s),(Qs h.v),(pq h.h2),n,hn]
end
noncomputable def gv(q A:Int)(m:Sn):Sn:=⟨m.n+1,if q=0 then m.a+-A else m.a+A,if q=0 then m.b+A else m.b+-A,m.ts⟩
noncomputable def To(A:Int):D:=Ϗ [ϐ "give",Z 0,Z A]
def lt(q:Int)(s:Sn):D:=if q=0 then Pk 0 0 s else Xo 0 s
section
variable{q:Int}(hq:q=0\/q=1){A:Int}(hA:1<=A/\A<=1000000000000)(σ:Ca)
def dQ A:ib (To A) (Z 0) σ=Y (ϐ "give") σ:=by unfold To;simp
def gi1 A:ib (To A) (Z 1) σ=Y (Z 0) σ:=by unfold To;simp
def vX A:ib (To A) (Z 2) σ=Y (Z A) σ:=by unfold To;simp
def Q5 A:Eg [To A] σ=Y (Z A) σ:=by
 have a:=λσ=>dQ σ A;have b:=λσ=>vX σ A;unfold Eg Fc;dsimp only
 simp_all
def Ð{s:Sn}(h:gn s.n s.a s.b s.ts):Jh [Z s.n,Ϗ [Z s.a,Z s.b],Ϗ$ s.ts.map Ti.D] σ=Y s.D σ:=by
 have d:=λσ=>Wz h σ;have c:=Jl s;have z:∀ σ,Ys (Ϗ$ s.ts.map Ti.D) Ϛ σ=Y (ϒ Ŷ) σ:=λσ=>nr rfl;unfold Sn.D at *;unfold Um at *;unfold Jh QP;simp[d,c,z]
def yoa{m s:Sn}(h:gn s.n s.a s.b s.ts)(e:s.n=m.n+1):Rk [m.D,Ϗ [Z s.a,Z s.b],Ϗ$ s.ts.map Ti.D] σ=Y s.D σ:=by
 have c:=s0 m;have f:=λσ=>Ð σ h;have d:=Jl s;unfold Rk Fc;dsimp only
 simp_all
include hq
theorem LJ a b d:Yk [Ϗ [Z a,Z b],Z q,Z d] σ=Y (Ϗ [Z$ if q=0 then a+d else a,Z$ if q=0 then b else b+d]) σ:=by
 unfold Yk Fc;rcases hq with rfl|rfl<;>simp
include hA
theorem C8{k}{m}(l:(gv q A m).Ok k):Ku [m.D,Z q,Z A] σ=Y (gv q A m).D σ:=by
 have f:Vg [Z A] σ=Y (ϒ A3) σ:=by
  unfold Vg Fc;simp[(bt hA σ)]
 have g:=s1 m;have h:=s2 m;have c:=λσ=>yoa σ (m:=m) l.st rfl;have d:=λσ a b=>LJ hq σ a b$ -A;have e:=λσ a b=>LJ (q:=1 - q) ⋯ σ a b A;have i:=Jl$ gv q A m;have j:∀ σ,og [Z q] σ=Y (Z$ 1 - q) σ:=λσ=>by unfold og Fc;dsimp only;simp
 unfold Ku Fc;dsimp only;generalize r:(gv q A m).D=n at *;unfold gv at *;dsimp only at *;generalize m.D=o,Ϗ (m.ts.map Ti.D)=p at *;rcases hq with rfl|rfl
 ·rw[show (1 - 0:Int)=1 from rfl]at *;simp at d e c;simp[(Ly (s:=0) _ σ),f,g,h,d,e,c,i,j]
 ·rw[show (1 - 1:Int)=0 from rfl]at *;simp at d e c;simp[(Ly (s:=1) _ σ),f,g,h,d,e,c,i,j]
theorem zkk{b}{m}(c:(gv q A m).Ok b){n}{G}{L}{σ}(a:Uh σ n$ gc 0 q m G L)(ok:(gc 0 q m G L).Ok) d:Ag [U n,To A,d] σ=Y (gv q A m).D σ:=by
 have e:Mb [7,8,10,11,12,13] "side" (U n) σ=Y (Z q) σ:=Jt a ok;have f:Mb [10,11,12,13] "mine" (U n) σ=Y m.D σ:=Px a ok;have i:=λσ=>dQ σ A;have j:=λσ=>vX σ A;have g:=λσ=>C8 hq hA σ c;have h:=Jl$ gv q A m;unfold Ag Fc;dsimp only
 simp_all
end
def nx(q:Int)(m s:Sn)(G:D)(L:g'):Ac:=if q=0 then Ul 0 0 m s G L else Pr 0 1 m s (Af 0 0 s.D) L
section
variable{P:Pm}{x:Xk}{σ:Ca}(hc:x.kc=Zm\/x.kc=Mq){Wh:Int}{m:Sn}{G:D}{L:g'}(hg:cl G=A3)(hl:vf L=A3){q:Int}(hq:q=0\/q=1)
include hg hl hq
theorem ö{s}(z:xq Wh q m s){n}(a:Uh σ n$ gc 0 q m G L):Mf [U n,s.D] σ=Y (Ϗ [U σ.length,lt q s]) (σ++[ϓ (nx q m s G L).c (nx q m s G L).fs]):=by
 have b:=Lx (m:=m) (p:=0) ⋯ hq hg hl;have g:Mb [7,8,10,11,12,13] "side" (U n) σ=Y (Z q) σ:=Jt a b;have h:=s1 s;have i:=s2 s;rcases hq with rfl|rfl
 ·have f:=CV (p:=0) ⋯ z.hm z.hs z.hn hg hl a;show _=Y (Ϗ [U σ.length,Pk 0 0 s]) (σ++[ϓ 12 (Ul 0 0 m s G L).fs]);unfold Mf cQ;simp[g,h,i,f]
 ·have tk:=wY (p:=0) ⋯ z.hm z.hs z.hn hg hl a;show _=Y (Ϗ [U σ.length,Xo 0 s]) (σ++[ϓ 13 (Pr 0 1 m s (Af 0 0 s.D) L).fs]);have e:=a.app [ϓ 13 (Pr 0 1 m s (Af 0 0 s.D) L).fs];generalize σ++[ϓ 13 (Pr 0 1 m s (Af 0 0 s.D) L).fs]=j at *;have o:Mb [10,11,12,13] "pot" (U n) σ=Y (Z 0) σ:=nt a b;have d:Mb [10,11,12,13] "pot" (U n) j=Y (Z 0) j:=nt e b;have k:nh [U n,Z 0,s.D] σ=Y (Af 0 0 s.D) σ:=tG a b 0$ Jl _;have f:Ϗ [ϐ "offer",Z 0,Af 0 0 s.D]=Pk 0 0 s:=rfl;unfold Xo;unfold Mf cQ;simp[g,o,d,h,i,tk,k,(Kx (l:=[(10,nh),(11,nh),(12,nh),(13,nh)]) (m:="agree_of") a rfl rfl rfl 3),(Kx (l:=[(11,uz),(12,Oy),(13,zz)]) (m:="taken") a rfl rfl rfl 2),f]
include hc
theorem ţ{A}(hA:1<=A/\A<=1000000000000)(z:xq Wh q m$ gv q A m)(h:Rj P x (gc 0 q m G L) σ)(hQ:x.Q=[])(g:ws P x q (gv q A m) ≥ ws P x q m - A):∃ f,RA [U 9,To A] σ=Y (Ϗ [ϒ A3,ώ [lt q$ gv q A m]]) f/\(q=0->Rj P { x with r:=σ.length,g:=x.g+A } (Ul 0 0 m (gv q A m) G L) f)/\(q=1->Rj P { x with Q:=one (jr A$ gv q A m) } (gc 0 1 m G L) f)/\Fr σ f:=by
 have wd:=λkn=>zkk hq hA z.hs h.i h.o.o kn;generalize gv q A m=s at *;have ok:=h.o.o;have j:=pq h.h2;have lb:=(ba.mp h.h6).1;have R:Mb [7,8,10,11,12,13] "side" (U x.r) σ=Y (Z q) σ:=Jt h.i ok;have ό:=ö hg hl hq z h.i;have mc:=Kx (l:=[(11,Dq),(12,Fv),(13,Lz)]) (m:="word") h.i rfl rfl rfl 1;have cw:∀ x σ,Dq [x] σ=Y (ϐ "calm") σ:=λx σ=>by unfold Dq be;simp
 have nc:rh (ϐ "calm") (ϐ "calm") σ=Y (ϒ Ŷ) σ:=Wt (by simp[pl]);have n:=Qs h.v;have kk:=VI h.v;have ho:=PP h hc;have mh:=λw=>qk h.v (m:="holds") 2 Qy w rfl;have mw:=λw=>qk h.v (m:="wish_for") 3 UA w rfl;have H:=λσ=>dQ σ A;have I:=λσ=>gi1 σ A;have b1:(("give" : Str) == "finish")=Ŷ:=by decide
 have O:(("give" : Str) == "settle")=Ŷ:=by decide
 have N:=λσ=>Q5 σ A;have B:Fz$ nx q m s G L:=by
  unfold nx;rcases hq with rfl|rfl
  ·exact⟨VH ⋯ (ϖ rfl) hg hl,v2 (ϖ rfl) z.om z.os⟩
  ·exact⟨JJ ⋯ (ϙ rfl) (Iz$ Jl s) hl,v2 (ϙ rfl) z.om z.os⟩
 have np:(nx q m s G L).p=0:=by unfold nx;split<;>rfl
 have k:=h.app [ϓ (nx q m s G L).c (nx q m s G L).fs];have ϋ:Uh (σ++[ϓ (nx q m s G L).c (nx q m s G L).fs]) σ.length$ nx q m s G L:=by unfold Uh;simp
 have y:=Fr.app σ [ϓ (nx q m s G L).c (nx q m s G L).fs];generalize σ++[ϓ (nx q m s G L).c (nx q m s G L).fs]=t at *;have V:=Qs k.v;have kq:=sI k.v;have S:=VQ k ϋ B np A (by
  rw[fF];rcases hq with rfl|rfl
  ·show W P x (Ul 0 0 m s G L) ≥ _;rw[DM];split<;>omega
  ·show W P x (Pr 0 1 m s _ L) ≥ _;rw[iP];split<;>omega)
 have X:=λw=>qk k.v (m:="is_good") 3 mu w rfl;have u:∀ f,UA [U 9,s.D,To A] σ=Y (Ϗ [ϒ A3,ώ [lt q s]]) f->RA [U 9,To A] σ=Y (Ϗ [ϒ A3,ώ [lt q s]]) f:=λf e=>by
  unfold RA NZ BS fW WX sR GZ YZ Ee;dsimp only;generalize To A=M,s.D=K,lt q s=ύ at *;simp[ho,mh,n,kk,j,H,I,b1,nc,cw,mc,wd,mw,e]
 have j1:=s1 s;have j2:=s2 s;have eq:Ϗ [Z A,Ϗ [Z s.a,Z s.b],Ϗ$ s.ts.map Ti.D]=jr A s:=rfl;rcases hq with rfl|rfl
 ·obtain⟨sa,C⟩:=gL k ϋ B ⋯;have F:Fr t$ t.set 11$ J$ one$ U σ.length:=.set t ⋯ _;generalize t.set 11 (J$ one$ U σ.length)=υ at *;have ϊ:=λ(y0 y1 y2 y3 y4 y6:Option D)=>TY (d:=A) (ρ:=[y0,y1,y2,y3,y4,BD$ Z A,y6]) (fv:=ja 5) C ⋯;have h3:=CY C A;refine⟨_,u _ ?_,λ_=>h3,λz=>by omega,(y.trans F).trans$ .set υ (i:=9) ⋯ _⟩;unfold UA AM vN jO DL KN tN DO gM oN Ee;dsimp only;generalize To A=M,s.D=K,lt 0 s=ύ at *;simp[n,j,V,R,H,I,O,N,ό,S,X,sa,ϊ]
 ·have T:=k.h5;rw[hQ]at T;have sq:∀ E,Ln E (jr A s) (U 14) (Z 0) t=Y (Ϙ E) (t.set 14$ J$ one$ jr A s):=λE=>by rw[Wp T ⋯];rfl
  have C:=CU k$ one$ jr A s;refine⟨_,u _ ?_,λz=>by omega,λ_=>C,y.trans$ .set t ⋯ _⟩;unfold UA AM vN jO DL KN tN DO gM oN Ee;dsimp only;generalize To A=M,s.D=K,lt 1 s=ύ at *;simp[n,j,V,kq,R,H,I,O,N,ό,S,X,j1,j2,eq,sq]
end
noncomputable def Bq(l r u v w:Int):D:=Ϗ [Z l,Z r,Z u,Z v,Z w]
noncomputable def PD(P:Pm):D:=if P.s=0 then Bq 1 2 P.u P.v P.w else Bq 2 1 P.u P.v P.w
noncomputable def PL(P:Pm):D:=ώ [PD P]
noncomputable def vO(P:Pm):List$ Str × D:=[("public",U 2),("pots",PL P),("every",Z P.e),("keepers",U 6),("under_way",U 7),("things",U 8)]
noncomputable def bw(P:Pm)(N:Int):List$ Str × D:=[("pots",PL P),("day",Z N),("claims",U 3),("shown",U 4)]
noncomputable def k1:Kv:=[(.inl 1,U 9)]
structure HA(P:Pm)(N:Int)(bc:D)(S:Sm)(T:List TK)(fz:Bool)(σ:Ca):Prop where
 h1:σ[1]?=BD (ϓ 16 (vO P))
 h2:σ[2]?=BD (ϓ 9 (bw P N))
 h3:σ[3]?=BD (ϑ [bc])
 h4:σ[4]?=BD (ϑ [U 5])
 h5:σ[5]?=BD (J (sK S))
 h6:σ[6]?=BD (if fz then Ϡ k1 else J k1)
 h8:σ[8]?=BD (.Je T)
def Lf{a}{n}{o}(h:a[n]?=BD o):lg a (Y (U n) a)=Y (U n) a:=by
 unfold lg;dsimp only;rw[ia ⋯];have:fz a.length a 6 (U n)=BD (U n):=by
  unfold fz;dsimp only;rw[ia$ (ba.mp h).1]
  simp_all
 rw[this]
def OL{σ}{n}{xs}{i:Nat}{d}(h:σ[n]?=BD (ϑ xs))(a:xs[i]?=BD d):ib (U n) (Z i) σ=Y d σ:=by
 have l:af σ n=BD xs:=by unfold af;rw[h]
 simp[ib,zi,l,Aq a]
section
variable{P:Pm}{N:Int}{bc:D}{S:Sm}{T:List TK}{fz:Bool}{σ:Ca}(H:HA P N bc S T fz σ)
include H
theorem HA.app j:HA P N bc S T fz$ σ++j:=⟨Di H.h1,Di H.h2,Di H.h3,Di H.h4,Di H.h5,Di H.h6,Di H.h8⟩
theorem HA.fr{a}(f:Fr σ a):HA P N bc S T fz a:=⟨f _ _ ⋯ H.h1,f _ _ ⋯ H.h2,f _ _ ⋯ H.h3,f _ _ ⋯ H.h4,f _ _ ⋯ H.h5,f _ _ ⋯ H.h6,f _ _ ⋯ H.h8⟩
theorem HA.hi{r}(a:8<r) o:HA P N bc S T fz$ σ.set r o:=⟨Wb ⋯ H.h1,Wb ⋯ H.h2,Wb ⋯ H.h3,Wb ⋯ H.h4,Wb ⋯ H.h5,Wb ⋯ H.h6,Wb ⋯ H.h8⟩
theorem HA.tH ϋ:HA P N bc S ϋ fz$ σ.set 8$ .Je ϋ:=⟨Wb ⋯ H.h1,Wb ⋯ H.h2,Wb ⋯ H.h3,Wb ⋯ H.h4,Wb ⋯ H.h5,Wb ⋯ H.h6,Bm H.h8⟩
theorem HA.JD b:HA P N b S T fz$ σ.set 3$ ϑ [b]:=⟨Wb ⋯ H.h1,Wb ⋯ H.h2,Bm H.h3,Wb ⋯ H.h4,Wb ⋯ H.h5,Wb ⋯ H.h6,Wb ⋯ H.h8⟩
theorem HA.jC ϋ:HA P N bc ϋ T fz$ σ.set 5$ J$ sK ϋ:=⟨Wb ⋯ H.h1,Wb ⋯ H.h2,Wb ⋯ H.h3,Wb ⋯ H.h4,Bm H.h5,Wb ⋯ H.h6,Wb ⋯ H.h8⟩
theorem HA.day M:HA P M bc S T fz$ σ.set 2$ ϓ 9$ bw P M:=⟨Wb ⋯ H.h1,Bm H.h2,Wb ⋯ H.h3,Wb ⋯ H.h4,Wb ⋯ H.h5,Wb ⋯ H.h6,Wb ⋯ H.h8⟩
theorem HA.Oc a:HA P N bc S T a$ σ.set 6$ if a then Ϡ k1 else J k1:=⟨Wb ⋯ H.h1,Wb ⋯ H.h2,Wb ⋯ H.h3,Wb ⋯ H.h4,Wb ⋯ H.h5,Bm H.h6,Wb ⋯ H.h8⟩
theorem WF:Mb [9,14,16] "pots" (U 1) σ=Y (PL P) σ:=Ih (Sk H.h1) rfl rfl
theorem Zy:Mb [16] "keepers" (U 1) σ=Y (U 6) σ:=Ih (Sk H.h1) rfl rfl
theorem uO:Mb [16] "things" (U 1) σ=Y (U 8) σ:=Ih (Sk H.h1) rfl rfl
theorem UC:Mb [16] "public" (U 1) σ=Y (U 2) σ:=Ih (Sk H.h1) rfl rfl
theorem ype:Mb [14,15,16] "every" (U 1) σ=Y (Z P.e) σ:=Ih (Sk H.h1) rfl rfl
theorem sj{x} k a b(c:(vO P).lookup x=L6):oj [(16,a)] k x b (U 1) σ=(b σ).bind (Ai k a$ U 1):=Tn (Sk H.h1) rfl c
theorem jn{x} k a b(c:(bw P N).lookup x=L6):oj [(9,a)] k x b (U 2) σ=(b σ).bind (Ai k a$ U 2):=Tn (Sk H.h2) rfl c
theorem MY:mi σ (U 6)=BD k1:=by
 have:=H.h6;unfold mi;cases fz<;>simp[this]
theorem gU:Dl (U 6) (Z 1) σ=Y (U 9) σ:=by
 unfold Dl;simp[Vi,MY H];rfl
theorem iG:tq (Z 1) (U 6) σ=Y (ϒ A3) σ/\Vo (Z 1) (U 6) σ=Y (ϒ Ŷ) σ/\tq (Z 2) (U 6) σ=Y (ϒ Ŷ) σ/\Vo (Z 2) (U 6) σ=Y (ϒ A3) σ:=by
 unfold tq Vo;simp only[Vi,MY H];exact⟨rfl,rfl,rfl,rfl⟩
theorem II{o}(e:σ[9]?=BD o):Gq [U 1,Z 1] σ=Y (U 9) σ:=by
 unfold Gq be;simp[(Zy H),((iG H).2.1),(gU H),(Lf e)]
end
section
variable{P:Pm}(o:P.Ok)
include o
theorem zD a:ib (PL P) (Z 0) a=Y (PD P) a:=by unfold PL;simp
theorem lN a:Xx (PD P) L6 (BD 2) a=Y (Ϗ [Z$ 1+P.s,Z$ 2 - P.s]) a:=by
 unfold PD;rcases o.s with e|e<;>rw[e]<;>simp<;>unfold Bq<;>rw[vD]<;>rfl
theorem XJ{i}(b:i=1 - P.s) a:ib (PD P) (Z i) a=Y (Z 2) a:=by
 subst b;unfold PD;rcases o.s with e|e<;>rw[e]<;>simp<;>unfold Bq<;>simp
theorem XH a:ib (PD P) (Z P.s) a=Y (Z 1) a:=by
 unfold PD;rcases o.s with e|e<;>rw[e]<;>simp<;>unfold Bq<;>simp
end
@[simp] theorem zp8 f c b a d:jI f c b a d=fk a (oO a c b) (f a d):=xk ..
@[simp] theorem zqh b a d ρ c:oO ρ b a d c=fk ρ (qQ ρ a) (b ρ c):=xk ..
@[simp] theorem zqi b x a c:qQ a b x c=fk a (pA a x) (b a c):=xk ..
theorem vG{c:Type}{f:D->Option c}:∀ {a:g'},(∀ d∈a,∃ k,f d=BD k)->∃ ks,my f a=BD ks
 |[],_=>⟨_,rfl⟩
 |d::a,h=>by
  obtain⟨k,e⟩:=h d ya;obtain⟨ks,g⟩:=vG λx b=>h x$ ra _ b;unfold my
  simp_all
def fA n i:∃ k,ww n (Z i)=BD k:=by cases n<;>exact⟨_,rfl⟩
def fQ n x:∃ k,ww n (ϐ x)=BD k:=by cases n<;>exact⟨_,rfl⟩
def XI{n}{a}(h:∀ d∈a,∃ k,ww n d=BD k):∃ k,ww (n+1) (Ϗ a)=BD k:=by
 obtain⟨ks,e⟩:=vG h;exact⟨.inr ks,by show (my _ a).map Sum.inr=_;rw[e];rfl⟩
def Ô(s:Sn):∃ k,ww 4 s.D=BD k:=XI λd hd=>by
 simp at hd;rcases hd with rfl|rfl|rfl
 ·exact fA ..
 ·exact XI λd hd=>by
   simp at hd;rcases hd with rfl|rfl<;>exact fA ..
 ·exact XI λd hd=>by
   obtain⟨t,_,rfl⟩:=La.mp hd;exact XI λd hd=>by
    simp at hd;rcases hd with rfl|rfl|rfl|rfl<;>exact fA ..
def hO p q(s:Sn):∃ k,Xp [ϐ "agree",Z p,Z q,s.D]=BD k:=vG λd hd=>by
 simp at hd;rcases hd with rfl|rfl|rfl|rfl
 ·exact fQ ..
 ·exact fA ..
 ·exact fA ..
 ·exact Ô s
def mZ p q n:∃ k,Xp [ϐ "strike",Z p,Z q,Z n]=BD k:=vG λd hd=>by
 simp at hd;rcases hd with rfl|rfl|rfl|rfl
 ·exact fQ ..
 all_goals exact fA ..
def UI{T}{k a}:a∈dn T k ↔ a∈T\/a=k:=by
 unfold dn
 grind
def Ot(a:List$ g')(T:List TK):List TK:=a.foldl (λT y=>dn T$ (Xp y).getD []) T
theorem dP:∀ {tl:List$ g'} {T:List TK} {k:TK},k∈T->k∈Ot tl T
 |[],T,k,h=>h
 |y::tl,T,k,h=>dP (tl:=tl) (UI.mpr$ ϖ h)
theorem xV:∀ {tl:List$ g'} {T:List TK} {y:g'} {k:TK},y∈tl->Xp y=BD k->k∈Ot tl T
 |z::tl,T,y,k,h,e=>by
  rcases Fa.mp h with rfl|h
  ·exact dP (tl:=tl)$ UI.mpr$ ϙ ⋯
  ·exact xV (tl:=tl) h e
theorem oU:∀ (a:List$ g') (T:List TK),(Ot a T).length<=T.length+a.length
 |[],T=>by simp[Ot]
 |y::a,T=>by
  have:=oU a$ dn T$ (Xp y).getD [];have:(dn T$ (Xp y).getD []).length<=T.length+1:=by unfold dn;split<;>simp
  show (Ot a _).length<=_;simp;lia
structure Lt(ό:D)(tl:List (g')):Prop where
 i1:∀ σ,ib ό (Z 1) σ=Y (Z 0) σ
 t:∀ σ,ff [ό] σ=Y (ώ (tl.map Ϗ)) σ
 k:∀ y∈tl,∃ k,Xp y=BD k
 l:tl.length<=2
section
variable{P:Pm}(o:P.Ok){N:Int}{bc:D}{S:Sm}{fz:Bool}
theorem fT(ό:Option D):∀ (a:List$ g') (T:List TK) (σ:Ca) (c:Option D),(∀ y∈a,∃ k,Xp y=BD k)->T.length+a.length<900->HA P N bc S T fz σ->∃ d,Qj (wc 2) SO (a.map Ϗ) [BD$ U 1,ό,c] σ=Y (Ϙ [BD$ U 1,ό,d]) (σ.set 8$ .Je$ Ot a T)
 |[],T,σ,c,_,_,H=>⟨c,by rw[Df,lw];show _=Y _ (σ.set 8$ .Je T);rw[Ez H.h8]⟩
 |y::a,T,σ,c,h,g,H=>by
  obtain⟨k,f⟩:=h y ya;have st:∀ e,pA e (U 8) (Ϗ y) σ=Y (Ϙ e) (σ.set 8$ .Je$ dn T k):=λe=>by
   unfold pA;simp[f,H.h8];show T.length<1000;simp at g;lia
  have:(dn T k).length<=T.length+1:=by unfold dn;split<;>simp
  obtain⟨d,i⟩:=fT ό a (dn T k) _ _ (λy j=>h y$ ra _ j) (by simp at g ⊢;lia) (H.tH _);rw[Gf]at i;refine⟨d,?_⟩;rw[show Ot (y::a) T=Ot a (dn T k) by show Ot a (dn T$ (Xp y).getD [])=_;rw[f];rfl,gb,iu];simp only[Zb,qc];have b:SO [BD$ U 1,ό,BD$ Ϗ y] σ=Y (Ϙ [BD$ U 1,ό,BD$ Ϗ y]) (σ.set 8$ .Je$ dn T k):=by simp[(uO H),st]
  rw[b,zd,Vn,i]
def Ż{T}{σ}(H:HA P N bc S T fz σ){ό}{b}(a:Lt ό b)(f:T.length<=800):GD [U 1,ό] σ=Y Ϛ (σ.set 8$ .Je$ Ot b T):=by
 have c:=a.t;have d:=a.l;obtain⟨g,e⟩:=fT (BD ό) b T σ L6 a.k ⋯ H;unfold GD TW Ee;simp[c,e]
def Ī{a}:Qp [U 1,Z 1,ώ []] a=Y Ϛ a:=by
 unfold Qp FN Ee;simp
include o
theorem P8{T}{σ}(H:HA P N bc S T fz σ){ό}{b}(a:Lt ό b)(d:T.length<=800):Qp [U 1,Z 1,ώ [ό]] σ=Y Ϛ (σ.set 8$ .Je$ Ot b T):=by
 have i:=a.i1;have h:=WF H;have g:=Zy H;have j:=(iG H).2.2.1;have l:=Ż H a d;have k:=λc=>sj H (x:="tell_band") 2 GD c rfl;have m:=zD o;have f:=lN o;unfold Qp FN Ee;dsimp only;rcases o.s with e|e<;>rw[e]at f;all_goals simp_all
theorem LO{T}{a}(H:HA P N bc S T fz a):rB [U 1,Z 0] a=Y (ϒ A3) a:=by
 have c:=WF H;have d:wk [PL P] a=Y _ a:=WP _;have b:xf [Z 0,Z 0,Z 0] a=Y _ a:=bt ⋯ a;unfold rB be;dsimp only
 simp_all
theorem G9{T}{a}(H:HA P N bc S T fz a):GE [U 1,Z 0] a=Y (ώ [Z 1]) a:=by
 have h:=WF H;have c:=zD o;have k:=lN o;have f:=cG (xs:=[1+P.s,2 - P.s]) (s:=.seq [Z$ 1+P.s,Z$ 2 - P.s]) (ix:=[0]) (fi:=eT$ Sa tq (ja 0)$ Vc (Mb [16] "keepers")$ ja 2) (fe:=ja 0) (src:=kh$ wB (Sa ib (Vc (Mb [9,14,16] "pots")$ ja 0)$ ja 1) L6$ BD$ eC$ Z 2) (ρ:=[BD$ U 1,BD$ Z 0]) (σ:=a) Z Z (λw=>decide$ w=1) (by
  simp[h,c,k]) (λi l=>Ab BD$ dt [1+P.s,2 - P.s] Z i) ⋯ (λw b j=>by
  have d:=iG$ H.app j;have b:w=1\/w=2:=by rcases o.s with e|e<;>rw[e]at b<;>simp at b<;>omega
  rcases b with rfl|rfl
  ·exact⟨by simp[(Zy$ H.app j),d.1],λl=>by simp⟩
  ·exact⟨by simp[(Zy$ H.app j),d.2.2.1],λl=>by simp⟩) (λw l l=>rfl)
 have e:([1+P.s,2 - P.s].filter λw=>decide$ w=1).map Z=[Z 1]:=by
  rcases o.s with e|e<;>rw[e]<;>rfl
 rw[e]at f;unfold GE be;simp[(LO o H),(λg=>sj H (x:="has_pot") 2 rB g rfl),f,-lr]
theorem qU{T}{a}(H:HA P N bc S T fz a){s}(c:s=1 - P.s):Hx [U 1,Z 0,Z s] a=Y (ϒ A3) a:=by
 have e:=XJ o c;have d:=zD o;have g:=o.s;have f:=WF H;unfold Hx be;dsimp only;simp[(LO o H),(λb=>sj H (x:="has_pot") 2 rB b rfl),f,d,(Ly (s:=s) ⋯ a),e,(Zy H),((iG H).2.2.2)]
theorem Ĭ{T}{a}(H:HA P N bc S T fz a):Hx [U 1,Z 0,Z P.s] a=Y (ϒ Ŷ) a:=by
 have d:=XH o;have c:=zD o;have f:=Ly o.s a;have e:=WF H;unfold Hx be;dsimp only;simp[(LO o H),(λb=>sj H (x:="has_pot") 2 rB b rfl),e,c,f,d,(Zy H),((iG H).2.1)]
theorem mT{T}{a}(H:HA P N bc S T fz a){x}{s}{r}{k}(d:Xp (ϐ x::Z 0::Z s::r)=BD k)(e:(x == ("word" : Str))=Ŷ){b}(j:Hx [U 1,Z 0,Z s] a=Y (ϒ b) a):Kw [U 1,Ϗ$ ϐ x::Z 0::Z s::r] a=Y (ϒ$ decide (k∈T) || b) a:=by
 have i:NC (Ϗ$ ϐ x::Z 0::Z s::r) (U 8) a=Y (ϒ$ decide$ k∈T) a:=by
  unfold NC;simp[d,H.h8]
 have f:ib (Ϗ$ ϐ x::Z 0::Z s::r) (Z 0) a=Y _ a:=Lw$ Aq rfl;have g:ib (Ϗ$ ϐ x::Z 0::Z s::r) (Z 1) a=Y _ a:=Lw (show Mn _ _=_ from Aq rfl);have h:ib (Ϗ$ ϐ x::Z 0::Z s::r) (Z 2) a=Y _ a:=Lw (show Mn _ _=_ from Aq rfl);unfold Kw be;dsimp only;generalize Ϗ _=L,decide (k∈T)=B at *;cases B<;>simp[(uO H),i,f,e,g,h,(λc=>sj H (x:="is_side_of_band") 3 Hx c rfl),j]
theorem Ø{T}{a}(H:HA P N bc S T fz a){x}(V:KV P x a){L}{d}(z:vd [L] a=Y (ϒ A3) a)(e:Lt L d)(v:∀ y∈d,∃ x r,y=ϐ x::Z 0::Z (1 - P.s)::r/\(x == ("word" : Str))=Ŷ){R}{p c}(tk:As [U 9,L] a=Y (ώ R) p)(E:Qp [U 1,Z 1,ώ R] p=Y Ϛ c)(B:∀ b,oj [(16,Qp)] 3 "send" b (U 1) a=(b a).bind (Ai 3 Qp$ U 1)):rq [U 1,L] a=Y Ϛ c:=by
 have l:=Av (xs:=d) (s:=.seq _) (src:=kh$ Ye 1 ff []$ Ba (ja 1) Ua) (ix:=[0]) (ρ:=[BD$ U 1,BD L,BD$ ώ [Z 1]]) (σ:=a) (fe:=Qd [(16,Kw)] 2 "band_can" (ja 2)$ Ba (ja 0) Ua) Ϗ (λD=>ϒ A3) (by simp[e.t]) (λi D=>Ab BD$ dt _ _ i) (by have:=e.l;lia) (λy n j=>by
  obtain⟨k,q⟩:=e.k y n;obtain⟨x,r,rfl,w⟩:=v y n;have h:=mT o (H.app j) q w$ qU o (H.app j) rfl;rw[Bool.or_true]at h;generalize Ϗ _=ό at *;simp[(λb=>sj (H.app j) (x:="band_can") 2 Kw b rfl),h]) (λD D=>rfl)
 have g:hG [ώ _] a=Y (ϒ$ d.all λD=>A3) a:=NT (σ:=a) (f:=λD=>A3) (l:=d);rw[qb.mpr ⋯]at g;have A:wk [ώ [Z 1]] a=Y (Z 1) a:=WP _;have C:rh (Z 1) (Z 1) a=Y (ϒ Ŷ) a:=by simp
 have u:SE [U 1,Z 1,L] a=Y Ϛ c:=by
  unfold SE Ee;dsimp only;simp[(Zy H),(gU H),(λb=>qk V (m:="take") 2 As b rfl),tk,B,E]
 unfold rq Ee;dsimp only;generalize d.map (λD=>ϒ A3)=ϊ at *;simp[z,e.i1,(G9 o H),(λb=>sj H (x:="keeping_hands") 2 GE b rfl),A,C,l,g,(λb=>sj H (x:="hand_over") 3 SE b rfl),u,-lr]
theorem wV{T}{c}(H:HA P N bc S T fz c){x}(V:KV P x c){ό}{t}{R}{d b}(e:RA [U 9,ό] c=Y (Ϗ [ϒ t,ώ R]) d)(f:∀ a,oj [(16,Qp)] 3 "send" a (U 1) d=(a d).bind (Ai 3 Qp$ U 1))(s:Qp [U 1,Z 1,ώ R] d=Y Ϛ b):Vz [U 1,Z 1,ό] c=Y (ϒ t) b:=by
 unfold Vz Ee;simp[(λa=>sj H (x:="keeper") 2 Gq a rfl),(II H V.h0),(λa=>qk V (m:="wish") 2 RA a rfl),e,f,s]
end
def yo(T:List TK)(y:g'):Prop:=∃ k,Xp y=BD k/\k∈T
@[simp] theorem yu6:(("offer" : Str) == "ask")=Ŷ:=by decide
@[simp] theorem W7:(("offer" : Str) == "word")=Ŷ:=by decide
@[simp] theorem Ź:(("accept" : Str) == "ask")=Ŷ:=by decide
@[simp] theorem E6:(("accept" : Str) == "word")=Ŷ:=by decide
@[simp] theorem Ğ:(("struck" : Str) == "ask")=Ŷ:=by decide
@[simp] theorem n7:(("struck" : Str) == "word")=Ŷ:=by decide
theorem LQ{ό}{k}{xs}(d:∀ a,ib ό (Z 0) a=Y (ϐ k) a)(e:(k == ("ask" : Str))=Ŷ)(kw:(k == ("word" : Str))=Ŷ)(f:∀ a,Xx ό (BD 2) L6 a=Y (Ϗ xs) a)(b:vf xs=A3) a:ff [ό] a=Y (ώ xs) a:=by
 have c:∀ a,lg a _=Y _ a:=λa=>WT (G5 _) b;unfold ff Fc;simp[d,e,kw,f,c,b]
section
variable(m s:Sn)(n q:Int)
def tE:Lt (Pk 0 0 s) [[ϐ "agree",Z 0,Z 0,s.D]]:=⟨aI _ _ _,LQ (EM _ _ _) yu6 W7 (λb=>by unfold Pk;rw[vD];rfl) (by simp[Jl]),λy a=>by
 obtain rfl:=Oa.mp a;exact hO ..,by simp⟩
def CT:Lt (vq 0 q n) [[ϐ "strike",Z 0,Z q,Z n]]:=⟨sP _ _ _,LQ (wO _ _ _) Ğ n7 (λb=>by unfold vq;rw[vD];rfl) ⋯,λy a=>by
 obtain rfl:=Oa.mp a;exact mZ ..,by simp⟩
def sN:Lt (Ip 0 m s) [[ϐ "agree",Z 0,Z 1,s.D],[ϐ "strike",Z 0,Z 1,Z m.n]]:=⟨nQ _ _ _,LQ (jM _ _ _) Ź E6 (λb=>by unfold Ip;rw[vD];rfl) (by simp[Jl]),λy a=>by
 rcases Fa.mp a with rfl|a
 ·exact hO ..
 ·obtain rfl:=Oa.mp a;exact mZ ..,by simp⟩
def qO:Lt (Xo 0 s) []:=⟨GN _ _,λc=>by
 have b:=OP 0 s;unfold ff Fc;dsimp only;simp[b],(λy a=>by cases a),by simp⟩
end
def Rj.low{P}{x}{a}{b}(h:Rj P x a b){r}(g:r<9) o:Rj P x a$ b.set r o:=⟨⟨Wb ⋯ h.v.h0,Wb ⋯ h.v.h1,Wb ⋯ h.v.h3,Wb ⋯ h.v.h4⟩,Wb ⋯ h.h2,Wb ⋯ h.h5,Wb ⋯ h.h6,Wb (by have:=h.r;lia) h.i,h.s.imp id λ⟨q,d,e,f⟩=>⟨q,d,e,Wb ⋯ f⟩,h.o,h.r,h.z,h.c⟩
structure St(P:Pm)(x:Xk)(a:Ac)(σ:Ca):Prop where
 H:HA P x.N x.bc x.S x.T Ŷ σ
 k:Rj P x a σ
def LK(a b:Ca):Prop:=∀ r l,15<r->a[r]?=BD (ϑ l)->b[r]?=BD (ϑ l)
def LK.trans{a b c}(h:LK a b)(g:LK b c):LK a c:=λr l k e=>g r l k$ h r l k e
def LK.set{a b}(h:LK a b){n}(c:n<=15) o:LK a$ b.set n o:=λr l k e=>Wb ⋯$ h r l k e
def LK.fresh{a b}(h:LK a b){n}(c:a.length<=n) o:LK a$ b.set n o:=λr l k e=>Wb (by have:=(ba.mp e).1;lia)$ h r l k e
def LK.rfl{a}:LK a a:=λb b b e=>e
def LK.app a j:LK a$ a++j:=λb b b e=>Di e
def Fr.lk{a b}(f:Fr a b):LK a b:=λc c h e=>f _ _ (ϙ h) e
def Sub(T ϋ:List TK)(n:Nat):Prop:=(∀ k∈T,k∈ϋ)/\ϋ.length<=T.length+n
def Sub.trans{T ϋ V}{n m}(h:Sub T ϋ n)(a:Sub ϋ V m):Sub T V$ n+m:=⟨λk b=>a.1 k$ h.1 k b,by have:=h.2;have:=a.2;lia⟩
def Sub.in{T ϋ}{n}(h:Sub T ϋ n){y}(i:yo T y):yo ϋ y:=by
 obtain⟨k,e,a⟩:=i;exact⟨k,e,h.1 k a⟩
section
variable{P:Pm}(o:P.Ok){x:Xk}{a:Ac}{σ:Ca}
def St.tH(S:St P x a σ) ϋ:St P { x with T:=ϋ } a$ σ.set 8$ .Je ϋ:=
 ⟨S.H.tH ϋ,have h:=S.k.low ⋯ _;⟨⟨h.v.h0,h.v.h1,h.v.h3,h.v.h4⟩,h.h2,h.h5,h.h6,h.i,h.s,h.o,h.r,h.z,h.c⟩⟩
include o
theorem dL(S:St P x a σ)(A:x.T.length<=700){R}(v:R=[]\/∃ ό c,R=[ό]/\Lt ό c):∃ i m,Qp [U 1,Z 1,ώ R] σ=Y Ϛ m/\St P { x with T:=i } a m/\LK σ m/\Sub x.T i 2/\∀ ό c,R=[ό]->Lt ό c->∀ y∈c,yo i y:=by
 rcases v with rfl|⟨ό,c,rfl,g⟩
 ·exact⟨x.T,σ,Ī,S,λB B B e=>e,⟨λk h=>h,by lia⟩,λό c h=>by cases h⟩
 ·refine⟨Ot c x.T,_,P8 o S.H g ⋯,S.tH _,λB B B e=>Wb ⋯ e,⟨λk h=>dP h,by have:=oU c x.T;have:=g.l;lia⟩,λϊ d e w y r=>?_⟩;cases e;have f:=g.t [];rw[w.t []]at f;have s:d.map Ϗ=c.map Ϗ:=by injection f with f;injection f
  have u:d=c:=by
   have j:∀ (p q:List _),p.map Ϗ=q.map Ϗ->p=q:=λp=>by
    induction p with
    |nil=>simp
    |cons a p z=>
     intro q h;cases q with
     |nil=>simp at h
     |cons b q=>
      simp at h;rw[h.1,z q h.2]
   exact j _ _ s
  apply b_;intro z_;subst u;obtain⟨k,n⟩:=g.k y r;apply z_;exact⟨k,n,xV r n⟩
theorem zF(S:St P x a σ)(q:x.T.length<=700){L}{j}(z:vd [L] σ=Y (ϒ A3) σ)(n:Lt L j)(u:∀ y∈j,∃ x r,y=ϐ x::Z 0::Z (1 - P.s)::r/\(x == ("word" : Str))=Ŷ){R}{h}{r}{g}{Q}{i}(tk:As [U 9,L] σ=Y (ώ R) h)(k:Rj P { x with r:=r,g:=g,Q:=Q } i h)(f:Fr σ h)(p:R=[]\/∃ ό d,R=[ό]/\Lt ό d):∃ c b,rq [U 1,L] σ=Y Ϛ b/\St P { x with r:=r,g:=g,Q:=Q,T:=c } i b/\LK σ b/\Sub x.T c 2/\∀ ό d,R=[ό]->Lt ό d->∀ y∈d,yo c y:=by
 obtain⟨c,b,e,l,w,A,t⟩:=dL o (x:={ x with r:=r,g:=g,Q:=Q }) ⟨S.H.fr f,k⟩ q p;exact⟨c,b,Ø o S.H S.k.v z n u tk e λm=>sj S.H 3 Qp m rfl,l,f.lk.trans w,A,t⟩
end
noncomputable def Ii(n:Nat):g':=(List.range n).map λ(i:Nat)=>Z i
theorem VW n:Ii n++[Z n]=Ii (n+1):=by unfold Ii;rw[List.range_succ,vc];rfl
theorem fC n:vf (Ii n)=A3:=Xs λd hd=>by
 obtain⟨i,_,rfl⟩:=La.mp hd;rfl
def US n:(Ii n).length=n:=by unfold Ii;simp
structure Nx(P:Pm)(x:Xk)(s:Sn)(n k:Nat)(σ0 σ:Ca)(r:Nat)(g:Int)(G:D)(T:List TK):Prop where
 S:St P { x with r:=r,g:=g,Q:=[],T:=T } (gc 0 P.s s G (Ii n)) σ
 c:cl G=A3
 t:Sub x.T T k
 i:yo T [ϐ "agree",Z 0,Z P.s,s.D]
 f:LK σ0 σ
section
variable{P:Pm}(o:P.Ok){x:Xk}{σ:Ca}(hc:x.kc=Zm\/x.kc=Mq)(hT:x.T.length<=650){Wh:Int}{m s:Sn}{G:D}(hg:cl G=A3){n:Nat}(hn:n<=30)(hm:m.n=n)
include o hc hT hg hn hm
theorem EW(f:P.s=1)(z:xq Wh 1 m s)(S:St P x (gc 0 1 m G$ Ii n) σ){d}(hd:x.Q=aq d s)(L:0<=d.getD 0)(g:ws P x 1 s ≥ ws P x 1 m - d.getD 0):∃ r K u w c,Rc [U 1,Z 1,s.D,Z m.n] σ=Y Ϛ c/\Nx P x s (n+1) 4 σ c r K u w:=by
 obtain⟨τ,W,k1,I⟩:=A7 hc hg (fC n) z S.k hd L g;obtain⟨t,e,B,h,R,a,N⟩:=zF o S ⋯ (GP ⋯ σ (ϖ rfl) z.hs.st) (tE s) (λy j=>by
  obtain rfl:=Oa.mp j;exact⟨_,_,by rw[f];rfl,by decide⟩) W k1 I (ϙ ⟨_,_,rfl,sN m s⟩)
 have M:=a.2;obtain⟨ό,X,O,ύ⟩:=B5 (x:={ x with r:=σ.length,g:=x.g+d.getD 0,Q:=[],T:=t }) hc (Iz$ Jl s) (fC n) (by rw[US];omega) z h.k rfl;obtain⟨A,q,C,v,ϋ,b,i2⟩:=zF o h (by show t.length<=700;omega) (HN ⋯ e (ϖ rfl) z.hm.st.n) (CT m.n 0) (λy j=>by
  obtain rfl:=Oa.mp j;exact⟨_,_,by rw[f];rfl,by decide⟩) X O ύ (ϖ rfl)
 refine⟨e.length,x.g+d.getD 0+0,Af 0 0 s.D,A,q,?_,⟨?_,Iz (p:=0) (s:=0)$ Jl s,a.trans b,?_,R.trans ϋ⟩⟩
 ·have V:=λi=>sj S.H (x:="band") 2 rq i rfl;have l:=λi=>sj h.H (x:="band") 2 rq i rfl;have E:Ϗ [ϐ "offer",Z 0,Ϗ [ϐ "agree",Z 0,Z 0,s.D]]=Pk 0 0 s:=rfl;have F:Ϗ [ϐ "struck",Z 0,Ϗ [ϐ "strike",Z 0,Z 0,Z m.n]]=vq 0 0 m.n:=rfl;unfold Rc RO rV;generalize s.D=ϊ at *;simp[V,l,E,F,B,C]
 ·rw[f]
  rwa [hm,VW]at v
 ·rw[f];exact b.in$ N _ _ rfl (sN m s) _ ⋯
theorem KS(c:P.s=0)(z:xq Wh 0 m s)(S:St P x (Ul 0 0 m s G$ Ii n) σ)(hd:x.Q=[])(t:yo x.T [ϐ "agree",Z 0,Z 0,s.D]):∃ r q f i b,rq [U 1,Ip 0 m s] σ=Y Ϛ b/\Nx P x s (n+1) 2 σ b r q f i:=by
 obtain⟨A,v,k1,p⟩:=ykr hc hg (fC n) (by rw[US];lia) z S.k hd;obtain⟨j,e,l,h,u,a,w⟩:=zF o S ⋯ (DP ⋯ σ z.hs.st z.hm.st.n) (sN m s) (λy d=>by
  rcases Fa.mp d with rfl|d
  ·exact⟨_,_,by rw[c];rfl,by decide⟩
  ·obtain rfl:=Oa.mp d;exact⟨_,_,by rw[c];rfl,by decide⟩) v k1 p (ϙ ⟨_,_,rfl,CT m.n 0⟩)
 refine⟨σ.length,x.g+0,Af 0 1 s.D,j,e,l,⟨?_,Iz$ Jl s,a,?_,u⟩⟩
 ·rw[c]
  rwa [hm,VW]at h
 ·rw[c];exact a.in t
theorem XV(ϊ:x.T.length<=600)(M:P.s=0)(z:xq Wh 0 m s)(hd:x.Q=[])(h:St P x (gc 0 0 m G$ Ii n) σ/\ws P x 0 s ≥ ws P x 0 m\/St P x (Ul 0 0 m s G$ Ii n) σ/\yo x.T [ϐ "agree",Z 0,Z 0,s.D]):∃ r C q v d,Rc [U 1,Z 0,s.D,Z m.n] σ=Y Ϛ d/\Nx P x s (n+1) 4 σ d r C q v:=by
 have i1:=s1 s;have i2:=s2 s;have W:Ϗ [ϐ "ask",Z 0,Ϗ [Z s.a,Z s.b],Ϗ$ s.ts.map Ti.D]=Xo 0 s:=rfl;have X:Ϗ [ϐ "accept",Z 0,Ϗ [ϐ "agree",Z 0,Z 1,s.D],Ϗ [ϐ "strike",Z 0,Z 1,Z m.n]]=Ip 0 m s:=rfl;have B:∀ {l d:Ca} {N:Int} {V:D} {ϋ:Sm} {p:List TK},HA P N V ϋ p Ŷ l->HA P x.N x.bc x.S x.T Ŷ σ->rq [U 1,Xo 0 s] σ=Y Ϛ l->rq [U 1,Ip 0 m s] l=Y Ϛ d->Rc [U 1,Z 0,s.D,Z m.n] σ=Y Ϛ d:=λR H w A=>by
  have mb:=λE=>sj H (x:="band") 2 rq E rfl;have K:=λE=>sj R (x:="band") 2 rq E rfl;unfold Rc RO lZ;generalize s.D=SD,Ϗ (s.ts.map Ti.D)=TD at *;simp[mb,K,i1,i2,W,X,w,A]
 rcases h with⟨S,g⟩|⟨S,hi⟩
 ·apply b_;intro z_;obtain⟨τ,L,k1,ό⟩:=Λ hc hg (fC n) z S.k g;obtain⟨p,l,w,u,ύ,j,O⟩:=zF o S ⋯ (LI ⋯ σ z.hs.st) (qO s) (λy I=>by cases I) L (r:=σ.length) (g:=x.g) (Q:=x.Q) k1 ό (ϙ ⟨_,_,rfl,tE s⟩);have F:=j.2;obtain⟨r,C,q,v,d,A,N⟩:=KS o (x:={ x with r:=σ.length,g:=x.g,Q:=x.Q,T:=p }) hc (by show p.length<=650;omega) hg hn hm M z u hd (O _ _ rfl (tE s) _$ by simp);apply z_;exact⟨r,C,q,v,d,B u.H S.H w A,N.S,N.c,j.trans N.t,N.i,ύ.trans N.f⟩
 ·apply b_;intro z_;have L:=R9 hc hg (fC n) z S.k;obtain⟨p,l,w,u,ύ,j,O⟩:=zF o S ⋯ (LI ⋯ σ z.hs.st) (qO s) (λy I=>by cases I) L (r:=x.r) (g:=x.g) (Q:=x.Q) S.k (λy y y e=>e) (ϖ rfl);have F:=j.2;obtain⟨r,C,q,v,d,A,N⟩:=KS o (x:={ x with r:=x.r,g:=x.g,Q:=x.Q,T:=p }) hc (by show p.length<=650;omega) hg hn hm M z u hd (j.in hi);apply z_;exact⟨r,C,q,v,d,B u.H S.H w A,N.S,N.c,j.trans N.t,N.i,ύ.trans N.f⟩
end
def ymh{a} xs(x:a):Mn (xs++[x]) (-1)=BD x:=by
 unfold Mn Qq;simp;rw[ia ⋯,show (-1+((xs.length:Int)+1)).toNat=xs.length by lia];simp
def T5 xs x:Ep (xs++[x]) L6 (BD$ -1)=xs:=by
 unfold Ep ϲ;simp;rw[show (-1+((xs.length:Int)+1)).toNat=xs.length by lia];simp
noncomputable def Tf(k r c:Int):Int:=min (min (1+c / k % max 1 r) r) 1000000000000
def zQ{k r} c(a:0<=r):0<=Tf k r c/\Tf k r c<=r/\Tf k r c<=1000000000000:=by
 have:=Gg (c / k) (show max 1 r≠0 by lia);unfold Tf;omega
noncomputable def nA(q:Int)(m:Sn)(t:Ti)(c:List Ti):Sn:=⟨m.n+1,if q=0 then m.a+t.a else m.a,if q=0 then m.b else m.b+t.a,c⟩
noncomputable def nB(q A w y:Int)(m:Sn):Sn:=⟨m.n+1,if q=0 then m.a else m.a - A,if q=0 then m.b - A else m.b,m.ts++[⟨1 - q,A,w,y⟩]⟩
noncomputable def nC(q A:Int)(m:Sn):Sn:=⟨m.n+1,if q=0 then m.a+A else m.a - A,if q=0 then m.b - A else m.b+A,m.ts⟩
def nw(q:Int)(m:Sn)(c:Int):Sn:=
 if c % 4=0/\m.ts≠[]then (match m.ts.getLast? with|some t=>nA q m t m.ts.dropLast|none=>m)
 else if c % 4<3/\0<Tf 120 (ow (1 - q) m) c/\m.ts.length<6/\c / 4 % 30 ∉ m.ts.map Ti.w then nB q (Tf 120 (ow (1 - q) m) c) (c / 4 % 30) (c / 7 % 200) m
 else nC q (Tf 120 (ow (1 - q) m) c) m
theorem Z6 q m c:(∃ t a,m.ts=a++[t]/\nw q m c=nA q m t a)\/(0<Tf 120 (ow (1 - q) m) c/\m.ts.length<6/\c / 4 % 30 ∉ m.ts.map Ti.w/\nw q m c=nB q (Tf 120 (ow (1 - q) m) c) (c / 4 % 30) (c / 7 % 200) m)\/nw q m c=nC q (Tf 120 (ow (1 - q) m) c) m:=by
 unfold nw;by_cases h:c % 4=0/\m.ts≠[]
 ·rw[ia h];obtain⟨t,a,e⟩:∃ t a,m.ts=a++[t]:=⟨m.ts.getLast h.2,m.ts.dropLast,(Nm h.2).symm⟩
  rw[e];exact ϖ ⟨t,a,rfl,by simp⟩
 ·rw[qa h];by_cases b:c % 4<3/\0<Tf 120 (ow (1 - q) m) c/\m.ts.length<6/\c / 4 % 30 ∉ m.ts.map Ti.w
  ·rw[ia b];exact ϙ$ ϖ ⟨b.2.1,b.2.2.1,b.2.2.2,rfl⟩
  ·rw[qa b];exact ϙ$ ϙ rfl
def HW(r:Int):0<max 1 r:=by omega
section
variable{q:Int}(hq:q=0\/q=1)(m:Sn)(hl:m.ts.length<=6)(c:Int)(σ:Ca)
def e7(x:D) c:nE (Hi 3$ Oe (wc 3)$ Oe (wc 4)$ Oe (wc 5) Qi) c m.D σ=Y (Ϙ$ ((c.set 3$ BD$ Z m.n).set 4$ BD$ Ϗ [Z m.a,Z m.b]).set 5$ BD$ Ϗ$ m.ts.map Ti.D) σ:=by
 unfold Sn.D Um;rw[â]
theorem n9 a b:Zo [Ϗ [Z a,Z b]] σ=Y (U σ.length) (σ++[ϑ [Z a,Z b]]):=by
 unfold Zo;simp;rfl
include hl in
theorem S6 w A n:∀ σ,cj (Tk (bp$ kh$ ja 5) [] (wc 0) am$ Sa ib (ja 0)$ eC$ Z 2) [BD m.D,BD$ Z q,BD$ Z c,BD$ Z m.n,BD$ U n,BD$ Ϗ$ m.ts.map Ti.D,BD$ Z w,BD$ Z A] σ=Y (ώ$ (m.ts.map Ti.w).map Z) σ:=λσ=>by
 have l:=Av (xs:=m.ts) (s:=.seq$ m.ts.map Ti.D) (src:=kh$ ja 5) (ix:=[]) (fe:=Sa ib (ja 0)$ eC$ Z 2) (ρ:=[BD m.D,BD$ Z q,BD$ Z c,BD$ Z m.n,BD$ U n,BD$ Ϗ$ m.ts.map Ti.D,BD$ Z w,BD$ Z A]) (σ:=σ) Ti.D (λt=>Z t.w) ⋯ (λi a=>Ab BD$ dt m.ts _ i) ⋯ (λt a j=>by simp[dD]) (λa a=>rfl);rw[show m.ts.map (λt=>Z t.w)=(m.ts.map Ti.w).map Z by rw[Qb];rfl]at l;exact l
include hq hl
theorem G8:Bg [m.D,Z q,Z c] σ=Y (nw q m c).D σ:=by
 have B:=λϊ=>e7 m σ Ϛ ϊ;have ld:=n9 σ m.a m.b;have ό:=S6 (q:=q) m hl c;have L:∀ w σ,ay A3 (Z w) (ώ$ (m.ts.map Ti.w).map Z) σ=Y (ϒ$ !decide (w∈m.ts.map Ti.w)) σ:=λw σ=>by
  rw[dW rfl];congr 2;simp;rw[Xd];simp
 have s:=λi j h u σ=>oW (σ:=σ) i j h u;have g:=λi σ=>FQ (σ:=σ) i (max 1$ ow (1 - q) m)$ HW _;have H:∀ σ,wk [Ϗ$ m.ts.map Ti.D] σ=Y (Z m.ts.length) σ:=λσ=>by
  have:=PK (σ:=σ)$ m.ts.map Ti.D;simpa using this
 have W:=Jl$ nw q m c;have M:min (min (1+c / 120 % max 1 (ow (1 - q) m))$ ow (1 - q) m) 1000000000000=Tf 120 (ow (1 - q) m) c:=rfl;have fz:∀ o,lg σ (Y (nw q m c).D$ σ++[o])=Y (nw q m c).D σ:=λo=>BO W;have x:∀ a b:Int,oA [U σ.length] (σ++[ϑ [Z a,Z b]])=Y (Ϗ [Z a,Z b]) (σ++[ϑ [Z a,Z b]]):=λa b=>by
  unfold oA;simp;rfl
 have K:∀ σ,rh (Ϗ$ m.ts.map Ti.D) (Ϗ []) σ=Y (ϒ$ !decide (m.ts=[])) σ:=λσ=>by
  cases e:m.ts with
  |nil=>exact Wt rfl
  |cons t f=>exact qG (b:=Ŷ) rfl
 by_cases h:c % 4=0/\m.ts≠[]
 ·apply b_;intro z_;obtain⟨t,f,e⟩:∃ t f,m.ts=f++[t]:=⟨m.ts.getLast h.2,m.ts.dropLast,(Nm h.2).symm⟩
  apply z_;have E:nw q m c=nA q m t f:=by unfold nw;rw[ia h,e];simp
  have N:(c % 4 == 0)=A3:=by simp[h.1]
  have O:decide (m.ts=[])=Ŷ:=by simp[h.2]
  have R:∀ σ,ib (Ϗ$ m.ts.map Ti.D) (Z$ -1) σ=Y t.D σ:=λσ=>by
   rw[e,vc];exact Lw$ ymh _ _
  have Q:Ep (m.ts.map Ti.D) L6 (BD$ -1)=f.map Ti.D:=by rw[e,vc];exact T5 _ _
  have p:=kT t;rw[E]at fz ⊢;unfold Bg FH IH PH DI iI pJ nJ WI Fc;rcases hq with rfl|rfl
  ·have d:Ϗ [Z$ m.n+1,Ϗ [Z$ m.a+t.a,Z m.b],Ϗ$ f.map Ti.D]=(nA 0 m t f).D:=rfl;generalize m.ts.map Ti.D=k,m.D=r,t.D=TT,(nA 0 m t f).D=C at *;simp[ow]at g M;simp[B,ld,s,g,K,N,O,R,Q,p,x,d,fz]
  ·have d:Ϗ [Z$ m.n+1,Ϗ [Z m.a,Z$ m.b+t.a],Ϗ$ f.map Ti.D]=(nA 1 m t f).D:=rfl;generalize m.ts.map Ti.D=k,m.D=r,t.D=TT,(nA 1 m t f).D=C at *;simp[ow]at g M;simp[B,ld,s,g,K,N,O,R,Q,p,x,d,fz]
 ·have I:∀ σ,eB [Z$ 1+c / 120 % max 1 (ow (1 - q) m),Z$ ow (1 - q) m,Z 1000000000000] σ=Y (Z$ Tf 120 (ow (1 - q) m) c) σ:=λσ=>Yw ..;have i2:∀ σ,ib (Ϗ [Z m.a,Z m.b]) (Z$ 1 - q) σ=Y (Z$ ow (1 - q) m) σ:=λσ=>pN ⋯ m σ;have p:∀ (n:Nat) (w A:Int) σ,Pq (eT$ Sa Zh (Sa km (ja 2)$ eC$ Z 4)$ eC$ Z 0) (eT$ Sa rh (ja 5)$ Ng Ua) [BD m.D,BD$ Z q,BD$ Z c,BD$ Z m.n,BD$ U n,BD$ Ϗ$ m.ts.map Ti.D,BD$ Z w,BD$ Z A] σ=Y Ŷ σ:=λn w A σ=>by
   have b:=K σ;by_cases z:c % 4=0
   ·have:m.ts=[]:=by simpa [z]using h
    rw[Ib this]at b;generalize m.ts.map Ti.D=k at *;simp[b,z]
   ·have ϋ:(c % 4 == 0)=Ŷ:=by simp[z]
    simp[ϋ]
  have v:∀ (n:Nat) σ,Pq (eT$ Sa oLt (Sa km (ja 2)$ eC$ Z 4)$ eC$ Z 3) (Pq (eT$ Sa EG (ja 7)$ eC$ Z 0)$ Pq (eT$ Sa oLt (ak wk$ Ba (ja 5) Ua)$ eC$ Z 6)$ eT$ Sa (ay A3) (ja 6)$ cj$ Tk (bp$ kh$ ja 5) [] (wc 0) am$ Sa ib (ja 0)$ eC$ Z 2) [BD m.D,BD$ Z q,BD$ Z c,BD$ Z m.n,BD$ U n,BD$ Ϗ$ m.ts.map Ti.D,BD$ Z$ c / 4 % 30,BD$ Z$ Tf 120 (ow (1 - q) m) c] σ=Y (decide$ c % 4<3/\0<Tf 120 (ow (1 - q) m) c/\m.ts.length<6/\c / 4 % 30 ∉ m.ts.map Ti.w) σ:=λn σ=>by
   have X:=ό (c / 4 % 30) (Tf 120 (ow (1 - q) m) c) n σ;have L:=L (c / 4 % 30) σ;have H:=H σ;generalize Tf 120 (ow (1 - q) m) c=A,m.D=r,m.ts.map Ti.D=k,(m.ts.map Ti.w).map Z=WD,m.ts.map Ti.w=T,c / 4 % 30=w at *;by_cases G:c % 4<3
   ·by_cases ύ:0<A
    ·by_cases P:m.ts.length<6
     ·have l:((m.ts.length:Int)<6):=by omega
      by_cases V:w∈T<;>simp[G,ύ,P,l,V,X,L,H,-lr]
     ·have l:¬ ((m.ts.length:Int)<6):=by omega
      simp[G,ύ,P,l,H]
    ·simp[G,ύ]
   ·simp[G]
  have F:∀ (A w y:Int) σ,lh (Ϗ$ m.ts.map Ti.D) (Ϗ [Ϗ [Z$ 1 - q,Z A,Z w,Z y]]) σ=Y (Ϗ$ (m.ts++[(⟨1 - q,A,w,y⟩:Ti)]).map Ti.D) σ:=λA w y σ=>by
   rw[RK (by unfold Yf;simp;omega),vc];rfl
  by_cases u:c % 4<3/\0<Tf 120 (ow (1 - q) m) c/\m.ts.length<6/\c / 4 % 30 ∉ m.ts.map Ti.w
  ·have E:nw q m c=nB q (Tf 120 (ow (1 - q) m) c) (c / 4 % 30) (c / 7 % 200) m:=by unfold nw;rw[qa h,ia u]
   rw[Ib u]at v;rw[E]at fz ⊢;have F:=F (Tf 120 (ow (1 - q) m) c) (c / 4 % 30)$ c / 7 % 200;unfold Bg FH IH PH DI iI pJ nJ WI Fc;rcases hq with rfl|rfl
   ·have d:Ϗ [Z$ m.n+1,Ϗ [Z m.a,Z$ m.b - Tf 120 (ow (1 - 0) m) c],Ϗ$ (m.ts++[(⟨1 - 0,Tf 120 (ow (1 - 0) m) c,c / 4 % 30,c / 7 % 200⟩:Ti)]).map Ti.D]=(nB 0 (Tf 120 (ow (1 - 0) m) c) (c / 4 % 30) (c / 7 % 200) m).D:=rfl;rw[show (1 - 0:Int)=1 from rfl,show ow 1 m=m.b from rfl]at *;generalize (nB 0 (Tf 120 m.b c) (c / 4 % 30) (c / 7 % 200) m).D=C,(m.ts++[(⟨1,Tf 120 m.b c,c / 4 % 30,c / 7 % 200⟩:Ti)]).map Ti.D=S at *;generalize m.ts.map Ti.D=k,m.D=r at *;simp[B,ld,s,g,I,p,v,F,x,d,fz,-Yw,-yJ]
   ·have d:Ϗ [Z$ m.n+1,Ϗ [Z$ m.a - Tf 120 (ow (1 - 1) m) c,Z m.b],Ϗ$ (m.ts++[(⟨1 - 1,Tf 120 (ow (1 - 1) m) c,c / 4 % 30,c / 7 % 200⟩:Ti)]).map Ti.D]=(nB 1 (Tf 120 (ow (1 - 1) m) c) (c / 4 % 30) (c / 7 % 200) m).D:=rfl;rw[show (1 - 1:Int)=0 from rfl,show ow 0 m=m.a from rfl]at *;generalize (nB 1 (Tf 120 m.a c) (c / 4 % 30) (c / 7 % 200) m).D=C,(m.ts++[(⟨0,Tf 120 m.a c,c / 4 % 30,c / 7 % 200⟩:Ti)]).map Ti.D=S at *;generalize m.ts.map Ti.D=k,m.D=r at *;simp[B,ld,s,g,I,p,v,F,x,d,fz,-Yw,-yJ]
  ·have E:nw q m c=nC q (Tf 120 (ow (1 - q) m) c) m:=by unfold nw;rw[qa h,qa u]
   rw[Vb u]at v;rw[E]at fz ⊢;unfold Bg FH IH PH DI iI pJ nJ WI Fc;rcases hq with rfl|rfl
   ·have d:Ϗ [Z$ m.n+1,Ϗ [Z$ m.a+Tf 120 (ow (1 - 0) m) c,Z$ m.b - Tf 120 (ow (1 - 0) m) c],Ϗ$ m.ts.map Ti.D]=(nC 0 (Tf 120 (ow (1 - 0) m) c) m).D:=rfl;rw[show (1 - 0:Int)=1 from rfl,show ow 1 m=m.b from rfl]at *;generalize (nC 0 (Tf 120 m.b c) m).D=C,m.ts.map Ti.D=k,m.D=r at *;simp[B,ld,s,g,I,p,v,x,d,fz,-Yw,-yJ]
   ·have d:Ϗ [Z$ m.n+1,Ϗ [Z$ m.a - Tf 120 (ow (1 - 1) m) c,Z$ m.b+Tf 120 (ow (1 - 1) m) c],Ϗ$ m.ts.map Ti.D]=(nC 1 (Tf 120 (ow (1 - 1) m) c) m).D:=rfl;rw[show (1 - 1:Int)=0 from rfl,show ow 0 m=m.a from rfl]at *;generalize (nC 1 (Tf 120 m.a c) m).D=C,m.ts.map Ti.D=k,m.D=r at *;simp[B,ld,s,g,I,p,v,x,d,fz,-Yw,-yJ]
end
theorem pQ:∀ {ts:List Ti},(∀ t∈ts,t.Ok)->0<=xr ts
 |[],_=>by simp[xr]
 |t::ts,h=>by
  have:=pQ (ts:=ts) λu b=>h u$ ra _ b;have:=(h t ya).a;unfold xr at *;simp;lia
def qX b t:xr (b++[t])=xr b+t.a:=by unfold xr;simp
def vZ v S a t:Hs v S (a++[t])=Hs v S a+fa v S t:=by unfold Hs;simp
def tZ v S{t}(h:1<=t.a):0<=fa v S t/\fa v S t<=t.a:=by unfold fa;split<;>omega
structure yQ(Wh q:Int)(m:Sn):Prop where
 o:m.Ok Wh
 s:Hn q m
 n:m.n<=30
section
variable{Wh q:Int}(hW:Wh<=2000000000000)(hq:q=0\/q=1){m:Sn}(h:yQ Wh q m)
include hq
theorem lI(h:m.Ok Wh):0<=ow (1 - q) m/\0<=ow q m:=by
 have:=h.st.a;have:=h.st.b;unfold ow;rcases hq with rfl|rfl<;>simp<;>lia
include hW h
theorem C7{t}{c}(e:m.ts=c++[t]):xq Wh q m (nA q m t c)/\∀ v S,wS v S q (nA q m t c) ≥ wS v S q m:=by
 have o:=h.o;have w:=o.w;have st:=o.st;rw[e,qX]at w;have ok:∀ u∈c,u.Ok:=λu g=>st.t u (by rw[e];simp[g]);have x:=pQ ok;have k:=(st.t t$ by rw[e];simp).a;have hd:=st.d;rw[e,vc,Uc]at hd;have j:=st.l;rw[e]at j;simp at j;have a:=st.a;have b:=st.b;have n:=st.n;have r:=h.n;have i:Hn q$ nA q m t c:=⟨λu g=>h.s.p u (by rw[e];exact Pa _ g),hd.1,by show c.length<=6;lia⟩
 refine⟨⟨o,?_,rfl,h.s,i⟩,λv S=>?_⟩
 ·rcases hq with rfl|rfl
  ·exact⟨⟨by show 0<=m.n+1/\m.n+1<=1000000;omega,by show 0<=m.a+t.a/\m.a+t.a<=2000000000000;omega,b,ok,i.l,hd.1⟩,by show m.a+t.a+m.b+xr c=Wh;omega⟩
  ·exact⟨⟨by show 0<=m.n+1/\m.n+1<=1000000;lia,a,by show 0<=m.b+t.a/\m.b+t.a<=2000000000000;omega,ok,i.l,hd.1⟩,by show m.a+(m.b+t.a)+xr c=Wh;omega⟩
 ·have f:=tZ v S k.1;unfold wS;rw[e,vZ];show ow q (nA q m t c)+Hs v S c ≥ _;rcases hq with rfl|rfl<;>simp[ow,nA]<;>omega
theorem P1{A w y}(g:0<A/\A<=ow (1 - q) m/\A<=1000000000000)(G:m.ts.length<6)(r:w ∉ m.ts.map Ti.w)(i:0<=w/\w<=59)(C:0<=y/\y<=1000000):xq Wh q m (nB q A w y m)/\∀ v S,wS v S q (nB q A w y m) ≥ wS v S q m:=by
 have o:=h.o;have I:=o.w;have st:=o.st;have a:=st.a;have b:=st.b;have n:=st.n;have H:=h.n;have ok:∀ u∈m.ts++[(⟨1 - q,A,w,y⟩:Ti)],u.Ok:=λu c=>by
  rcases Yd.mp c with c|c
  ·exact st.t u c
  ·rw[Oa.mp c];exact⟨by show 1 - q=0\/1 - q=1;lia,by show 1<=A/\A<=1000000000000;lia,i,C⟩
 have j:((m.ts++[(⟨1 - q,A,w,y⟩:Ti)]).map Ti.w).Nodup:=by
  rw[vc,Uc];exact⟨st.d,by simp,λx B z D e=>by
   have:z=w:=by simpa using D
   exact r (by rw[<-this,<-e];exact B)⟩
 have k:Hn q$ nB q A w y m:=⟨λu c=>by
  rcases Yd.mp c with c|c
  ·exact h.s.p u c
  ·rw[Oa.mp c];show 1 - q≠q;lia,j,by show (m.ts++_).length<=6;simp;lia⟩
 have E:=qX m.ts ⟨1 - q,A,w,y⟩;dsimp only at E;refine⟨⟨o,?_,rfl,h.s,k⟩,λv S=>?_⟩
 ·unfold ow at g;rcases hq with rfl|rfl
  ·simp at g;exact⟨⟨by show 0<=m.n+1/\m.n+1<=1000000;lia,a,by show 0<=m.b - A/\m.b - A<=2000000000000;lia,ok,k.l,j⟩,by show m.a+(m.b - A)+xr (m.ts++[⟨1 - 0,A,w,y⟩])=Wh;lia⟩
  ·simp at g;exact⟨⟨by show 0<=m.n+1/\m.n+1<=1000000;lia,by show 0<=m.a - A/\m.a - A<=2000000000000;lia,b,ok,k.l,j⟩,by show m.a - A+m.b+xr (m.ts++[⟨1 - 1,A,w,y⟩])=Wh;lia⟩
 ·have f:=tZ v S (t:=⟨1 - q,A,w,y⟩) (by show 1<=A;lia);unfold wS;show ow q (nB q A w y m)+Hs v S (m.ts++[⟨1 - q,A,w,y⟩]) ≥ _;rw[vZ];generalize fa v S ⟨1 - q,A,w,y⟩=F at *;rcases hq with rfl|rfl<;>simp[ow,nB]<;>lia
theorem fZ{s}{d}(e:s.n=m.n+1)(c:s.ts=m.ts)(hd:ow q s=ow q m+d/\ow (1 - q) s=ow (1 - q) m - d)(i:0<=ow q m+d)(j:0<=ow (1 - q) m - d):xq Wh q m s/\∀ v S,wS v S q s=wS v S q m+d:=by
 have o:=h.o;have w:=o.w;have st:=o.st;have a:=st.a;have b:=st.b;have n:=st.n;have k:=h.n;have r:=pQ st.t;have f:Hn q s:=⟨by rw[c];exact h.s.p,by rw[c];exact h.s.d,by rw[c];exact h.s.l⟩
 have g:s.a+s.b=m.a+m.b/\0<=s.a/\0<=s.b:=by
  unfold ow at *;rcases hq with rfl|rfl<;>simp at *<;>lia
 refine⟨⟨o,⟨⟨by lia,by lia,by omega,by rw[c];exact st.t,by rw[c];exact st.l,by rw[c];exact st.d⟩,by rw[c];omega⟩,e,h.s,f⟩,λv S=>?_⟩;unfold wS;rw[c];omega
theorem HZ c:xq Wh q m (nw q m c)/\∀ v S,wS v S q (nw q m c) ≥ wS v S q m:=by
 have l:=lI hq h.o;have b:=zQ (k:=120) c l.1;rcases Z6 q m c with⟨t,n,e,a⟩|⟨f,i,j,a⟩|a<;>rw[a]
 ·exact C7 hW hq h e
 ·exact P1 hW hq h ⟨f,b.2.1,b.2.2⟩ i j ⋯ ⋯
 ·apply b_;intro z_;obtain⟨z,g⟩:=fZ hW hq h (s:=nC q (Tf 120 (ow (1 - q) m) c) m) (d:=Tf 120 (ow (1 - q) m) c) rfl rfl (by unfold ow nC;rcases hq with rfl|rfl<;>simp<;>lia) ⋯ ⋯;apply z_;exact⟨z,λv S=>by rw[g];lia⟩
theorem ZS{A}(a:1<=A/\A<=ow q m):xq Wh q m (gv q A m)/\∀ v S,wS v S q (gv q A m)=wS v S q m - A:=by
 have b:=lI hq h.o;obtain⟨z,g⟩:=fZ hW hq h (s:=gv q A m) (d:=-A) rfl rfl (by unfold ow gv;rcases hq with rfl|rfl<;>simp<;>lia) ⋯ ⋯;exact⟨z,λv S=>by rw[g];lia⟩
end
theorem MI{f g:D->D->Option Bool}:∀ {xs ys:g'},(∀ x∈xs,∀ y∈ys,∃ b,f x y=BD b/\g x y=BD b)->∃ b,um f xs ys=BD b/\um g xs ys=BD b
 |[],[],_=>⟨_,rfl,rfl⟩
 |[],_::_,_=>⟨_,rfl,rfl⟩
 |_::_,[],_=>⟨_,rfl,rfl⟩
 |x::xs,y::ys,h=>by
  obtain⟨b,i,j⟩:=h x ya y ya;obtain⟨c,k,l⟩:=MI (f:=f) (g:=g) (xs:=xs) (ys:=ys) λa d b e=>h a (ra _ d) b$ ra _ e;unfold um
  simp_all
def RW i:∀ n x y,pl n x=A3->pl n y=A3->∃ b,Uj i n x y=BD b/\Uj [] n x y=BD b:=by
 intro n;induction n with
 |zero=>intro x y d c;cases x<;>first|(simp[pl]at d;done)|(cases y<;>first|exact⟨_,rfl,rfl⟩|(simp[pl]at c;done))
 |succ n g=>
  intro x y d c;cases x with
  |Ha xs=>
   cases y with
   |Ha h=>
    simp[pl,qb]at d c;exact MI λa e b f=>g a b (d a e)$ c b f
   |_=>first|exact⟨_,rfl,rfl⟩|(simp[pl]at c;done)
  |na xs=>
   cases y with
   |na h=>
    simp[pl,qb]at d c;exact MI λa e b f=>g a b (d a e)$ c b f
   |_=>first|exact⟨_,rfl,rfl⟩|(simp[pl]at c;done)
  |_=>first|(simp[pl]at d;done)|(cases y<;>first|exact⟨_,rfl,rfl⟩|(simp[pl]at c;done))
def S4{s m:Sn}(h:s.n≠m.n) c:rh s.D m.D c=Y (ϒ A3) c:=by
 obtain⟨b,e,_⟩:=MI (f:=Uj c 7) (g:=Uj c 7) λx d y j=>by
  have i:∀ (s:Sn) (x:D),x∈[Ϗ [Z s.a,Z s.b],Ϗ _]->pl 7 x=A3:=λs x d=>by
   have d:x=Ϗ [Z s.a,Z s.b]\/x=Ϗ (s.ts.map Ti.D):=by simpa using d
   rcases d with rfl|rfl
   ·simp[pl]
   ·exact nM 5 s.ts
  obtain⟨b,e,_⟩:=RW c 7 x y (i s x d) (i m y j)
  simp_all
 refine qG (b:=Ŷ) ?_;show um _ [Z s.n,Ϗ [Z s.a,Z s.b],Ϗ _] [Z m.n,Ϗ [Z m.a,Z m.b],Ϗ _]=_;unfold um;have:Uj c 7 (Z s.n) (Z m.n)=BD Ŷ:=by simp[Uj,kd,wt,Il,h]
 simp_all
def HI(s:Sn):pl 8 s.D=A3:=MO 5 s
section
variable{P:Pm}{x:Xk}{a:Ac}{σ:Ca}(S:St P x a σ)
include S
theorem St.app j:St P x a$ σ++j:=⟨S.H.app j,S.k.app j⟩
theorem vV:jt [U 9,Z 0] σ=Y (U x.r) σ:=by
 have i:Vo (Z 0) (U 11) σ=Y (ϒ Ŷ) σ:=by
  unfold Vo;simp only[Vi,Vt S.k.h2];rfl
 unfold jt be;simp[(Qs S.k.v),i,(pq S.k.h2),(Lf S.k.i)]
theorem wH{ρ}{i}(h:ja i ρ σ=Y (U 1) σ):Vc (Mb [10,11,12,13] "mine") (Qd [(15,jt)] 2 "account" (Qd [(16,Gq)] 2 "keeper" (ja i)$ Ba (eC$ Z 1) Ua)$ Ba (eC$ Z 0) Ua) ρ σ=Y a.m.D σ:=by
 simp[h,(λb=>sj S.H (x:="keeper") 2 Gq b rfl),(II S.H S.k.v.h0),(λb=>qk S.k.v (m:="account") 2 jt b rfl),(vV S),(Px S.k.i S.k.o.o)]
end
section
variable{P:Pm}(o:P.Ok){x:Xk}{σ:Ca}(hc:x.kc=Zm\/x.kc=Mq)(hT:x.T.length<=590){m:Sn}{G:D}(hg:cl G=A3){n:Nat}(hn:n<=30)(hm:m.n=n)(hQ:x.Q=[])(M:yQ (P.u+P.v) P.s m)(S:St P x (gc 0 P.s m G$ Ii n) σ)
include o hc hT hg hn hm hQ M S
theorem Β c:∃ r h b f a,Rc [U 1,Z P.s,(nw P.s m c).D,Z m.n] σ=Y Ϛ a/\Nx P x (nw P.s m c) (n+1) 4 σ a r h b f:=by
 have i:P.u+P.v<=2000000000000:=by have:=o.u;have:=o.v;lia
 obtain⟨z,g⟩:=HZ i o.s M c;rcases o.s with e|e
 ·rw[e]at z g S ⊢;exact XV o hc ⋯ hg hn hm ⋯ e z hQ$ ϖ ⟨S,g _ _⟩
 ·rw[e]at z g S ⊢;exact EW o hc ⋯ hg hn hm e z S (d:=L6) hQ ⋯ (by have:=g (vw P x) x.V;show wS _ _ _ _ ≥ wS _ _ _ _ - 0;lia)
theorem n4 c:(Tf 4 (ow P.s m) c<=0/\Wd [U 1,Z P.s,m.D,Z c] σ=Y Ϛ σ)\/0<Tf 4 (ow P.s m) c/\∃ r E B C l,Wd [U 1,Z P.s,m.D,Z c] σ=Y Ϛ l/\Nx P x (gv P.s (Tf 4 (ow P.s m) c) m) (n+1) 8 σ l r E B C:=by
 have hW:P.u+P.v<=2000000000000:=by have:=o.u;have:=o.v;omega
 have ol:=lI o.s M.o;have al:=zQ (k:=4) c ol.2;have ϊ:=λi j h h2 σ=>oW (σ:=σ) i j h h2;have W:=λi σ=>FQ (σ:=σ) i (max 1$ ow P.s m)$ HW _;have ϋ:∀ σ,eB [Z$ 1+c / 4 % max 1 (ow P.s m),Z$ ow P.s m,Z 1000000000000] σ=Y (Z$ Tf 4 (ow P.s m) c) σ:=λσ=>Yw ..;have R:∀ σ,ib (Ϗ [Z m.a,Z m.b]) (Z P.s) σ=Y (Z$ ow P.s m) σ:=λσ=>pN o.s m σ;have e0:=s0 m;have I:=s1 m;have e2:=s2 m;by_cases h0:Tf 4 (ow P.s m) c<=0
 ·left;refine⟨h0,?_⟩;have b:decide (Tf 4 (ow P.s m) c > 0)=Ŷ:=Vb ⋯;unfold Wd kI;generalize m.D=MD,Tf 4 (ow P.s m) c=A,P.s=s at *;simp[I,R,ϊ,W,ϋ,b,-Yw]
 ·right;refine⟨by omega,?_⟩;obtain⟨z,g⟩:=ZS hW o.s M (A:=Tf 4 (ow P.s m) c) ⋯;have b:decide (Tf 4 (ow P.s m) c > 0)=A3:=Ib ⋯;generalize hA:Tf 4 (ow P.s m) c=A at *;obtain⟨K,w,X,k1,f⟩:=ţ hc hg (fC n) o.s (A:=A) ⋯ z S.k hQ (by have:=g (vw P x) x.V;show wS _ _ _ _ ≥ wS _ _ _ _ - A;omega);have y:∃ q p,Vz [U 1,Z 1,To A] σ=Y (ϒ A3) p/\Sub x.T q 2/\LK σ p/\∀ j,∃ r E B C l,Rc [U 1,Z P.s,(gv P.s A m).D,Z m.n] (p++j)=Y Ϛ l/\Nx P { x with T:=q } (gv P.s A m) (n+1) 4 (p++j) l r E B C:=by
   have mS:∀ {x:Xk} {a:Ac} {K:Ca},St P x a K->∀ ύ,oj [(16,Qp)] 3 "send" ύ (U 1) K=(ύ K).bind (Ai 3 Qp$ U 1):=λS ύ=>sj S.H (x:="send") 3 Qp ύ rfl;rcases o.s with e|e
   ·have X:=X e;rw[e]at z g w X ⊢;have L:St P { x with r:=σ.length,g:=x.g+A } (Ul 0 0 m (gv 0 A m) G$ Ii n) K:=⟨S.H.fr f,X⟩
    obtain⟨q,p,s1,ό,lk,F,hi⟩:=dL o L (by show x.T.length<=700;omega) (ϙ ⟨_,_,rfl,tE$ gv 0 A m⟩);refine⟨q,p,wV o S.H S.k.v w (mS L) s1,F,f.lk.trans lk,λj=>?_⟩;have:=F.2;obtain⟨r,E,B,C,l,I,N⟩:=XV o (x:={ x with r:=σ.length,g:=x.g+A,T:=q }) hc (by show q.length<=650;have:q.length<=x.T.length+2:=this;omega) hg hn hm (by show q.length<=600;have:q.length<=x.T.length+2:=this;omega) e z hQ (ϙ ⟨ό.app j,hi _ _ rfl (tE _) _ ⋯⟩);exact⟨r,E,B,C,l,I,N.S,N.c,N.t,N.i,N.f⟩
   ·have k1:=k1 e;rw[e]at z g w k1 ⊢;have L:St P { x with Q:=one (jr A$ gv 1 A m) } (gc 0 1 m G$ Ii n) K:=⟨S.H.fr f,k1⟩
    obtain⟨q,p,s1,ό,lk,F,hi⟩:=dL o L (by show x.T.length<=700;omega) (ϙ ⟨_,_,rfl,qO$ gv 1 A m⟩);refine⟨q,p,wV o S.H S.k.v w (mS L) s1,F,f.lk.trans lk,λj=>?_⟩;have:=F.2;obtain⟨r,E,B,C,l,I,N⟩:=EW o (x:={ x with Q:=one (jr A$ gv 1 A m),T:=q }) hc (by show q.length<=650;have:q.length<=x.T.length+2:=this;omega) hg hn hm e z (ό.app j) (d:=BD A) rfl (by simp;omega) (by have:=g (vw P x) x.V;show wS (vw P x) x.V 1 (gv 1 A m) ≥ wS (vw P x) x.V 1 m - A;omega);exact⟨r,E,B,C,l,I,N.S,N.c,N.t,N.i,N.f⟩
  obtain⟨q,p,hw,F,lk,y⟩:=y;have mw:=λύ=>sj S.H (x:="wish") 3 Vz ύ rfl;have wd:Ϗ [ϐ "give",Z 0,Z A]=To A:=rfl;have tu:∀ (a b:Int),oA [U p.length] (p++[ϑ [Z a,Z b]])=Y (Ϗ [Z a,Z b]) (p++[ϑ [Z a,Z b]]):=λa b=>by
   unfold oA;simp;rfl
  rcases o.s with e|e
  ·rw[e]at y R ⊢;obtain⟨r,E,B,C,l,e3,N⟩:=y [ϑ [Z$ m.a - A,Z$ m.b+A]];refine⟨r,E,B,C,l,?_,N.S,N.c,by have:=F.trans N.t;exact⟨this.1,by have:=this.2;omega⟩,N.i,(lk.trans$ LK.app _ _).trans N.f⟩;have ed:Ϗ [Z$ m.n+1,Ϗ [Z$ m.a - A,Z$ m.b+A],Ϗ$ m.ts.map Ti.D]=(gv 0 A m).D:=rfl;have i0:∀ σ,ib (Ϗ [Z m.a,Z m.b]) (Z 0) σ=Y (Z m.a) σ:=λσ=>by simp
   have i1:∀ σ,ib (Ϗ [Z m.a,Z m.b]) (Z 1) σ=Y (Z m.b) σ:=λσ=>by simp
   have O:ow 0 m=m.a:=rfl;rw[e,O]at W ϋ;rw[O]at R;unfold Wd kI LN GK bQ VO gP;generalize (gv 0 A m).D=SD,m.ts.map Ti.D=TD,m.D=MD,To A=GI at *;simp[e0,I,e2,ϊ,W,ϋ,b,mw,wd,hw,tu,ed,e3,-Yw]
  ·rw[e]at y R ⊢;apply b_;intro z_;obtain⟨r,E,B,C,l,e3,N⟩:=y [ϑ [Z$ m.a+A,Z$ m.b - A]];apply z_;refine⟨r,E,B,C,l,?_,N.S,N.c,by have:=F.trans N.t;exact⟨this.1,by have:=this.2;omega⟩,N.i,(lk.trans$ LK.app _ _).trans N.f⟩;have ed:Ϗ [Z$ m.n+1,Ϗ [Z$ m.a+A,Z$ m.b - A],Ϗ$ m.ts.map Ti.D]=(gv 1 A m).D:=rfl;have O:ow 1 m=m.b:=rfl;rw[e,O]at W ϋ;rw[O]at R;unfold Wd kI LN GK bQ VO gP;generalize (gv 1 A m).D=SD,m.ts.map Ti.D=TD,m.D=MD,To A=GI at *;simp[e0,I,e2,ϊ,W,ϋ,b,mw,wd,hw,tu,ed,e3,-Yw]
end
theorem î{b}{a}{n k i}{ρ ρ1}{c}{xs}{d}(h:af c n=BD xs)(e:xs[i]?=BD d)(f:b d ρ=BD ρ1):Dr b a n (k+1) i ρ c=(a ρ1 c).bind (Kt$ Dr b a n k$ i+1):=by
 rw[Dr];simp only[h,e,f];rfl
def K3{e}{a}{n k i}{c}{b}{xs}(h:af b n=BD xs)(d:xs[i]?=L6):Dr e a n (k+1) i c b=Y (Ϙ c) b:=by
 rw[Dr];simp[h,d]
def rZ b a:mi (b++[J a]) (U b.length)=BD a:=by unfold mi;simp
def J8{σ}{kvs b}{j}(d:σ[j]?=BD (J b))(g:kvs.length+b.length<=1000):Yz (U σ.length) [U j] (σ++[J kvs])=Y Ϛ (σ++[J$ ez kvs b]):=by
 have c:=(ba.mp d).1;have e:(σ++[J kvs])[σ.length]?=BD (J kvs):=by simp
 have f:mi (σ++[J kvs]) (U j)=BD b:=by unfold mi;dsimp only;rw[Xa c,d]
 unfold Yz;simp only[e,f];have a:(apart σ.length (U j) && decide (kvs.length+b.length<=Yf))=A3:=by
  unfold apart;simp only[Da,Jc];exact⟨by simp;lia,g⟩
 rw[ia a,bD]
def G1{σ}{x}{a}{b}(d:Bf σ x=L6)(hd:mi σ x=BD a)(c:Tu a=BD b)(e:b.length<64):lg σ (Ux [x] σ)=Y (ώ$ (oq b).map Z) σ:=by
 have o:Ux [x] σ=Y (U σ.length) (σ++[ϑ$ (oq b).map Z]):=by
  unfold Ux;simp[d];unfold AE;simp[hd,c];rw[ia e];rfl
 rw[o];exact gx ⋯
theorem DU:∀ {A B:Sm},((A++B).map (·.1)).Nodup->ez (sK A) (sK B)=sK (A++B)
 |A,[],_=>by simp[ez,sK]
 |A,z::B,h=>by
  have a:((A++[z]++B).map (·.1)).Nodup:=by simpa using h
  have:Dm (sK A) (.inl z.1) (Z z.2)=sK (A++[z]):=by
   rw[aA _ λp b e=>by
    obtain⟨y,c,rfl⟩:=La.mp b;have e:=Ki e;rw[vc,Uc]at h;exact h.2.2 y.1 (ge c) z.1 ⋯ e]
   simp[sK]
  show ez (Dm _ _ _) (sK B)=_;rw[this,(DU a),Vv];rfl
theorem LZ:∀ S:Sm,Tu (sK S)=BD (S.map (·.1))
 |[]=>rfl
 |z::S=>by
  have a:=LZ S;unfold sK at a ⊢;unfold Tu;simp[a]
def Xt(S:Sm):dl:=oq (S.map (·.1))
noncomputable def HL(P:Pm):D:=Ϲ 6 ["whole"] [Z$ P.u+P.v]
def LA(P:Pm)(s:Sn)(d:Int):D:=Ϲ 7 ["whole","side","stand","day","wait"] [Z$ P.u+P.v,Z$ 1 - P.s,s.D,Z d,Z P.w]
noncomputable def TN(P:Pm):D:=Ϲ 8 ["whole","side"] [Z$ P.u+P.v,Z P.s]
def Kn(P:Pm)(s:Sn)(d:Int):D:=Ϗ [ϐ "laid",Z$ 1 - P.s,s.D,Z d]
noncomputable def Ek(P:Pm):D:=Ϗ [ϐ "taken",Z P.s]
section
variable{P:Pm}{N:Int}{bc:D}{S:Sm}{T:List TK}{fz:Bool}{σ:Ca}(H:HA P N bc S T fz σ)
include H
theorem UF:Mb [9,14,16] "pots" (U 2) σ=Y (PL P) σ:=Ih (Sk H.h2) rfl rfl
theorem RF:Mb [7,9] "day" (U 2) σ=Y (Z N) σ:=Ih (Sk H.h2) rfl rfl
theorem CH:Mb [9,15] "claims" (U 2) σ=Y (U 3) σ:=Ih (Sk H.h2) rfl rfl
theorem RH:Mb [9] "shown" (U 2) σ=Y (U 4) σ:=Ih (Sk H.h2) rfl rfl
theorem eI:ib (U 3) (Z 0) σ=Y bc σ:=OL H.h3 rfl
theorem UK:ib (U 4) (Z 0) σ=Y (U 5) σ:=OL H.h4 rfl
theorem zT:Iy [U 2] σ=Y (Z N) σ:=by
 unfold Iy be;simp[(RF H)]
theorem sC:bv [U 2,Z 0] σ=Y Ϛ σ:=by
 have d:=UF H;have a:wk [PL P] σ=Y _ σ:=WP _;unfold bv be;dsimp only;simp[d,a,(bt _ σ)]
theorem lQ{c}{a}{b}{g}{d}(e:bc=Ϲ c a b)(j:a.length=b.length)(k:ur [(6,JE),(7,oJ),(8,NI)] c=BD g)(l:(a.zip b).lookup ("told" : Str)=L6)(h:g [bc] σ=Y d σ)(i:cl d=A3):Jn [U 2,Z 0] σ=Y d σ:=by
 have m:∀ f,oj [(6,JE),_,_] 1 "told" f bc σ=(f σ).bind _:=λf=>Tn (by rw[e];exact Pn j) k l;unfold Jn be;simp[(sC H),(λa=>jn H (x:="check_pot") 2 bv a rfl),(CH H),(eI H),m,h,i]
theorem XW(e:bc=HL P):Jn [U 2,Z 0] σ=Y Mq σ:=lQ H e rfl rfl rfl (by unfold JE Mq be;simp) rfl
theorem aV{s}{d}(e:bc=LA P s d):Jn [U 2,Z 0] σ=Y (Kn P s d) σ:=lQ H e rfl rfl rfl (by
 have a:Mb [7,8,10,11,12,13] "side" (LA P s d) σ=Y _ σ:=Ih (Pn rfl) rfl rfl;have b:Mb [7] "stand" (LA P s d) σ=Y s.D σ:=Ih (Pn rfl) rfl rfl;have c:Mb [7,9] "day" (LA P s d) σ=Y _ σ:=Ih (Pn rfl) rfl rfl;rw[e];unfold oJ Kn be;dsimp only;simp[a,b,c,(Jl s)]) (by unfold Kn;simp[Jl])
theorem qP(e:bc=TN P):Jn [U 2,Z 0] σ=Y (Ek P) σ:=lQ H e rfl rfl rfl (by
 have a:Mb [7,8,10,11,12,13] "side" (TN P) σ=Y _ σ:=Ih (Pn rfl) rfl rfl;rw[e];unfold NI Ek be;dsimp only;simp[a]) rfl
theorem yjv:fD [U 2,Z 0] σ=Y (U σ.length) (σ++[J$ sK S]):=by
 have a:aD [U 5] σ=Y (U σ.length) (σ++[J$ sK S]):=by
  unfold aD;simp[Vt H.h5]
 unfold fD Ee;simp[(sC H),(λb=>jn H (x:="check_pot") 2 bv b rfl),(RH H),(UK H),a]
theorem nS{w}(l:0<=w/\w<=59)(o:S.length<=100):Uy [U 2,Z 0,Z w] σ=Y Ϛ (σ.set 5 (J (sK (if w∈S.map (·.1)then S else S++[(w,N)])))):=by
 have g:=sC H;have i:=λk=>jn H (x:="check_pot") 2 bv k rfl;have j:=jX l σ;have lS:(lu S w).isSome=decide (w∈S.map (·.1)):=by
  unfold lu;rw[Xd];simp
 have d:Vo (Z w) (U 5) σ=Y (ϒ !decide (w∈S.map (·.1))) σ:=by
  unfold Vo;simp only[Vi,Vt H.h5,(WL S w),<-lS];cases lu S w<;>rfl
 have a:=RH H;have b:=UK H;by_cases c:w∈S.map (·.1)
 ·rw[ia c,Ez H.h5];rw[Ib c]at d;unfold Uy Ee;simp[g,i,a,b,j,d]
 ·rw[qa c];rw[Vb c]at d;have n:∀ f,Ln f (Z N) _ _ σ=Y (Ϙ f) (σ.set 5$ J$ sK$ S++[(w,N)]):=λf=>by
   rw[Wp H.h5 (by unfold sK;simp;lia),aA _ λp h e=>by
    unfold sK at h;obtain⟨y,m,rfl⟩:=La.mp h;have e:y.1=w:=Ki e;exact c$ e ▸ ge m]
   simp[sK]
  unfold Uy Ee;simp[g,i,a,b,(RF H),j,d,n]
theorem ycf(hd:(S.map (·.1)).Nodup)(r:S.length<=60):dA [U 2] σ=Y (ώ$ (Xt S).map Z) σ:=by
 have o:=RH$ H.app [J []];have m:∀ a b,zx Yz b (U σ.length) (σ++[J a])=(b$ σ++[J a]).bind (Yz$ U σ.length):=λa b=>by
  unfold zx;rw[rZ];rfl
 have l:ez [] (sK S)=sK S:=DU (A:=[]) (B:=S) hd;have u5:=J8 (kvs:=[]) H.h5 (by unfold sK;simp;omega);rw[l]at u5;have f:oP [BD$ U 2,BD$ U σ.length,BD$ U 5] (σ++[J []])=Y (Ϙ [BD$ U 2,BD$ U σ.length,BD$ U 5]) (σ++[J$ sK S]):=by simp[m,u5]
 have c:∀ a,af (σ++[J a]) 4=BD [U 5]:=λa=>by unfold af;rw[Di H.h4]
 have j:Dr (wc 2) oP 4 1001 0 [BD$ U 2,BD$ U σ.length,L6] (σ++[J []])=Y (Ϙ [BD$ U 2,BD$ U σ.length,BD$ U 5]) (σ++[J$ sK S]):=by
  rw[î (k:=1000) (d:=U 5) (ρ1:=[BD$ U 2,BD$ U σ.length,BD$ U 5]) (c _) rfl rfl,f,zd,Vn,K3 (k:=999) (c _) rfl]
 have p:Fw (U 4) (σ++[J []])=Y (.Fo 4) (σ++[J []]):=by unfold Fw;simp[c]
 have i:∀ (g:D->Ev->Option Ev) (body:Ev->M Fl) (h:Ev) (n:Nat),zE g body h (.Fo n)=Dr g body n 1001 0 h:=λs s s s=>rfl;have e:=G1 (σ:=σ++[J$ sK S]) (x:=U σ.length) (by unfold Bf af;simp) (rZ σ _) (LZ S) (by simp;lia);have e:lg _ _=Y (ώ$ (Xt S).map Z) _:=e;have fz:lg σ (Y (ώ$ (Xt S).map Z)$ σ++[J$ sK S])=Y (ώ$ (Xt S).map Z) σ:=cL (IF _) ⋯;unfold dA wT be;dsimp only;generalize sK S=M,(Xt S).map Z=q at *;simp[o,p,i,j,e,fz]
theorem zwi:Tt [U 2] σ=Y (PL P) σ:=by
 have d:=UF H;have a:vf [PD P]=A3:=by unfold PD Bq;split<;>simp
 have b:cl (PL P)=A3:=a;have c:lg σ (Zo [PL P] σ)=Y (PL P) σ:=WA a σ;unfold Tt be;dsimp only
 simp_all
theorem q7:vC [U 2] σ=Y Ϛ (σ.set 2$ ϓ 9$ bw P$ N+1):=by
 have b:∀ a:Ev,gA a [7,9] "day" (eC$ Z 1) _ σ=Y _ (σ.set 2$ ϓ 9$ bw P _):=λa=>by
  have lk:List.lookup ("day" : Str) (bw P N)=BD _:=rfl;unfold gA;rw[(Sk H.h2)];simp only[lk];rw[xk,VX,Ym];unfold wI;simp only[H.h2];rfl
 unfold vC Ee;simp[b]
end
theorem IN:∀ (n:Nat) (l:dl),l.Nodup->(∀ x∈l,0<=x/\x<n)->l.length<=n
 |0,l,_,h=>by
  cases l with
  |nil=>simp
  |cons x l=>have:=h x ⋯;lia
 |n+1,l,hd,h=>by
  have:=IN n _ (hd.erase _) (λx a=>by
   have:=h x$ List.mem_of_mem_erase a;have:x≠n:=λe=>hd.not_mem_erase$ e ▸ a
   lia)
  rw[List.length_erase]at this;split at this<;>lia
noncomputable def Mg(K:dl)(w:Int):dl:=if w∈K then K else K++[w]
def wW K w:Dm (Bk K) (.inl w) (ϒ A3)=Bk (Mg K w):=by
 unfold Mg;by_cases h:w∈K
 ·have a:(Bk K).any (λc=>decide$ c.1=.inl w)=A3:=Ld.mpr ⟨_,La.mpr ⟨w,h,rfl⟩,by simp⟩;unfold Dm;unfold Bk
  simp_all
 ·rw[qa h,aA _ λp b e=>by
   obtain⟨d,a,rfl⟩:=La.mp b;have e:d=w:=by simpa using e
   exact h$ e ▸ a]
  unfold Bk
  simp_all
structure eu(K:dl):Prop where
 d:K.Nodup
 b:∀ w∈K,0<=w/\w<=59
def eu.l{K}(h:eu K):K.length<=60:=IN 60 K h.d λw a=>by have:=h.b w a;lia
set_option tactic.hygienic true in
def eu.ln{K}(h:eu K){w}(j:0<=w/\w<=59):eu$ Mg K w:=by
 unfold Mg;split
 ·exact h
 ·next c=>exact⟨by rw[Uc];exact⟨h.d,by simp,λa g b i e=>c$ Oa.mp i ▸ e ▸ g⟩,λx f=>by
   rcases Yd.mp f with f|f
   ·exact h.b x f
   ·rw[Oa.mp f];exact j⟩
theorem mL:∀ {ws K:dl},eu K->(∀ w∈ws,0<=w/\w<=59)->eu (ws.foldl Mg K)
 |[],_,h,_=>h
 |w::ws,_,h,hw=>mL (ws:=ws) (h.ln$ hw w ya) λv a=>hw v$ ra _ a
def X8 K w:(Rn (Bk K)$ .inl w).isSome=decide (w∈K):=by
 induction K with
 |nil=>rfl
 |cons v K a=>
  unfold Bk Rn at a ⊢;by_cases h:v=w
  ·simp[h]
  ·have b:¬ w=v:=λz=>h z.symm
   simp_all
theorem KR(P:Pm)(x:Xk)(L:Option D):∀ (ws K:dl) (σ:Ca) (y:Option D),KV P { x with K:=K } σ->K.length+ws.length<900->∃ a,Qj (wc 2) bG (ws.map Z) [BD$ U 9,L,y] σ=Y (Ϙ [BD$ U 9,L,a]) (σ.set 10$ J$ Bk$ ws.foldl Mg K)
 |[],K,σ,y,v,_=>⟨y,by rw[Df,lw,Rz,Ez v.h1]⟩
 |w::ws,K,σ,y,v,c=>by
  have f:(Mg K w).length<=K.length+1:=by unfold Mg;split<;>simp
  have g:∀ e,Ln e _ _ _ σ=Y _ (σ.set 10$ J$ Bk$ Mg K w):=λe=>by
   rw[Wp v.h1 (by unfold Bk;simp at c ⊢;lia),wW]
  obtain⟨a,d⟩:=KR P x L ws (Mg K w) _ _ ⟨Wb ⋯ v.h0,Bm v.h1,Wb ⋯ v.h3,Wb ⋯ v.h4⟩ (by simp at c;lia);rw[Gf]at d;refine⟨a,?_⟩;rw[gb,iu];simp only[Zb,qc];have b:bG [BD$ U 9,L,BD$ Z w] σ=Y (Ϙ [BD$ U 9,L,BD$ Z w]) (σ.set 10$ J$ Bk$ Mg K w):=by simp[(VI v),g]
  rw[b,zd,Vn,d];rfl
noncomputable def mH(P:Pm)(x:Xk)(t:Ti):Bool:=decide (t.w∈x.K) && (!decide (t.w∈x.V.map (·.1)) && (decide (x.L<t.y) && decide (t.y<=x.L+P.e)))
structure SL(P:Pm)(x:Xk)(a:Ac)(o:Ob)(fz:Bool)(q:Nat)(σ:Ca):Prop where
 H:HA P x.N x.bc x.S x.T fz σ
 v:KV P x σ
 h2:σ[11]?=BD o
 h5:σ[14]?=BD (J x.Q)
 h6:σ[15]?=BD (J [])
 i:Uh σ x.r a
 r:15<x.r
 ao:Fz a
 qn:15<q
 e:x.sv=U q
 sq:σ[q]?=BD (J (sK x.V))
section
variable{P:Pm}{x:Xk}{a:Ac}{o:Ob}{fz:Bool}{q:Nat}{σ:Ca}(h:SL P x a o fz q σ)
include h
theorem SL.app j:SL P x a o fz q$ σ++j:=⟨h.H.app j,h.v.app j,Di h.h2,Di h.h5,Di h.h6,h.i.app j,h.r,h.ao,h.qn,h.e,Di h.sq⟩
theorem SL.swap b:SL P x a b fz q$ σ.set 11 b:=⟨h.H.hi ⋯ _,h.v.set (ϖ rfl) _,Bm h.h2,Wb ⋯ h.h5,Wb ⋯ h.h6,Wb (by have:=h.r;show _≠x.r;lia) h.i,h.r,h.ao,h.qn,h.e,Wb (by have:=h.qn;lia) h.sq⟩
theorem SL.na{n}{l}(b:σ[n]?=BD (ϑ l))(d:15<n) c:SL P x a o fz q$ σ.set n$ ϑ c:=⟨h.H.hi ⋯ _,h.v.set (ϙ$ by lia) _,Wb ⋯ h.h2,Wb ⋯ h.h5,Wb ⋯ h.h6,Wb (h.i.ne h.ao.o b rfl) h.i,h.r,h.ao,h.qn,h.e,Wb (λe=>by have:=h.sq;rw[<-e,b]at this;cases this) h.sq⟩
theorem SL.low{r}(d:r<9){c}{b}{S}(H:HA P x.N b S x.T fz$ σ.set r c):SL P { x with bc:=b,S:=S } a o fz q$ σ.set r c:=⟨H,⟨Wb ⋯ h.v.h0,Wb ⋯ h.v.h1,Wb ⋯ h.v.h3,Wb ⋯ h.v.h4⟩,Wb ⋯ h.h2,Wb ⋯ h.h5,Wb ⋯ h.h6,Wb (by have:=h.r;show _≠x.r;lia) h.i,h.r,h.ao,h.qn,h.e,Wb (by have:=h.qn;lia) h.sq⟩
theorem SL.JD{b}:SL P { x with bc:=b } a o fz q$ σ.set 3$ ϑ [b]:=h.low ⋯$ h.H.JD b
theorem SL.ù c:SL P { x with kc:=c } a o fz q$ σ.set 12$ J$ one c:=⟨h.H.hi ⋯ _,⟨Wb ⋯ h.v.h0,Wb ⋯ h.v.h1,Bm h.v.h3,Wb ⋯ h.v.h4⟩,Wb ⋯ h.h2,Wb ⋯ h.h5,Wb ⋯ h.h6,Wb (by have:=h.r;show _≠x.r;lia) h.i,h.r,h.ao,h.qn,h.e,Wb (by have:=h.qn;lia) h.sq⟩
theorem SL.jC ϋ:SL P { x with S:=ϋ } a o fz q$ σ.set 5$ J$ sK ϋ:=h.low ⋯$ h.H.jC ϋ
theorem SL.see ϋ:SL P { x with V:=ϋ } a o fz q$ σ.set q$ J$ sK ϋ:=by
 have b:=h.qn;exact⟨h.H.hi ⋯ _,⟨Wb ⋯ h.v.h0,Wb ⋯ h.v.h1,Wb ⋯ h.v.h3,Wb ⋯ h.v.h4⟩,Wb ⋯ h.h2,Wb ⋯ h.h5,Wb ⋯ h.h6,Wb (h.i.ne h.ao.o h.sq rfl) h.i,h.r,h.ao,h.qn,h.e,Bm h.sq⟩
theorem SL.knw ϋ:SL P { x with K:=ϋ } a o fz q$ σ.set 10$ J$ Bk ϋ:=⟨h.H.hi ⋯ _,⟨Wb ⋯ h.v.h0,Bm h.v.h1,Wb ⋯ h.v.h3,Wb ⋯ h.v.h4⟩,Wb ⋯ h.h2,Wb ⋯ h.h5,Wb ⋯ h.h6,Wb (by have:=h.r;show _≠x.r;lia) h.i,h.r,h.ao,h.qn,h.e,Wb (by have:=h.qn;lia) h.sq⟩
theorem à{ws:dl}(a:x.K.length+ws.length<900):Su [U 9,ώ$ ws.map Z] σ=Y Ϛ (σ.set 10$ J$ Bk$ ws.foldl Mg x.K):=by
 obtain⟨b,e⟩:=KR P x (BD$ ώ$ ws.map Z) ws x.K σ L6 h.v a;unfold Su vL Ee;dsimp only
 simp_all
theorem Z8 t:rC [U 9,Z 0,t.D] σ=Y (ϒ$ mH P x t) σ:=by
 have b:=VI h.v;have k:=zI h.v;have a:=pq h.v.h4;rw[h.e]at a;have d:=dD t;have l:=JH t;have c:Vo (Z t.w) (U 10) σ=Y (ϒ !decide (t.w∈x.K)) σ:=by
  unfold Vo;simp only[Vi,Vt h.v.h1];rw[X8]
 have lS:(lu x.V t.w).isSome=decide (t.w∈x.V.map (·.1)):=by
  unfold lu;rw[Xd];simp
 have j:tq (Z t.w) (U q) σ=Y (ϒ (decide (t.w∈x.V.map (·.1)))) σ:=by
  unfold tq;simp only[Vi,Vt h.sq,WL,<-lS]
  simp_all
 unfold rC mH be;dsimp only;generalize t.D=m,decide (t.w∈x.K)=f,decide (t.w∈x.V.map (·.1))=g at *;cases f
 ·simp[b,d,c]
 ·cases g
  ·cases i:decide (x.L<t.y)<;>simp[b,(iW h.v),(uF h.v),k,a,d,l,c,j,i]
  simp_all
end
noncomputable def Vs(P:Pm):Sn:=⟨0,if P.s=0 then 0+(P.u+P.v)else 0,if P.s=0 then 0 else 0+(P.u+P.v),[]⟩
def wL{P}(o:P.Ok){c}{n}{a}(h:Uh c n a)(j:a.Ok)(d:a.m.Ok$ P.u+P.v):Cc [U n,Ek P] c=Y (ώ [(Vs P).D]) c:=by
 have p:∀ c,ib (Ek P) (Z 0) c=Y (ϐ "taken") c:=λc=>by unfold Ek;simp
 have q:∀ c,ib (Ek P) (Z 1) c=Y (Z P.s) c:=λc=>by unfold Ek;simp
 have e:(("taken" : Str) == "held")=Ŷ:=by decide
 have f:(("taken" : Str) == "laid")=Ŷ:=by decide
 have g:Gj [a.m.D] c=Y (Z$ P.u+P.v) c:=by
  have:=KH a.m.n a.m.a a.m.b (by have:=d.st.l;omega) c;rw[d.w]at this;exact this
 have r:=LJ o.s c 0 0$ P.u+P.v;have i:Ϗ [Z 0,Ϗ [Z$ if P.s=0 then 0+(P.u+P.v)else 0,Z$ if P.s=0 then 0 else 0+(P.u+P.v)],Ϗ []]=(Vs P).D:=rfl;have k:=Jl$ Vs P;unfold Cc Fc;dsimp only;generalize Ek P=T,(Vs P).D=R,P.u+P.v=W,P.s=s at *;generalize (if s=0 then 0+W else 0)=A,(if s=0 then 0 else 0+W)=B at *;simp[p,q,e,f,(Px h j),g,r,i,k]
def Đ{σ}{n}{a}{c}(h:Uh σ n a)(o:a.Ok){s}(st:∀ d,Uh d n a->Cc [U n,c] d=Y (ώ [s.D]) d)(e:Hn a.q s):vk [U n,c] σ=Y (ώ$ s.ts.map Ti.D) σ:=by
 have x:=e.l;have f:cj (Tk (bp$ kh$ Sa ib (ja 3)$ eC$ Z 2) [0] (wc 0) (eT$ Sa rh (Sa ib (ja 0)$ eC$ Z 0)$ Vc (Mb [7,8,10,11,12,13] "side")$ ja 2)$ ja 0) [BD$ U n,BD c,BD$ U σ.length,BD s.D] (σ++[ϑ []])=Y (ώ$ (s.ts.filter λy=>A3).map Ti.D) (σ++[ϑ []]):=by
  refine cG (s:=.seq$ s.ts.map Ti.D) Ti.D Ti.D (λy=>A3) (by simp[(s2 s)]) (λi y=>Ab BD$ dt s.ts _ i) ⋯ (λu r j=>?_) (λu y y=>PX u);have v:=AU u;have g:=neI u.p a.q;have b:decide (u.p≠a.q)=A3:=Ib$ e.p u r;rw[b]at g;exact⟨by simp[v,(Jt (h.app$ ϑ []::j) o),g],λy=>by simp⟩
 rw[Cj.mpr λy y=>rfl]at f;have k:=bX s.ts;have ex:=AW (σ:=σ) (ys:=[]) (zs:=s.ts.map Ti.D) (by simp;lia);rw[wg]at ex;have t:∀ m,jv Gw m (U σ.length) (σ++[ϑ []])=(m$ σ++[ϑ []]).bind (Gw$ U σ.length):=λm=>hD (xs:=[]) (by unfold Bf af;simp);have fz:=gx (σ:=σ) k;unfold vk JS Fc;dsimp only;generalize s.D=w,s.ts.map Ti.D=X at *;simp[(st _$ h.app [ϑ []]),f,ex,t,fz,-lr]
structure cn(S:Sm):Prop where
 d:(S.map (·.1)).Nodup
 b:∀ z∈S,0<=z.1/\z.1<=59
def cn.l{S}(h:cn S):S.length<=60:=by
 have:=IN 60 _ h.d λw a=>by
  obtain⟨z,c,rfl⟩:=La.mp a;have:=h.b z c;lia
 simp_all
def cn.add{S}(h:cn S){w}(j:0<=w/\w<=59)(i:w ∉ S.map (·.1)) N:cn$ S++[(w,N)]:=⟨by
 rw[vc,Uc];exact⟨h.d,by simp,λa f b g e=>i$ (show b=w by simpa using g) ▸ e ▸ f⟩,λz c=>by
 rcases Yd.mp c with c|c
 ·exact h.b z c
 ·rw[Oa.mp c];exact j⟩
def eX{x}(h:x.V=x.S):({ x with S:=x.S,V:=x.S }:Xk)=x:=by
 cases x
 simp_all
def LF(k:Nat)(b a:Ca):Prop:=∀ r l,r≠k->15<r->b[r]?=BD (ϑ l)->a[r]?=BD (ϑ l)
def rM{a}{r}{xs}(c:a[r]?=BD (ϑ xs)) o b:jv o b (U r) a=(b a).bind (o$ U r):=hD (xs:=xs) (by unfold Bf af;simp[c])
def zM{σ}{n}{xs}{d}(h:σ[n]?=BD (ϑ xs))(a:xs.length<1000):lj (U n) [d] σ=Y Ϛ (σ.set n$ ϑ$ xs++[d]):=by
 unfold lj af;simp only[h];rw[ia (show _<Yf from a)]
section
variable{P:Pm}{x:Xk}{a:Ac}{o:Ob}{fz:Bool}{q:Nat}{σ:Ca}(h:SL P x a o fz q σ)
include h
theorem Ì(f:x.V=x.S)(X:x.L=x.N)(w:cn x.S){t:Ti}(G:t.Ok){n}{l}(E:σ[n]?=BD (ϑ l))(g:15<n)(hl:l.length<=90):∃ ϋ I c,QJ [BD$ U 9,BD$ U 2,BD$ U n,BD$ Z 0,BD$ U x.r,BD t.D] σ=Y (Ϙ [BD$ U 9,BD$ U 2,BD$ U n,BD$ Z 0,BD$ U x.r,BD t.D]) c/\SL P { x with S:=ϋ,V:=ϋ } a o fz q c/\cn ϋ/\c[n]?=BD (ϑ I)/\I.length<=l.length+1/\LF n σ c:=by
 have u:=Z8 h t;have ύ:=λk=>qk h.v (m:="is_to_show") 3 rC k rfl;have t2:=dD t;cases i:mH P x t with
 |false=>
  rw[i]at u;refine⟨x.S,l,σ,?_,(eX f).symm ▸ h,w,E,by lia,λr l p p e=>e⟩;generalize t.D=O at *;simp[u,ύ]
 |true=>
  rw[i]at u;have nw:t.w ∉ x.S.map (·.1):=by
   unfold mH at i;rw[f]at i;simp only[Da,Bool.not_eq_true',decide_eq_false_iff_not]at i;exact i.2.1
  have M:=nS h.H G.w (by have:=w.l;omega);rw[qa nw]at M;have ms:=λk=>jn h.H (x:="show") 3 Uy k rfl;have k1:=h.jC$ x.S++[(t.w,x.N)];have K:(σ.set 5$ J$ sK$ x.S++[(t.w,x.N)])[n]?=BD (ϑ l):=Wb ⋯ E;have T:LF n σ$ σ.set 5$ J$ sK$ x.S++[(t.w,x.N)]:=λr l p g e=>Wb ⋯ e;generalize σ.set 5 (J$ sK$ x.S++[(t.w,x.N)])=b at *;have la:=uF k1.v;have se:=zI k1.v;have C:=pq k1.v.h4;rw[k1.e]at C;have j:=k1.sq;have j:b[q]?=BD (J$ sK x.S):=f ▸ j;have st:∀ A,Ln A (Z x.L) (U q) (Z t.w) b=Y (Ϙ A) (b.set q$ J$ sK$ x.S++[(t.w,x.N)]):=λA=>by
   rw[Wp j (by have:=w.l;unfold sK;simp;omega),aA _ λp F e=>by
    unfold sK at F;obtain⟨y,ό,rfl⟩:=La.mp F;have e:y.1=t.w:=Ki e;exact nw$ e ▸ ge ό,X]
   simp[sK]
  have ϊ:=k1.see$ x.S++[(t.w,x.N)];have qn:q≠n:=λe=>by rw[e,K]at j;cases j
  have s:(b.set q$ J$ sK$ x.S++[(t.w,x.N)])[n]?=BD (ϑ l):=Wb qn K;have W:LF n b$ b.set q$ J$ sK$ x.S++[(t.w,x.N)]:=λr l p g e=>Wb (λR=>by rw[<-R,j]at e;cases e) e;generalize b.set q (J$ sK$ x.S++[(t.w,x.N)])=B at *;have Q:=zM (d:=Ϗ [ϐ "show",Z 0,Z t.w]) s ⋯;have ma:=λk=>rM s lj k;refine⟨x.S++[(t.w,x.N)],l++[Ϗ [ϐ "show",Z 0,Z t.w]],B.set n$ ϑ$ l++[Ϗ [ϐ "show",Z 0,Z t.w]],?_,ϊ.na s g _,w.add G.w nw _,Bm s,by simp,λr l z g e=>Wb (λe=>z e.symm)$ W r l z g$ T r l z g e⟩;generalize t.D=O at *;simp[u,ύ,ms,M,la,se,C,st,ma,Q,t2]
end
section
variable{P:Pm}{x:Xk}{a:Ac}{fz:Bool}{q:Nat}{σ:Ca}(h:SL P x a (J$ one$ U x.r) fz q σ)
include h
theorem gO{r}:Vc (Mb [15] "accounts") (ja 0) (BD (U 9)::r) σ=Y (U 11) σ:=by
 have:=Qs h.v
 simp_all
theorem zv3:HD [U 9,U 2] σ=Y (U σ.length) (σ++[ϑ []]):=by
 have a:=h.app [ϑ []];have c:=a.swap$ Ϡ$ one$ U x.r;have b:XT [BD$ U 9,BD$ U 2,BD$ U σ.length,BD$ Z 0,BD$ U x.r] ((σ++[ϑ []]).set 11$ Ϡ$ one$ U x.r)=Y (Ϙ [BD$ U 9,BD$ U 2,BD$ U σ.length,BD$ Z 0,BD$ U x.r]) ((σ++[ϑ []]).set 11$ Ϡ$ one$ U x.r):=by
  have d:tq (Z 0) (U 15) ((σ++[ϑ []]).set 11$ Ϡ$ one$ U x.r)=Y (ϒ Ŷ) ((σ++[ϑ []]).set 11$ Ϡ$ one$ U x.r):=by
   unfold tq;simp only[Vi,Vt c.h6];rfl
  generalize (σ++[ϑ []]).set 11 (Ϡ$ one$ U x.r)=f at *;simp[(yge c.v),d]
 have e:=ZJ (tg:=Hi 2$ Oe (wc 3)$ Oe (wc 4) Qi) (gO a (r:=[BD$ U 2,BD$ U σ.length,L6,L6])) a.h2 rfl b c.h2;rw[Gf,Ez a.h2]at e;unfold HD BX Ee;simp[e,-rs]
theorem R4(z:x.V=x.S)(T:x.L=x.N)(w:cn x.S){s}(ύ:Hn a.q s)(ό:∀ t∈s.ts,t.Ok)(st:∀ g,Uh g x.r a->Cc [U x.r,x.kc] g=Y (ώ [s.D]) g)(hM:15<σ.length):∃ ϋ l c,mD [U 9,U 2] σ=Y (U σ.length) c/\SL P { x with S:=ϋ,V:=ϋ } a (J$ one$ U x.r) fz q c/\cn ϋ/\c[σ.length]?=BD (ϑ l)/\l.length<=10/\∀ r l,15<r->σ[r]?=BD (ϑ l)->c[r]?=BD (ϑ l):=by
 have y:=h.app [ϑ []];have m:=y.swap$ Ϡ$ one$ U x.r;have hl:=ύ.l;have n2:((σ++[ϑ []]).set 11$ Ϡ$ one$ U x.r)[σ.length]?=BD (ϑ []):=Wb ⋯ ⋯;have R:∀ r l,15<r->σ[r]?=BD (ϑ l)->((σ++[ϑ []]).set 11$ Ϡ$ one$ U x.r)[r]?=BD (ϑ l):=λr l j e=>Wb ⋯$ Di e;generalize A:(σ++[ϑ []]).set 11 (Ϡ$ one$ U x.r)=g at *;obtain⟨a0,c,E,n,ϋ,l,rfl,k,F,p,H,B⟩:=pU (S:=.seq$ s.ts.map Ti.D) (xs:=s.ts.map Ti.D) (tg:=wc 5) (body:=QJ) (ρ:=[BD$ U 9,BD$ U 2,BD$ U σ.length,BD$ Z 0,BD$ U x.r,L6]) (σ:=g) (λi ρ f=>∃ n ϋ l,ρ=[BD$ U 9,BD$ U 2,BD$ U σ.length,BD$ Z 0,BD$ U x.r,n]/\SL P { x with S:=ϋ,V:=ϋ } a (Ϡ$ one$ U x.r) fz q f/\cn ϋ/\f[σ.length]?=BD (ϑ l)/\l.length<=i/\LF σ.length g f) (by simp;omega) (ϖ rfl) (λi d ρ f hd W=>by
  obtain⟨n,ϋ,l,rfl,k,F,p,H,B⟩:=W;have X:=(ba.mp hd).1;rw[Ra]at X;rw[Na]at hd;obtain⟨t,ϊ,rfl⟩:=Wa.mp hd;obtain⟨K,l',G,e,k',w2,u,Q,C⟩:=Ì k rfl T F (ό t$ wa ϊ) p ⋯ ⋯;exact⟨_,_,G,rfl,e,BD t.D,K,l',rfl,k',w2,u,by omega,λr l I j e=>C r l I j$ B r l I j e⟩) ⟨L6,x.S,[],rfl,(eX z).symm ▸ m,w,n2,by simp,λr l _ _ e=>e⟩
 rw[Ra]at H;have tt:=Đ m.i h.ao.o st ύ;have b:xX [BD$ U 9,BD$ U 2,BD$ U σ.length,BD$ Z 0,BD$ U x.r,L6] g=Y (Ϙ [BD$ U 9,BD$ U 2,BD$ U σ.length,BD$ Z 0,BD$ U x.r,n]) c:=by
  have M:=JA m.v;have O:=pq m.v.h3;have E:Qj (wc 5) QJ (s.ts.map Ti.D) _ g=_:=E;generalize s.ts.map Ti.D=TD at *;simp[M,O,tt,E]
 subst A;have th:=ZJ (tg:=Hi 2$ Oe (wc 3)$ Oe (wc 4) Qi) (gO y (r:=[BD$ U 2,BD$ U σ.length,L6,L6,L6])) y.h2 rfl b k.h2;refine⟨ϋ,l,_,?_,k.swap _,F,Wb ⋯ p,by omega,λr l j e=>Wb ⋯$ B r l (λe2=>?_) j$ R r l j e⟩
 ·unfold mD JT Ee;simp[th,-rs]
 ·have:=(ba.mp e).1;omega
end
def gW{a}{n}{b}(h:a[n]?=BD (ϑ [b])) ρ d:kx ρ d (U n) (Z 0) a=Y (Ϙ ρ) (a.set n$ ϑ [d]):=by
 have:Dz (U n) (Z 0) d a=Y () (a.set n$ ϑ [d]):=by
  unfold Dz af;simp[h];rfl
 unfold kx;rw[this]
def VL{c}(b:[5,6,7,8].contains c=A3) w a:cy [U a.length,w] (a++[ϓ c []])=Y Ϛ (a++[ϓ c [("whole",w)]]):=by
 unfold cy Ee;have:=bC (ρ:=[BD$ U a.length,BD w]) (σ:=a) (f:="whole") (d:=w) (c:=c) (fs:=[]) b ⋯;simp[this,Mh]
theorem Ō P a:lg a (vj 8 3 uB [Z$ P.u+P.v,Z P.s] a)=Y (TN P) a:=by
 have b:=λe=>bC (ρ:=e) (σ:=a) (cs:=[7,8,10,11,12,13]) (f:="side") (d:=Z P.s) (c:=8) (fs:=[("whole",Z (P.u+P.v))]) rfl ⋯;have g:Mh "side" (Z P.s) ([("whole",Z _)]:List (Str × D))=([("whole",Z (P.u+P.v)),_]:List (Str × D)):=rfl;rw[g]at b;have i:uB [U a.length,Z$ P.u+P.v,Z P.s] (a++[ϓ 8 []])=Y Ϛ (a++[ϓ 8 [("whole",Z (P.u+P.v)),("side",Z P.s)]]):=by
  unfold uB Ee;simp[(VL (c:=8) rfl _ a),b]
 rw[show vj 8 3 uB [Z$ P.u+P.v,Z P.s] a=bu a.length (uB [U a.length,Z$ P.u+P.v,Z P.s]$ a++[ϓ 8 []])from VA rfl,i,Yy,xJ ⋯];rfl
theorem zwy P s d σ:lg σ (vj 7 6 yz [Z$ P.u+P.v,Z$ 1 - P.s,s.D,Z d,Z P.w] σ)=Y (LA P s d) σ:=by
 have i:yz [U σ.length,Z$ P.u+P.v,Z$ 1 - P.s,s.D,Z d,Z P.w] (σ++[ϓ 7 []])=Y Ϛ (σ++[ϓ 7 [("whole",Z (P.u+P.v)),("side",Z (1 - P.s)),("stand",s.D),("day",Z d),("wait",Z P.w)]]):=by
  have j:∀ a b:D,Mh "side" b ([("whole",a)]:List (Str × D))=([("whole",a),_]:List (Str × D)):=λp p=>rfl;have k:∀ a b c:D,Mh "stand" c ([("whole",a),("side",b)]:List (Str × D))=([("whole",a),("side",b),("stand",c)]:List (Str × D)):=λp p p=>rfl;have l:∀ a b c e:D,Mh "day" e ([("whole",a),("side",b),("stand",c)]:List (Str × D))=([("whole",a),("side",b),("stand",c),("day",e)]:List (Str × D)):=λp p p p=>rfl;have m:∀ a b c e f:D,Mh "wait" f ([("whole",a),("side",b),("stand",c),("day",e)]:List (Str × D))=([("whole",a),("side",b),("stand",c),("day",e),("wait",f)]:List (Str × D)):=λp p p p p=>rfl;unfold yz Ee;dsimp only;generalize s.D=o at *;simp[(VL (c:=7) rfl (Z$ P.u+P.v) σ),(λρ (cs:dN) (h:cs.contains 7=A3) f w g (n:g.length<1000)=>bC (ρ:=ρ) (σ:=σ) (cs:=cs) (f:=f) (d:=w) (c:=7) (fs:=g) h n),j,k,l,m]
 rw[show vj 7 6 yz [Z$ P.u+P.v,Z$ 1 - P.s,s.D,Z d,Z P.w] σ=bu σ.length (yz [U σ.length,Z$ P.u+P.v,Z$ 1 - P.s,s.D,Z d,Z P.w]$ σ++[ϓ 7 []])from VA rfl,i,Yy,xJ (by simp[(Jl s)])];rfl
def yP P c:Nf [PD P] c=Y (Z$ P.u+P.v) c:=by
 have a:∀ c,ib (PD P) (Z 2) c=Y (Z P.u) c:=λc=>by unfold PD Bq;split<;>simp
 have b:∀ c,ib (PD P) (Z 3) c=Y (Z P.v) c:=λc=>by unfold PD Bq;split<;>simp
 unfold Nf Fc;dsimp only
 simp_all
def XQ P a:ib (PD P) (Z 4) a=Y (Z P.w) a:=by unfold PD Bq;split<;>exact JY ..
def zrf{p q n}(b:0<=p/\p<=2)(c:q=0\/q=1)(h:0<=n/\n<=1000000) a:Ie [pk p q n] a=Y (ϒ A3) a:=by
 unfold pk Ie Fc;simp[(SN h a),(λX=>NJ b a c (ϐ "strike") X)]
def JL s a:og [Z s] a=Y (Z$ 1 - s) a:=by unfold og Fc;simp
section
variable{P:Pm}(po:P.Ok){N:Int}{s:Sn}{d:Int}
include po
theorem K8(k:0<=s.n/\s.n<=1000000)(j:N<d+P.w) a:lC [LA P s d,Z 0,Z P.s,Z N,pk 0 (1 - P.s) s.n] a=Y (ϒ A3) a:=by
 have q:=po.s;have f:∀ a,Mb [7,8,10,11,12,13] "side" (LA P s d) a=Y _ a:=λa=>Ih (Pn rfl) rfl rfl;have g:∀ a,Mb [7] "stand" (LA P s d) a=Y s.D a:=λa=>Ih (Pn rfl) rfl rfl;have h:∀ a,Mb [7,9] "day" (LA P s d) a=Y (Z d) a:=λa=>Ih (Pn rfl) rfl rfl;have i:∀ a,Mb [7] "wait" (LA P s d) a=Y (Z P.w) a:=λa=>Ih (Pn rfl) rfl rfl;have l:=s0 s;have c:=λa=>JL (1 - P.s) a;rw[show (1 - (1 - P.s):Int)=P.s by lia]at c;have r:∀ a,rh (Z P.s) (Z P.s) a=Y (ϒ Ŷ) a:=λa=>by simp
 have lt:decide (N<d+P.w)=A3:=Ib j;have u:∀ a,qC [LA P s d,Z N] a=Y (ϒ A3) a:=λa=>by
  unfold qC be;dsimp only;generalize LA P s d=L at *;simp[h,i,lt]
 have m:∀ b,oj [(7,qC)] 2 "waits" b (LA P s d) a=(b a).bind (Ai 2 qC$ LA P s d):=λb=>Tn (Pn rfl) rfl rfl;have t:=zrf (p:=0) (q:=1 - P.s) (n:=s.n) ⋯ ⋯ k a;have e:Zh (pk 0 (1 - P.s) s.n) (Ϗ [ϐ "strike",Z 0,Z$ 1 - P.s,Z s.n]) a=Y (ϒ A3) a:=ZF (by simp[pl,pk]);unfold lC be;dsimp only;generalize LA P s d=L,pk 0 (1 - P.s) s.n=K,s.D=v,1 - P.s=o,P.s=S at *;simp[f,g,l,c,r,u,m,t,e]
theorem S8{S}{T}{fz}{a}(H:HA P N (LA P s d) S T fz a)(h:0<=s.n/\s.n<=1000000)(g:N<d+P.w):uD [U 2,Z 0,Z P.s,pk 0 (1 - P.s) s.n] a=Y Ϛ (a.set 3$ ϑ [TN P]):=by
 have e:uf [Z P.s] a=Y Ϛ a:=by
  unfold uf Fc;simp[(Ly (s:=P.s) po.s a)]
 have i:=K8 po h g a;have j:∀ b,oj [(6,IM),(7,lC),(8,uQ)] 5 "may_strike" b _ a=(b a).bind (Ai 5 lC$ LA P s d):=λb=>Tn (Pn rfl) rfl rfl;have c:=UF H;have k:=zD po;have l:=yP P;have mk:=Ō P a;unfold uD Ee;dsimp only;generalize LA P s d=L,pk 0 _ s.n=K,PL P=m,PD P=Q,TN P=TT,P.s=S,P.u+P.v=W at *;simp[(sC H),(λf=>jn H (x:="check_pot") 2 bv f rfl),e,i,j,(CH H),(eI H),(RF H),c,k,l,mk,(gW H.h3),-zwk]
end
@[simp] theorem zw9{e} d x a b c:Ai 4 d x [a,b,c] e=d [x,a,b,c] e:=SF rfl
section
variable{P:Pm}(po:P.Ok){x:Xk}{a:Ac}{fz:Bool}{q:Nat}{σ:Ca}(h:SL P x a (J$ one$ U x.r) fz q σ)
include po h
theorem nT{x'}(t:x'.r=x.r){y6}{σ2}(b:SX [BD$ U 9,BD$ U 2,BD$ U σ.length,BD$ ώ [Z P.w],BD$ Z 0,BD$ U x.r,L6] ((σ++[ϑ []]).set 11$ Ϡ$ one$ U x.r)=Y (Ϙ [BD$ U 9,BD$ U 2,BD$ U σ.length,BD$ ώ [Z P.w],BD$ Z 0,BD$ U x.r,y6]) σ2)(k:SL P x' a (Ϡ$ one$ U x.r) fz q σ2):Uw [U 9,U 2] σ=Y (U σ.length) (σ2.set 11$ J$ one$ U x.r):=by
 have c:=h.app [ϑ []];have l:=zwi c.H;have p4:=XQ P;have p:∀ d e f g y6:Option D,cj _ [BD _,BD$ U 2,d,e,f,g,y6] (σ++[ϑ []])=Y _ (σ++[ϑ []]):=λd e f g y6=>by
  have:=Av (xs:=[PD P]) (s:=.seq [PD P]) (src:=kh$ Qd [(9,Tt)] 1 "made_of" (ja 1) Ua) (ix:=[]) (ρ:=[BD$ U 9,BD$ U 2,d,e,f,g,y6]) (σ:=σ++[ϑ []]) (fe:=Sa ib (ja 0)$ eC$ Z 4) id (λv=>Z P.w) (by unfold PL at l;simp[l,(λm=>jn c.H (x:="made_of") 1 Tt m rfl)]) (λi j=>by
   show BD [PD P][i]?=_
   match i with
   |0=>rfl
   |i+1=>rfl) ⋯ (λx n j=>by
   obtain rfl:=Oa.mp n;generalize PD P=Q at *;simp[p4]) (λv v=>rfl)
  exact this
 have o:=ZJ (tg:=Hi 2$ Oe (wc 4)$ Oe (wc 5) Qi) (gO c (r:=[BD$ U 2,BD$ U σ.length,BD$ ώ [Z P.w],L6,L6,L6])) c.h2 rfl b k.h2;unfold Uw TV Ee;dsimp only;generalize σ2.set 11 (J$ one$ U x.r)=u at *;simp[p,o,-rs,-lr]
theorem bU{k}(f:∀ σ,ib x.kc (Z 0) σ=Y (ϐ k) σ)(d:(k == ("laid" : Str))=Ŷ):Uw [U 9,U 2] σ=Y (U σ.length) (σ++[ϑ []]):=by
 have a:=(h.app [ϑ []]).swap$ Ϡ$ one$ U x.r;have c:∀ b,Xe [U x.r,x.kc] b=Y (ϒ Ŷ) b:=λb=>by
  unfold Xe Fc;dsimp only;simp[f,d]
 have e:=nT po h (y6:=BD x.kc) rfl (by
  simp[(JA a.v),(pq a.v.h3),c]) a
 rwa [Gf,Ez (h.app _).h2]at e
theorem zgh{s}{d}(W:x.kc=Kn P s d)(X:x.bc=LA P s d){G}{m}{n}(ό:a=gc 0 P.s m G (Ii n))(hs:0<=s.n/\s.n<n)(hn:n<=100)(hL:x.L=x.N)(hN:x.N<d+P.w):∃ l f,Uw [U 9,U 2] σ=Y (U σ.length) f/\SL P { x with bc:=TN P,kc:=Ek P } a (J$ one$ U x.r) fz q f/\f[σ.length]?=BD (ϑ l)/\l.length<=1/\LK σ f:=by
 subst ό;have g:=(h.app [ϑ []]).swap$ Ϡ$ one$ U x.r;have lb:=(ba.mp h.h6).1;have n2:((σ++[ϑ []]).set 11$ Ϡ$ one$ U x.r)[σ.length]?=BD (ϑ []):=Wb ⋯ ⋯;have M:LK σ$ (σ++[ϑ []]).set 11$ Ϡ$ one$ U x.r:=(LK.app _ _).set ⋯ _;have y:=λK j b k=>nT po h (x':={ x with bc:=TN P,kc:=Ek P }) (y6:=K) (σ2:=j) rfl b k;generalize (σ++[ϑ []]).set 11 (Ϡ$ one$ U x.r)=e at *;have ϋ:=JA g.v;have C:=pq g.v.h3;rw[W]at C;have la:=uF g.v;have p:=g.i;have u:=g.ao.o;have ύ:Mb [7,8,10,11,12,13] "side" (U x.r) e=Y (Z P.s) e:=Jt p u;have st:Mb [10,11,12,13] "strikes" (U x.r) e=Y (ώ$ Ii n) e:=ZC p u;have l0:∀ σ,ib (Kn P s d) (Z 0) σ=Y (ϐ "laid") σ:=λσ=>by unfold Kn;simp
 have F:∀ σ,ib (Kn P s d) (Z 1) σ=Y (Z$ 1 - P.s) σ:=λσ=>by unfold Kn;simp
 have I:∀ σ,ib (Kn P s d) (Z 2) σ=Y s.D σ:=λσ=>by unfold Kn;simp
 have l3:∀ σ,ib (Kn P s d) (Z 3) σ=Y (Z d) σ:=λσ=>by unfold Kn;simp
 have j0:=s0 s;have nb:((1 - P.s:Int) == P.s)=Ŷ:=by have:=po.s;simp;omega
 have si:∀ σ,uG Ŷ (Z s.n) (ώ$ Ii n) σ=Y (ϒ A3) σ:=λσ=>by
  have:=cX ((List.range n).map λ(i:Nat)=>(i:Int)) s.n σ;rw[Qb]at this;rw[Ib$ La.mpr ⟨s.n.toNat,ke.mpr ⋯,by omega⟩]at this;exact this
 have A:(("laid" : Str) == "laid")=A3:=by decide
 have gu:Xe [U x.r,Kn P s d] e=Y (ϒ A3) e:=by
  unfold Xe Fc;dsimp only;generalize Kn P s d=R,s.D=S,Ii n=NS at *;simp[l0,F,I,A,nb,ύ,j0,st,si]
 have w0:∀ σ,ib (ώ [Z P.w]) (Z 0) σ=Y (Z P.w) σ:=λσ=>by simp
 have lt:decide (x.L<d+P.w)=A3:=Ib ⋯;have so:ii [U x.r,Z$ 1 - P.s,s.D] e=Y (pk 0 (1 - P.s) s.n) e:=zG p u (1 - P.s) s;have ml:=Kx (l:=[(10,ii),(11,ii),(12,ii),(13,ii)]) (m:="strike_of") p rfl rfl rfl 3;have H:=g.H;rw[X]at H;have sb:=S8 po H ⋯ ⋯;have ms:=λz=>jn g.H (x:="strike") 4 uD z rfl;have k1:=g.JD (b:=TN P);have n3:(e.set 3$ ϑ [TN P])[σ.length]?=BD (ϑ []):=Wb ⋯ n2;have O:LK σ$ e.set 3$ ϑ [TN P]:=M.set ⋯ _;generalize e.set 3 (ϑ [TN P])=c at *;have V:=JA k1.v;have B:Mb [7,8,10,11,12,13] "side" (U x.r) c=Y (Z P.s) c:=Jt k1.i k1.ao.o;have s3:∀ ρ,Ln ρ (Ek P) (U 12) (Z 0) c=Y (Ϙ ρ) (c.set 12$ J$ one$ Ek P):=λρ=>by
  rw[Wp k1.v.h3 (by simp[one])];rfl
 have k2:=k1.ù$ Ek P;have t:(c.set 12$ J$ one$ Ek P)[σ.length]?=BD (ϑ []):=Wb ⋯ n3;have Q:LK σ$ c.set 12$ J$ one$ Ek P:=O.set ⋯ _;generalize c.set 12 (J$ one$ Ek P)=a0 at *;have T:=zM (d:=Ϗ [ϐ "strike",Z 0]) t ⋯;have ma:=λz=>rM t lj z;have E:=k2.na t ⋯$ []++[Ϗ [ϐ "strike",Z 0]];have ϊ:Ϗ [ϐ "taken",Z P.s]=Ek P:=rfl;refine⟨_,_,y (BD$ Kn P s d) _ ?_ E,E.swap _,Wb ⋯$ Bm t,by simp,(Q.fresh (pa _) _).set ⋯ _⟩;generalize Kn P s d=R,s.D=S,Ek P=TT at *;simp[ϋ,C,gu,la,F,I,l3,w0,lt,ύ,ml,so,ms,sb,V,B,ϊ,s3,ma,T]
end
def η{σ}{m n}{xs a}(d:σ[m]?=BD (ϑ xs))(e:σ[n]?=BD (ϑ a))(f:xs.length+a.length<=1000):lh (U m) (U n) σ=Y (ώ$ xs++a) σ:=by
 have b:af σ m=BD xs:=by unfold af;rw[d]
 have c:af σ n=BD a:=by unfold af;rw[e]
 show jA _ _ σ=_;unfold jA;simp[Bf,b,c,Yf,f]
theorem Τ{σ}{n}{xs ys}(b:σ[n]?=BD (ϑ ys))(c:xs.length+ys.length<=1000):wG (ώ xs) (U n) σ=Y (U σ.length) (σ++[ϑ$ xs++ys]):=by
 have a:af σ n=BD ys:=by unfold af;rw[b]
 unfold wG;simp[Bf,a];rw[ia (by trivial)];rfl
def yjb{σ}{n c}{a}(h:σ[n]?=BD (ϓ c a)){cs}(b:cs.contains c=A3)(g:a.length<1000) ρ f d:iy ρ cs f d (U n) σ=Y (Ϙ ρ) (σ.set n$ ϓ c$ Mh f d a):=by
 have e:bz cs f d (U n) σ=Y () (σ.set n$ ϓ c$ Mh f d a):=by
  unfold bz;simp only[h];rw[ia ⋯]
 unfold iy;rw[e]
theorem W3{f}{n}{ρ e h}{b c}{d}{j}{a}(i:f ρ b=Y (U n) b)(g:b[n]?=BD (J$ one d))(m:j (Z 0) ρ=BD e)(l:a e (b.set n$ Ϡ$ one d)=Y (Ϙ h) c)(k:c[n]?=BD (Ϡ$ one d)):Zt f (rm (hJ f) j a) ρ b=Y (Ϙ h) (c.set n$ J$ one d):=by
 have o:hJ f ρ b=Y (BE$ one d) (b.set n$ Ϡ$ one d):=by
  show Lc _ OJ _=_;rw[Ml,i,zd];unfold OJ;simp[g]
 refine zJ i g o ?_ k;rw[VC rfl m,l,zd,Vn];exact WC rfl
structure Sg(P:Pm)(x:Xk)(a:Ac)(fz:Bool)(σ:Ca):Prop where
 H:HA P x.N x.bc x.S x.T fz σ
 v:KV P x σ
 h2:σ[11]?=BD (J (one (U x.r)))
 h5:σ[14]?=BD (J x.Q)
 h6:σ[15]?=BD (J [])
 i:Uh σ x.r a
 r:15<x.r
 ao:Fz a
def Ç(x:Xk)(a:D)(q:Nat):Xk:={ x with L:=x.N,kc:=a,sv:=U q,V:=x.S,K:=(Xt x.S).foldl Mg x.K }
def À{S}(w:cn S):∀ v∈Xt S,0<=v/\v<=59:=λv a=>by
 obtain⟨z,c,rfl⟩:=La.mp ((Xw _).mem_iff.mp a);exact w.b z c
def Ķ{S}(w:cn S):(Xt S).length<=60:=by
 have:=(Xw (S.map (·.1))).length_eq;have:=w.l;unfold Xt;simp at *;lia
section
variable{P:Pm}{x:Xk}{a:Ac}{fz:Bool}{σ:Ca}(g:Sg P x a fz σ)(kok:eu x.K)(w:cn x.S){tc:D}(td:∀ τ,HA P x.N x.bc x.S x.T fz τ->Jn [U 2,Z 0] τ=Y tc τ)
include g kok w td
theorem XN:∃ q y b c o,QE [BD$ U 9,BD$ U 2,L6] σ=Y (Ϙ [BD$ U 9,BD$ U 2,L6]) b/\oF [BD$ U 9,BD$ U 2,L6] b=Y (Ϙ [BD$ U 9,BD$ U 2,y]) c/\aJ [BD$ U 9,BD$ U 2,y] c=Y (Ϙ [BD$ U 9,BD$ U 2,y]) o/\SL P (Ç x tc q) a (J$ one$ U x.r) fz q o/\LK σ o:=by
 have lb:=(ba.mp g.h6).1;have hr:=g.r;have e1:QE [BD$ U 9,BD$ U 2,L6] σ=Y (Ϙ [BD$ U 9,BD$ U 2,L6]) (σ.set 9$ ϓ 15$ ir P { x with L:=x.N }):=by
  have t:=zT g.H;have C:=λf=>jn g.H (x:="today") 1 Iy f rfl;have I:=λh=>yjb g.v.h0 (cs:=[14,15]) rfl (by simp[ir]) h "last_look"$ Z x.N;rw[show Mh "last_look" (Z x.N) (ir P x)=ir P { x with L:=x.N } from rfl]at I;generalize σ.set 9 (ϓ 15$ ir P { x with L:=x.N })=c at *;simp[t,C,I]
 have n:Sg P { x with L:=x.N } a fz$ σ.set 9$ ϓ 15$ ir P { x with L:=x.N }:=⟨g.H.hi ⋯ _,⟨Bm g.v.h0,Wb ⋯ g.v.h1,Wb ⋯ g.v.h3,Wb ⋯ g.v.h4⟩,Wb ⋯ g.h2,Wb ⋯ g.h5,Wb ⋯ g.h6,Wb (by show 9≠x.r;omega) g.i,g.r,g.ao⟩
 have O:LK σ$ σ.set 9$ ϓ 15$ ir P { x with L:=x.N }:=LK.rfl.set ⋯ _;have n1:(σ.set 9$ ϓ 15$ ir P { x with L:=x.N }).length=σ.length:=yg;generalize σ.set 9 (ϓ 15$ ir P { x with L:=x.N })=b at *;have g2:Sg P { x with L:=x.N } a fz b->True:=λD=>trivial;have hv:Vc (Mb [15] "accounts") (ja 0) [BD$ U 9,BD$ U 2,L6] b=Y (U 11) b:=by
  have:=Qs n.v;simp[this]
 have v2:KV P { x with L:=x.N }$ b.set 11$ Ϡ$ one$ U x.r:=n.v.set (ϖ rfl) _;have u:=n.H.hi (r:=11) ⋯$ Ϡ$ one$ U x.r;have ό:(b.set 11$ Ϡ$ one$ U x.r)[11]?=BD (Ϡ$ one$ U x.r):=Bm n.h2;have b2:(b.set 11$ Ϡ$ one$ U x.r)[14]?=BD (J x.Q):=Wb ⋯ n.h5;have c2:(b.set 11$ Ϡ$ one$ U x.r)[15]?=BD (J []):=Wb ⋯ n.h6;have i2:Uh (b.set 11$ Ϡ$ one$ U x.r) x.r a:=Wb ⋯ n.i;have n2:(b.set 11$ Ϡ$ one$ U x.r).length=σ.length:=by rw[yg,n1]
 have R:LK σ$ b.set 11$ Ϡ$ one$ U x.r:=O.set ⋯ _;have B:∃ τ,XU [BD$ U 9,BD$ U 2,BD$ Z 0] (b.set 11$ Ϡ$ one$ U x.r)=Y (Ϙ [BD$ U 9,BD$ U 2,BD$ Z 0]) τ/\SL P { x with L:=x.N,kc:=tc,sv:=U σ.length,V:=x.S } a (Ϡ$ one$ U x.r) fz σ.length τ/\LK σ τ:=by
  generalize b.set 11 (Ϡ$ one$ U x.r)=τ at *;have t:=td τ u;have C:=λf=>jn u (x:="told") 2 Jn f rfl;have c1:=JA v2;have s1:∀ h,Ln h tc (U 12) (Z 0) τ=Y (Ϙ h) (τ.set 12$ J$ one tc):=λh=>by
   rw[Wp v2.h3 (by simp[one])];rfl
  have v3:KV P { x with L:=x.N,kc:=tc }$ τ.set 12$ J$ one tc:=⟨Wb ⋯ v2.h0,Wb ⋯ v2.h1,Bm v2.h3,Wb ⋯ v2.h4⟩
  have z:=u.hi (r:=12) ⋯$ J$ one tc;have ϊ:=Wb (k:=11) (r:=12) (x:=J$ one tc) ⋯ ό;have b3:=Wb (k:=14) (r:=12) (x:=J$ one tc) ⋯ b2;have c3:=Wb (k:=15) (r:=12) (x:=J$ one tc) ⋯ c2;have i3:Uh (τ.set 12$ J$ one tc) x.r a:=Wb ⋯ i2;have T:LK σ$ τ.set 12$ J$ one tc:=R.set ⋯ _;have G:(τ.set 12$ J$ one tc).length=σ.length:=by rw[yg,n2]
  generalize τ.set 12 (J$ one tc)=e at *;have ύ:=yjv z;have ms:=λf=>jn z (x:="shown_for") 2 fD f rfl;rw[G]at ύ;have p:=v3.app [J$ sK x.S];have c4:=zI p;have s4:∀ h,Ln h (U σ.length) (U 13) (Z 0) (e++[J$ sK x.S])=Y (Ϙ h) ((e++[J$ sK x.S]).set 13$ J$ one$ U σ.length):=λh=>by
   rw[Wp p.h4 (by simp[one])];rfl
  have q4:(e++[J$ sK x.S])[σ.length]?=BD (J$ sK x.S):=by rw[<-G];simp
  have ϋ:LK σ$ e++[J$ sK x.S]:=T.trans$ .app _ _;have M:=z.app [J$ sK x.S];have a4:=Di (j:=[J$ sK x.S]) ϊ;have b4:=Di (j:=[J$ sK x.S]) b3;have c5:=Di (j:=[J$ sK x.S]) c3;have i4:=i3.app [J$ sK x.S];generalize e++[J$ sK x.S]=E at *;refine⟨E.set 13$ J$ one$ U σ.length,by simp[t,C,c1,s1,ύ,ms,c4,s4],⟨M.hi ⋯ _,⟨Wb ⋯ p.h0,Wb ⋯ p.h1,Wb ⋯ p.h3,Bm p.h4⟩,Wb ⋯ a4,Wb ⋯ b4,Wb ⋯ c5,Wb (by show 13≠x.r;omega) i4,g.r,g.ao,lb,rfl,Wb ⋯ q4⟩,ϋ.set ⋯ _⟩
 apply b_;intro z_;obtain⟨τ,eb,F,W⟩:=B;have e2:oF [BD$ U 9,BD$ U 2,L6] b=Y (Ϙ [BD$ U 9,BD$ U 2,BD$ Z 0]) (τ.set 11$ J$ one$ U x.r):=W3 hv n.h2 rfl eb F.h2;have s:=F.swap$ J$ one$ U x.r;have X:LK σ$ τ.set 11$ J$ one$ U x.r:=W.set ⋯ _;apply z_;generalize τ.set 11 (J$ one$ U x.r)=c at *;have A:=ycf s.H w.d w.l;have ma:=λf=>jn s.H (x:="all_shown") 1 dA f rfl;have ml:=λf=>qk s.v (m:="learn") 2 Su f rfl;have le:=à s (ws:=Xt x.S) (by have:=kok.l;have:=Ķ w;show x.K.length+_<900;omega);refine⟨σ.length,BD$ Z 0,b,c,_,e1,e2,?_,s.knw _,X.set ⋯ _⟩;have A:dA [U 2] c=Y (ώ$ (Xt x.S).map Z) c:=A;generalize ώ ((Xt x.S).map Z)=WW at *;simp[A,ma,ml,le]
omit kok w td
theorem NM{q}{y}{j k b}(I:QE [BD$ U 9,BD$ U 2,L6] σ=Y (Ϙ [BD$ U 9,BD$ U 2,L6]) j)(ύ:oF [BD$ U 9,BD$ U 2,L6] j=Y (Ϙ [BD$ U 9,BD$ U 2,y]) k)(K:aJ [BD$ U 9,BD$ U 2,y] k=Y (Ϙ [BD$ U 9,BD$ U 2,y]) b){x3 e}{o}(B:SL P x3 a o fz q b){f}{l}(Q:Uw [U 9,U 2] b=Y (U b.length) f)(u:SL P e a (J$ one$ U e.r) fz q f)(G:f[b.length]?=BD (ϑ l))(l4:l.length<=1)(C:LK σ b)(E:LK b f)(p:e.V=e.S)(R:e.L=e.N)(w:cn e.S){s}(W:Hn a.q s)(T:∀ t∈s.ts,t.Ok)(st:∀ τ,Uh τ e.r a->Cc [U e.r,e.kc] τ=Y (ώ [s.D]) τ):∃ d ϋ g,vB [U 9,U 2] σ=Y d g/\cn ϋ/\SL P { e with S:=ϋ,V:=ϋ } a (J$ one$ U e.r) fz q g/\LK σ g:=by
 have X:15<b.length:=(ba.mp B.h6).1;have z:15<f.length:=(ba.mp u.h6).1;obtain⟨ϋ,i,c,M,x,w5,H,ό,A⟩:=R4 u p R w W T st z;have ϊ:=zv3 x;have F:=η (A _ _ X G) H ⋯;have ct:=Τ (σ:=c++[ϑ []]) (n:=c.length) (xs:=l++i) (ys:=[]) ⋯ (by simp;lia);have m4:=λh=>qk B.v (m:="strike_all") 2 Uw h rfl;have m5:=λh=>qk u.v (m:="show_all") 2 mD h rfl;refine⟨U (c++[ϑ []]).length,ϋ,_,?_,w5,(x.app [ϑ []]).app [ϑ$ l++i++[]],(((C.trans E).trans A).trans$ .app _ _).trans$ .app _ _⟩
 ·have O:kM [BD$ U 9,BD$ U 2,y] b=Y (.rt$ U (c++[ϑ []]).length) (c++[ϑ []]++[ϑ$ l++i++[]]):=by
   generalize c++[ϑ []]++[ϑ$ l++i++[]]=a1 at *;generalize l++i=DS,c++[ϑ []]=a0 at *;simp[m4,Q,m5,M,F,(λh=>qk x.v (m:="lay_all") 2 HD h rfl),ϊ,ct]
  unfold vB PR Ee
  (try dsimp only);(try dsimp only);rw[av,kD]
  show Cq (zb QE (zb oF$ zb aJ kM) [BD$ U 9,BD$ U 2,L6] σ)=_;rw[ng,I,zd,sg,ng,ύ,zd,sg,ng,K,zd,sg,O,æ]
end
inductive Ph where
 |hd
 |la (s:Sn) (d:Int)
 |tk
noncomputable def Ph.nx:Ph->Ph
 | .hd=>.hd
 |_=>.tk
def Ph.O(P:Pm)(x:Xk)(n:Nat):Ph->Prop
 | .hd=>x.bc=HL P/\(x.kc=Zm\/x.kc=Mq)
 | .la s d=>x.bc=LA P s d/\(x.kc=Zm\/x.kc=Mq)/\0<=s.n/\s.n<n/\x.L<=d
 | .tk=>x.bc=TN P/\x.kc=Ek P
structure Dy(P:Pm)(x:Xk)(a:Ac)(fz:Bool)(σ:Ca):Prop where
 g:Sg P x a fz σ
 sn:qz x σ
 k:eu x.K
 w:cn x.S
structure YF(x x':Xk):Prop where
 r:x'.r=x.r
 t:x'.T=x.T
 q:x'.Q=x.Q
def Dy.of{P}{x}{a}{fz}{q}{b}(k:SL P x a (J$ one$ U x.r) fz q b)(c:eu x.K)(w:cn x.S):Dy P x a fz b:=⟨⟨k.H,k.v,k.h2,k.h5,k.h6,k.i,k.r,k.ao⟩,ϙ ⟨q,k.e,k.qn,k.sq⟩,c,w⟩
section
variable{P:Pm}(po:P.Ok){x:Xk}{fz:Bool}{σ:Ca}{m:Sn}{G:D}{n:Nat}(D:Dy P x (gc 0 P.s m G$ Ii n) fz σ)(hm:m.Ok$ P.u+P.v)(sm:Hn P.s m)(hn:n<=100)
include po D hm sm hn
theorem Η{I:Ph}(o:I.O P x n)(T:x.N - x.L<=P.e):∃ d x' a,vB [U 9,U 2] σ=Y d a/\Dy P x' (gc 0 P.s m G$ Ii n) fz a/\I.nx.O P x' n/\x'.N=x.N/\x'.L=x.N/\YF x x'/\LK σ a:=by
 have g:=D.g;have F:eu _:=mL D.k$ À D.w;have V:=po.w
 match I,o with
 | .hd,o=>
  obtain⟨q,y,A,σ2,B,j,p,r,b,f⟩:=XN g D.k D.w (tc:=Mq) (λC H=>XW H o.1);have E:∀ σ,ib Mq (Z 0) σ=Y (ϐ "held") σ:=λσ=>by unfold Mq;simp
  apply b_;intro z_;have u:=bU po b E rfl;obtain⟨d,ϋ,a,e,z,v,c⟩:=NM g j p r b u (b.app [ϑ []]) (l:=[]) ⋯ ⋯ f (.app _ _) rfl rfl D.w (s:=m) sm hm.st.t (λC i=>BQ i g.ao.o E);apply z_;exact⟨d,_,a,e,.of v F z,⟨o.1,ϙ rfl⟩,rfl,rfl,⟨rfl,rfl,rfl⟩,c⟩
 | .la s ύ,o=>
  obtain⟨q,y,A,σ2,B,j,p,r,b,f⟩:=XN g D.k D.w (tc:=Kn P s ύ) (λC H=>aV H o.1);obtain⟨l,S,u,Q,M,R,K⟩:=zgh po b (s:=s) (d:=ύ) rfl o.1 rfl ⟨o.2.2.1,o.2.2.2.1⟩ hn rfl (by have:=o.2.2.2.2;show x.N<_;lia);obtain⟨d,ϋ,a,e,z,v,c⟩:=NM g j p r b u Q M R f K rfl rfl D.w (s:=Vs P) ⟨(λt h=>by cases h),by simp[Vs],by simp[Vs]⟩ (λt h=>by cases h) (λC i=>wL po i g.ao.o hm);exact⟨d,_,a,e,.of v F z,⟨rfl,rfl⟩,rfl,rfl,⟨rfl,rfl,rfl⟩,c⟩
 | .tk,o=>
  obtain⟨q,y,A,σ2,B,j,p,r,b,f⟩:=XN g D.k D.w (tc:=Ek P) (λC H=>qP H o.1);have E:∀ σ,ib (Ek P) (Z 0) σ=Y (ϐ "taken") σ:=λσ=>by unfold Ek;simp
  have u:=bU po b E rfl;obtain⟨d,ϋ,a,e,z,v,c⟩:=NM g j p r b u (b.app [ϑ []]) (l:=[]) ⋯ ⋯ f (.app _ _) rfl rfl D.w (s:=Vs P) ⟨(λt h=>by cases h),by simp[Vs],by simp[Vs]⟩ (λt h=>by cases h) (λC i=>wL po i g.ao.o hm);exact⟨d,_,a,e,.of v F z,⟨o.1,rfl⟩,rfl,rfl,⟨rfl,rfl,rfl⟩,c⟩
end
section
variable{P:Pm}{x:Xk}{a:Ac}{fz:Bool}{σ:Ca}(D:Dy P x a fz σ)
include D
theorem Dy.low{r}(f:r<9){o}{N}{bc}{S}{T}{b}(H:HA P N bc S T b$ σ.set r o)(w:cn S):Dy P { x with N:=N,bc:=bc,S:=S,T:=T } a b$ σ.set r o:=⟨⟨H,⟨Wb ⋯ D.g.v.h0,Wb ⋯ D.g.v.h1,Wb ⋯ D.g.v.h3,Wb ⋯ D.g.v.h4⟩,Wb ⋯ D.g.h2,Wb ⋯ D.g.h5,Wb ⋯ D.g.h6,Wb (by have:=D.g.r;show r≠x.r;lia) D.g.i,D.g.r,D.g.ao⟩,D.sn.imp id λ⟨q,c,d,e⟩=>⟨q,c,d,Wb ⋯ e⟩,D.k,w⟩
theorem Dy.Oc b:Dy P x a b$ σ.set 6$ if b then Ϡ k1 else J k1:=D.low ⋯ (D.g.H.Oc b) D.w
theorem Dy.day M:Dy P { x with N:=M } a fz$ σ.set 2$ ϓ 9$ bw P M:=D.low ⋯ (D.g.H.day M) D.w
theorem Q7:JC [U 9] σ=Y (Z x.L) σ:=by
 have:=uF D.g.v;unfold JC be
 simp_all
end
section
variable{P:Pm}(po:P.Ok){x:Xk}{σ:Ca}{m:Sn}{G:D}{n:Nat}(D:Dy P x (gc 0 P.s m G$ Ii n) Ŷ σ)(hm:m.Ok$ P.u+P.v)(sm:Hn P.s m)(hn:n<=100)
include po D hm sm hn
theorem UR{l:Ph}(o:l.O P x n)(hL:0<=x.L/\x.L<=x.N)(W:x.N - x.L<=P.e):∃ i u a,Sr [U 1] σ=Y Ϛ a/\Dy P i (gc 0 P.s m G$ Ii n) Ŷ a/\u.O P i n/\i.N=x.N+1/\(0<=i.L/\i.L<=i.N)/\i.N - i.L<=P.e/\YF x i/\LK σ a/\(x.N - x.L=P.e/\u=l.nx/\i.L=x.N\/x.N - x.L<P.e/\u=l/\i.L=x.L):=by
 have he:=po.e;have h:=D.Oc A3;have R:Vc (Mb [16] "keepers") (ja 0) [BD$ U 1,L6] σ=Y (U 6) σ:=by
  have:=Zy D.g.H;simp[this]
 have Q:σ[6]?=BD (J k1):=D.g.H.h6;have sr:rP (Vc (Mb [16] "keepers")$ ja 0) [BD$ U 1,L6] σ=Y (vA k1) (σ.set 6$ Ϡ k1):=by
  show Lc _ gH _=_;rw[Ml,R,zd];unfold gH;simp only[Q]
 have h:Dy P x (gc 0 P.s m G$ Ii n) A3$ σ.set 6$ Ϡ k1:=h;have w:∀ (f:Xk) (b:Ca),YH [BD$ U 1,BD$ U 9] (σ.set 6$ Ϡ k1)=Y (Ϙ [BD$ U 1,BD$ U 9]) b->Dy P f (gc 0 P.s m G$ Ii n) A3 b->LK σ b->∃ a,Sr [U 1] σ=Y Ϛ a/\Dy P { f with N:=f.N+1 } (gc 0 P.s m G$ Ii n) Ŷ a/\LK σ a:=λf b V y E=>by
  have ό:wq (vA k1) (wc 1) YH 1001 0 [BD$ U 1,L6] (σ.set 6$ Ϡ k1)=Y (Ϙ [BD$ U 1,BD$ U 9]) b:=by
   rw[VC (k:=1000) (d:=U 9) rfl rfl];show (YH [BD$ U 1,BD$ U 9] _).bind _=_;rw[V,zd,Vn];exact WC (k:=999) rfl
  have th:=zJ (A:=k1) (A':=k1) R Q sr ό y.g.H.h6;have z:Dy P f (gc 0 P.s m G$ Ii n) Ŷ$ b.set 6$ J k1:=y.Oc Ŷ;have nb:=q7 z.g.H;refine⟨_,?_,z.day$ f.N+1,(E.set ⋯ _).set ⋯ _⟩;have p:=UC z.g.H;have ϊ:=λj=>jn z.g.H (x:="next_day") 1 vC j rfl;generalize b.set 6 (J k1)=K at *;generalize K.set 2 (ϓ 9$ bw P$ f.N+1)=a0 at *;unfold Sr AS Ee;simp[th,p,ϊ,nb,-rs]
 have ϋ:=zT h.g.H;have T:=λj=>jn h.g.H (x:="today") 1 Iy j rfl;have lk:=Q7 h;have S:=λj=>qk h.g.v (m:="looked") 1 JC j rfl;have mk:=λj=>qk h.g.v (m:="look") 2 vB j rfl;have p:=UC h.g.H;have M:=ype h.g.H;by_cases c:x.N - x.L=P.e
 ·obtain⟨d,f,b,e,y,o2,n2,X,s2,E⟩:=Η po h hm sm hn o W;obtain⟨a,F,B,C⟩:=w f b (by
   have I:decide (x.N - x.L ≥ P.e)=A3:=Ib ⋯;generalize σ.set 6 (Ϡ k1)=ύ at *;simp[p,ϋ,T,lk,S,M,I,mk,e]) y ((LK.rfl.set ⋯ _).trans E)
  refine⟨_,l.nx,a,F,B,?_,by show f.N+1=_;omega,by show 0<=f.L/\f.L<=f.N+1;omega,by show f.N+1 - f.L<=_;lia,⟨s2.r,s2.t,s2.q⟩,C,ϖ ⟨c,rfl,X⟩⟩;cases l<;>exact o2
 ·obtain⟨a,F,B,C⟩:=w x _ (by
   have I:decide (x.N - x.L ≥ P.e)=Ŷ:=Vb ⋯;generalize σ.set 6 (Ϡ k1)=ύ at *;simp[p,ϋ,T,lk,S,M,I]) h (LK.rfl.set ⋯ _)
  refine⟨_,l,a,F,B,?_,rfl,by show 0<=x.L/\x.L<=x.N+1;omega,by show x.N+1 - x.L<=_;omega,⟨rfl,rfl,rfl⟩,C,ϙ ⟨by omega,rfl,rfl⟩⟩;cases l<;>exact o
end
noncomputable def S0(P:Pm):Sn:=⟨0,P.u,P.v,[]⟩
structure du(P:Pm)(T0:List TK)(i:Nat)(x:Xk)(m:Sn)(G:D)(n:Nat)(ss:List Sn)(r3:Nat)(σ:Ca):Prop where
 d:Dy P x (gc 0 P.s m G (Ii n)) Ŷ σ
 o:Ph.hd.O P x n
 l:0<=x.L/\x.L<=x.N
 e:x.N - x.L<=P.e
 q:x.Q=[]
 t:Sub T0 x.T (8 * i)
 g:cl G=A3
 M:m.Ok (P.u+P.v)
 sm:Hn P.s m
 ni:n<=i
 mn:m.n=n
 ln:ss.length=n+1
 la:ss[n]?=BD m
 al:∀ (j:Nat) (s:Sn),ss[j]?=BD s->s.n=j/\s.Ok (P.u+P.v)/\(s=S0 P\/yo x.T [ϐ "agree",Z 0,Z P.s,s.D])
 li:σ[r3]?=BD (ϑ (ss.map Sn.D))
 h3:15<r3
def Dy.st{P}{x}{a}{b}(D:Dy P x a Ŷ b)(c:x.kc=Zm\/x.kc=Mq):St P x a b:=
 ⟨D.g.H,⟨D.g.v,D.g.h2,D.g.h5,D.g.h6,D.g.i,D.sn,D.g.ao,D.g.r,D.k.l,λb=>by rcases c with e|e<;>rw[e]<;>first|(unfold Zm;simp;done)|(unfold Mq;simp;done)|rfl⟩⟩
def St.dy{P}{x}{a}{b}(S:St P x a b)(k:eu x.K)(w:cn x.S):Dy P x a Ŷ b:=⟨⟨S.H,S.k.v,S.k.h2,S.k.h5,S.k.h6,S.k.i,S.k.r,S.k.o⟩,S.k.s,k,w⟩
def Dy.na{P}{x}{a}{fz}{c}(D:Dy P x a fz c){n}{l}(d:c[n]?=BD (ϑ l))(m:15<n) j:Dy P x a fz$ c.set n$ ϑ j:=
 ⟨⟨D.g.H.hi ⋯ _,D.g.v.set (ϙ$ by lia) _,Wb ⋯ D.g.h2,Wb ⋯ D.g.h5,Wb ⋯ D.g.h6,Wb (D.g.i.ne D.g.ao.o d rfl) D.g.i,D.g.r,D.g.ao⟩,D.sn.imp id λ⟨q,f,h,b⟩=>⟨q,f,h,Wb (λe=>by rw[<-e,d]at b;cases b) b⟩,D.k,D.w⟩
section
variable{P:Pm}(po:P.Ok){T0:List TK}(hT:T0.length<=100){i:Nat}(hi:i<20){x:Xk}{m:Sn}{G:D}{n:Nat}{ss:List Sn}{r3:Nat}{σ:Ca}(F:du P T0 i x m G n ss r3 σ)
include po hT hi F
theorem yfg C c:pE [BD$ U 1,BD$ Z P.s,C,BD$ U r3,BD$ Z c,BD m.D] σ=Y (Ϙ [BD$ U 1,BD$ Z P.s,C,BD$ U r3,BD$ Z c,BD m.D]) σ\/∃ s r j b h a,pE [BD$ U 1,BD$ Z P.s,C,BD$ U r3,BD$ Z c,BD m.D] σ=Y (Ϙ [BD$ U 1,BD$ Z P.s,C,BD$ U r3,BD$ Z c,BD m.D]) a/\Nx P x s (n+1) 8 σ a r j b h/\xq (P.u+P.v) P.s m s:=by
 have S:=F.d.st F.o.2;have ύ:=F.t.2;have I:=F.ni;have M:yQ (P.u+P.v) P.s m:=⟨F.M,F.sm,by have:=F.mn;omega⟩
 have y:P.u+P.v<=2000000000000:=by have:=po.u;have:=po.v;omega
 apply b_;intro z_;have g:=n4 po F.o.2 ⋯ F.g ⋯ F.mn F.q M S$ c / 3;obtain⟨r,j,b,h,a,z,N⟩:=Β po F.o.2 ⋯ F.g ⋯ F.mn F.q M S (c / 3);have E:=G8 po.s m F.sm.l (c / 3) σ;have B:=s0 m;apply z_;by_cases p:c % 3=2
 ·rcases g with⟨_,g⟩|⟨H,r,j,b,h,a,g,N⟩
  ·left;generalize m.D=w at *;simp[p,g]
  ·right;refine⟨_,r,j,b,h,a,?_,N,(ZS y po.s M (A:=Tf 4 (ow P.s m)$ c / 3) ?_).1⟩
   ·generalize m.D=w at *;simp[p,g]
   ·have:=zQ (k:=4) (c / 3) (lI po.s F.M).2;omega
 ·right;refine⟨_,r,j,b,h,a,?_,⟨N.S,N.c,⟨N.t.1,by have:=N.t.2;omega⟩,N.i,N.f⟩,(HZ y po.s M$ c / 3).1⟩;have e:(c % 3 == 2)=Ŷ:=by simpa using p
  generalize m.D=w,(nw P.s m$ c / 3).D=G at *;simp[e,E,B,z]
end
def Dy.app{P}{x}{a}{fz}{b}(D:Dy P x a fz b) j:Dy P x a fz$ b++j:=⟨⟨D.g.H.app j,D.g.v.app j,Di D.g.h2,Di D.g.h5,Di D.g.h6,D.g.i.app j,D.g.r,D.g.ao⟩,D.sn.app j,D.k,D.w⟩
def bV{P}(a:P.Ok):(S0 P).Ok$ P.u+P.v:=by
 have b:=a.u;have c:=a.v;exact⟨⟨⟨show 0<=0 by decide,show 0<=1000000 by decide⟩,⟨show 0<=P.u by lia,show P.u<=_ by lia⟩,⟨show 0<=P.v by lia,show P.v<=_ by lia⟩,(λt h=>by cases h),show 0<=6 by decide,oe⟩,by simp[S0,xr]⟩
def oZ{P}:Hn P.s$ S0 P:=⟨(λt h=>by cases h),oe,show 0<=6 by decide⟩
section
variable{P:Pm}(po:P.Ok){T0:List TK}(hT:T0.length<=100){i:Nat}(hi:i<20){x:Xk}{m:Sn}{G:D}{n:Nat}{ss:List Sn}{r3:Nat}{σ:Ca}(F:du P T0 i x m G n ss r3 σ)
include po hT hi F
theorem ν C c:∃ x' R A ϋ H p v,pE [BD$ U 1,BD$ Z P.s,C,BD$ U r3,BD$ Z c,BD m.D] σ=Y (Ϙ [BD$ U 1,BD$ Z P.s,C,BD$ U r3,BD$ Z c,BD m.D]) p/\ZK [BD$ U 1,BD$ Z P.s,C,BD$ U r3,BD$ Z c,BD m.D] p=Y (Ϙ [BD$ U 1,BD$ Z P.s,C,BD$ U r3,BD$ Z c,BD m.D]) v/\du P T0 (i+1) x' R A ϋ H r3 v:=by
 have S:=F.d.st F.o.2;rcases yfg po hT hi F C c with e|⟨s,r,X,A,W,p,e,N,z⟩
 ·refine⟨x,m,G,n,ss,σ,σ,e,?_,⟨F.d,F.o,F.l,F.e,F.q,⟨F.t.1,by have:=F.t.2;lia⟩,F.g,F.M,F.sm,by have:=F.ni;lia,F.mn,F.ln,F.la,F.al,F.li,F.h3⟩⟩;have u:=wH S (ρ:=[BD$ U 1,BD$ Z P.s,C,BD$ U r3,BD$ Z c,BD m.D]) (i:=0) ⋯;have B:rh m.D m.D σ=Y (ϒ Ŷ) σ:=Wt$ HI m;have u:_=Y m.D σ:=u;have ό:=F.h3;show Ug (eT$ Sa rh _$ ja 5) _ Sh _ σ=_;generalize Vc (Mb [10,11,12,13] "mine") _=E at *;simp[u,B]
 ·have ύ:=N.S.dy F.d.k F.d.w;have y:=N.f _ _ F.h3 F.li;have I:=F.ln;have ϊ:=F.ni;refine⟨_,s,A,n+1,ss++[s],p,_,e,?_,⟨(ύ.na y F.h3$ ss.map Sn.D++[s.D]),F.o,F.l,F.e,rfl,?_,N.c,z.hs,z.os,by lia,by have:=z.hn;have:=F.mn;lia,by simp[I],by rw[<-I];simp,?_,by rw[vc];exact Bm y,F.h3⟩⟩
  ·have u:=wH N.S (ρ:=[BD$ U 1,BD$ Z P.s,C,BD$ U r3,BD$ Z c,BD m.D]) (i:=0) ⋯;have B:rh s.D m.D p=Y (ϒ A3) p:=S4 (by have:=z.hn;lia) p;have u:_=Y s.D p:=u;have K:=zM (d:=s.D) y (by simp;lia);have T:=λL=>rM y lj L;show Ug (eT$ Sa rh _$ ja 5) (Vh$ Eu lj (ja 3)$ Ba _ Ua) Sh _ p=_;generalize Vc (Mb [10,11,12,13] "mine") _=E at *;simp[u,B,K,T]
  ·have:=F.t.trans N.t
   rwa [show 8 * (i+1)=8 * i+8 by lia]
  ·intro j V h;by_cases Q:j<ss.length
   ·rw[Xa Q]at h;obtain⟨a,b,c⟩:=F.al j V h;exact⟨a,b,c.imp id λc=>N.t.in c⟩
   ·have O:=(ba.mp h).1;have:j=ss.length:=by simp at O;lia
    subst this;simp at h;subst h;exact⟨by have:=z.hn;have:=F.mn;lia,z.hs,ϙ N.i⟩
end
section
variable{P:Pm}(po:P.Ok){T0:List TK}{i:Nat}(hi:i<50){x:Xk}{m:Sn}{G:D}{n:Nat}{ss:List Sn}{r3:Nat}{σ:Ca}(F:du P T0 i x m G n ss r3 σ)
include po hi F
theorem yfi C c y:∃ x' a,QL [BD$ U 1,BD$ Z P.s,C,BD$ U r3,BD$ Z c,y] σ=Y (Ϙ [BD$ U 1,BD$ Z P.s,C,BD$ U r3,BD$ Z c,y]) a/\du P T0 i x' m G n ss r3 a:=by
 by_cases k:c % 7=3
 ·have E:=F.ni;obtain⟨x',b,a,e,p,A,I,z,v,f,r,u⟩:=UR po F.d F.M F.sm ⋯ F.o F.l F.e;have B:b=.hd:=by rcases u with⟨_,c,_⟩|⟨_,c,_⟩<;>exact c
  subst B;refine⟨x',a,by simp[k,(λw=>sj F.d.g.H (x:="next_day") 1 Sr w rfl),e],⟨p,A,z,v,by rw[f.q];exact F.q,by rw[f.t];exact F.t,F.g,F.M,F.sm,F.ni,F.mn,F.ln,F.la,λj s h=>by rw[f.t];exact F.al j s h,r _ _ F.h3 F.li,F.h3⟩⟩
 ·have e:(c % 7 == 3)=Ŷ:=by simpa using k
  exact⟨x,σ,by simp[e],F⟩
end
section
variable{P:Pm}(po:P.Ok){T0:List TK}(hT:T0.length<=100)
include po hT
theorem nY(C:Option D)(a:Nat):∀ (f:dl) (i:Nat) (x:Xk) (m:Sn) (G:D) (n:Nat) (ss:List Sn) (σ:Ca) (k h:Option D),i+f.length<=20->du P T0 i x m G n ss a σ->∃ t p l r g e u v,Qj (wc 4) EF (f.map Z) [BD$ U 1,BD$ Z P.s,C,BD$ U a,k,h] σ=Y (Ϙ [BD$ U 1,BD$ Z P.s,C,BD$ U a,u,v]) e/\du P T0 (i+f.length) t p l r g a e
 |[],i,x,m,G,n,ss,σ,k,h,_,F=>⟨x,m,G,n,ss,σ,k,h,by rw[Df,lw],F⟩
 |c::f,i,x,m,G,n,ss,σ,k,h,ύ,F=>by
  rw[Pb]at ύ;obtain⟨S,Q,O,R,L,M,N,B,H,y⟩:=ν po hT ⋯ F C c;obtain⟨T,j,I,z⟩:=yfi po ⋯ y C c (BD m.D);obtain⟨t,p,l,r,g,e,u,v,K,w⟩:=nY C a f (i+1) _ _ _ _ _ j (BD$ Z c) (BD m.D) ⋯ z;refine⟨t,p,l,r,g,e,u,v,?_,by rw[Pb,show i+(f.length+1)=i+1+f.length by omega];exact w⟩;have q:=wH (F.d.st F.o.2) (ρ:=[BD$ U 1,BD$ Z P.s,C,BD$ U a,BD$ Z c,h]) (i:=0) ⋯;have A:UQ [BD$ U 1,BD$ Z P.s,C,BD$ U a,BD$ Z c,h] σ=Y (Ϙ [BD$ U 1,BD$ Z P.s,C,BD$ U a,BD$ Z c,BD m.D]) σ:=by
   have q:_=Y m.D σ:=q;show Ce 5 _ _ σ=_;generalize Vc (Mb [10,11,12,13] "mine") _=E at *;simp[q]
  have b:EF [BD$ U 1,BD$ Z P.s,C,BD$ U a,BD$ Z c,h] σ=Y (Ϙ [BD$ U 1,BD$ Z P.s,C,BD$ U a,BD$ Z c,BD m.D]) j:=by
   show zb UQ (zb pE$ zb ZK QL) _ σ=_;rw[ng,A,zd,sg,ng,B,zd,sg,ng,H,zd,sg,I]
  rw[gb,iu];simp only[Zb,qc];rw[b,zd,Vn,K]
theorem zfa{x}{G}{a}(ό:Dy P x (gc 0 P.s (S0 P) G$ Ii 0) Ŷ a)(o:Ph.hd.O P x 0)(l:x.L=0/\x.N=0)(q:x.Q=[])(t:x.T=T0)(z:cl G=A3)(b:dl)(H:b.length<=20):∃ x' p m u f c,ce [U 1,Z P.s,ώ$ b.map Z] a=Y (U a.length) c/\du P T0 b.length x' p m u f a.length c:=by
 have y:=(ba.mp ό.g.h6).1;have I:=po.e;have w:∀ (j:Nat) (s:Sn),[S0 P][j]?=BD s->s.n=j/\s.Ok _/\(s=S0 P\/yo x.T [ϐ "agree",Z 0,Z P.s,s.D]):=λj s h=>by
  match j,h with
  |0,h=>
   simp at h;subst h;exact⟨rfl,bV po,ϖ rfl⟩
  |j+1,h=>simp at h
 obtain⟨x',p,m,u,f,c,ύ,K,e,F⟩:=nY po hT (BD$ ώ$ b.map Z) a.length b 0 x (S0 P) G 0 [S0 P] (a++[ϑ [(S0 P).D]]) L6 L6 ⋯ ⟨ό.app _,o,by lia,by omega,q,⟨by rw[t];exact λk h=>h,by rw[t];omega⟩,z,bV po,oZ,by omega,rfl,rfl,rfl,w,by simp,y⟩;rw[Nat.zero_add]at F;refine⟨x',p,m,u,f,c,?_,F⟩;have r:=wH (ό.st o.2) (ρ:=[BD$ U 1,BD$ Z P.s,BD$ ώ$ b.map L4.D.int,L6,L6,L6]) (i:=0) ⋯;have r:_=Y (S0 P).D a:=r;unfold ce hX
 (try dsimp only);(try dsimp only);rw[av,kD]
 show Cq (zb (Ce 3$ Nr$ Ba _ Ua) (zb (Yj (kh$ ja 2) (wc 4) EF)$ Ui$ ja 3) [BD$ U 1,BD$ Z P.s,BD$ ώ$ b.map L4.D.int,L6,L6,L6] a)=_;generalize Vc (Mb [10,11,12,13] "mine") _=E at *;generalize EF=B,(S0 P).D=v at *;have e:Qj (wc 4) B (b.map L4.D.int) _ (a++[ϑ [v]])=_:=e;generalize b.map L4.D.int=C at *;have A:∀ (d:L4.D) (a:Ca),xD [d] a=Y (U a.length) (a++[ϑ [d]]):=λk k=>rfl;simp[r,A,e]
end
structure Bd(P:Pm)(ph:Ph)(n:Nat)(m:Sn)(G:D)(x:Xk)(σ:Ca):Prop where
 d:Dy P x (gc 0 P.s m G (Ii n)) Ŷ σ
 o:ph.O P x n
 l:0<=x.L/\x.L<=x.N
 e:x.N - x.L<=P.e
 M:m.Ok (P.u+P.v)
 sm:Hn P.s m
 hn:n<=50
def du.bd{P}{b}{i}{x}{m}{G}{n}{f}{c}{a}(F:du P b i x m G n f c a)(g:i<=50):Bd P .hd n m G x a:=⟨F.d,F.o,F.l,F.e,F.M,F.sm,by have:=F.ni;lia⟩
section
variable{P:Pm}(po:P.Ok){ph:Ph}{n:Nat}{m:Sn}{G:D}{x:Xk}{σ:Ca}(B:Bd P ph n m G x σ)
include po B
theorem Bd.nd:∃ c a b,Sr [U 1] σ=Y Ϛ b/\Bd P a n m G c b/\c.N=x.N+1/\YF x c/\LK σ b/\(x.N - x.L=P.e/\a=ph.nx/\c.L=x.N\/x.N - x.L<P.e/\a=ph/\c.L=x.L):=by
 have:=B.hn;obtain⟨c,a,b,e,f,p,k,j,i,q,g,h⟩:=UR po B.d B.M B.sm ⋯ B.o B.l B.e;exact⟨c,a,b,e,⟨f,p,j,i,B.M,B.sm,B.hn⟩,k,q,g,h⟩
end
section
variable{P:Pm}(po:P.Ok){ph:Ph}(hp:ph.nx=ph){n:Nat}{m:Sn}{G:D}{x0 x1 x2 x3 x4 x5 x6 x7 x9 x10 x11 x13:Option D}
include po hp
theorem bL:∀ (i:g') (x:Xk) (σ:Ca) (y:Option D),Bd P ph n m G x σ->∃ h a z,Qj (wc 12) lE i [x0,x1,x2,x3,x4,x5,x6,x7,BD$ U 1,x9,x10,x11,y,x13] σ=Y (Ϙ [x0,x1,x2,x3,x4,x5,x6,x7,BD$ U 1,x9,x10,x11,z,x13]) a/\Bd P ph n m G h a/\LK σ a/\YF x h
 |[],x,σ,y,B=>⟨x,σ,y,by rw[lw],B,LK.rfl,⟨rfl,rfl,rfl⟩⟩
 |d::i,x,σ,y,B=>by
  obtain⟨l,j,f,e,o,_,s1,u,c⟩:=B.nd po;have:j=ph:=by rcases c with⟨_,c,_⟩|⟨_,c,_⟩<;>simp[c,hp]
  rw[this]at o;obtain⟨h,a,z,w,p,s,k⟩:=bL i l f (BD d) o;refine⟨h,a,z,?_,p,u.trans s,⟨k.r.trans s1.r,k.t.trans s1.t,k.q.trans s1.q⟩⟩;have b:lE [x0,x1,x2,x3,x4,x5,x6,x7,BD$ U 1,x9,x10,x11,BD d,x13] σ=Y (Ϙ [x0,x1,x2,x3,x4,x5,x6,x7,BD$ U 1,x9,x10,x11,BD d,x13]) f:=by simp[(λv=>sj B.d.g.H (x:="next_day") 1 Sr v rfl),e]
  rw[iu];simp only[Zb,qc];rw[b,zd,Vn,w]
end
def Ű{p q}(d:0<=p/\p<=2)(e:q=0\/q=1){s:Sn}(h:gn s.n s.a s.b s.ts) c:Ie [Af p q s.D] c=Y (ϒ A3) c:=by
 unfold Sn.D Af Ie Fc;simp[(Wz h c),(λX=>NJ d c e (ϐ "agree") X)]
def RS P a:ib (PD P) (Z 2) a=Y (Z P.u) a:=by unfold PD Bq;split<;>simp
theorem nZ P a:ib (PD P) (Z 3) a=Y (Z P.v) a:=by unfold PD Bq;split<;>exact Lw$ Aq rfl
section
variable{P:Pm}(po:P.Ok){N:Int}{S:Sm}{T:List TK}{fz:Bool}{σ:Ca}(H:HA P N (HL P) S T fz σ){z:Sn}(hz:z.Ok$ P.u+P.v)(hi:z=S0 P\/yo T [ϐ "agree",Z 0,Z P.s,z.D])
include po H hz hi
theorem O8{b}(j:z=S0 P\/b=A3):Kf [U 2,Z 0,Z$ 1 - P.s,z.D,if b then Af 0 P.s z.D else Ϛ] σ=Y Ϛ (σ.set 3$ ϑ [LA P z N]):=by
 have I:=sC H;have M:=λi=>jn H (x:="check_pot") 2 bv i rfl;have K:=po.s;have ύ:uf [Z$ 1 - P.s] σ=Y Ϛ σ:=by
  unfold uf Fc;simp[(Ly (s:=1 - P.s) ⋯ σ)]
 have d:=CH H;have l:=eI H;have f:=UF H;have k:=zD po;have y:=RS P;have B:=nZ P;have p4:=XQ P;have V:=yP P;have T:we [z.D,Z$ P.u+P.v] σ=Y (ϒ A3) σ:=by
  have:=aL hz.st σ;rw[hz.w]at this;exact this
 have n:Kj [Z P.u,Z P.v] σ=Y (S0 P).D σ:=FZ (by have:=po.u;omega) (by have:=po.v;omega) σ;obtain⟨e,a,_⟩:=RW σ 8 z.D (S0 P).D (HI z) (HI$ S0 P);have m:Zh z.D (S0 P).D σ=Y (ϒ e) σ:=AG a;have g:z=S0 P->e=A3:=λh=>by
  have:=NE (σ:=σ) 8 z.D$ HI z;rw[<-h,this]at a;injection a with a;exact a.symm
 have t:=JL (1 - P.s) σ;rw[show (1 - (1 - P.s):Int)=P.s by omega]at t;have G:Wk [Z 0,Z$ 1 - P.s,z.D,Af 0 P.s z.D] σ=Y (ϒ A3) σ:=by
  have ϋ:=Ű (p:=0) (q:=P.s) ⋯ K hz.st σ;have q:Zh (Af 0 P.s z.D) (Ϗ [ϐ "agree",Z 0,Z P.s,z.D]) σ=Y (ϒ A3) σ:=ZF (by have:=MO 4 z;simp[pl,Af,this]);unfold Wk Fc;dsimp only;generalize Af 0 P.s z.D=A,z.D=ϊ at *;simp[ϋ,t,q]
 have r:lG (sy [(6,A3),(7,Ŷ),(8,Ŷ),(9,Ŷ),(11,Ŷ),(12,Ŷ),(13,Ŷ),(14,Ŷ),(15,Ŷ),(16,Ŷ)]) (HL P) σ=Y (ϒ A3) σ:=Ý (Pn rfl) rfl;have O:QC [U 2,Z 0,Z$ 1 - P.s,z.D,if b then Af 0 P.s z.D else Ϛ] σ=Y (ϒ A3) σ:=by
  unfold QC be;dsimp only;generalize Af 0 P.s z.D=A,HL P=C,PL P=E,PD P=Q at *;by_cases c:z=S0 P
  ·have g:=g c;subst g;generalize z.D=ϊ,(S0 P).D=F at *;simp[d,l,r,f,k,y,B,n,m]
  ·have j:=j.resolve_left c;subst j;generalize z.D=ϊ,(S0 P).D=F at *;cases e<;>simp[d,l,r,f,k,y,B,n,m,G]
 have R:=λi=>jn H (x:="may_lie") 5 QC i rfl;have mk:=zwy P z N σ;have S:=gW H.h3;unfold Kf PZ;generalize (if b then Af 0 P.s z.D else Ϛ)=A at *;generalize LA P z N=L,z.D=ϊ,PL P=E,PD P=Q,P.u+P.v=W,HL P=C,1 - P.s=o at *;simp[I,M,ύ,d,(RF H),f,k,p4,V,T,O,R,mk,S,-A9]
theorem B7:OC [U 1,Z 0,Z$ 1 - P.s,z.D] σ=Y Ϛ (σ.set 3$ ϑ [LA P z N]):=by
 obtain⟨k,f⟩:=hO 0 P.s z;have c:=mT po H f ⋯$ Ĭ po H;rw[Bool.or_false]at c;have i:z=S0 P\/decide (k∈T)=A3:=hi.imp id λ⟨o,e,hm⟩=>by
  rw[f]at e;injection e with e;rw[e];exact Ib hm
 have bl:=O8 po H hz hi i;have mk:=λa=>sj H (x:="check_side_of_band") 3 vF a rfl;have l:=λa=>sj H (x:="is_side_of_band") 3 Hx a rfl;have j:=λa=>sj H (x:="band_can") 2 Kw a rfl;have m:=qU po H (s:=1 - P.s) rfl;have h:vF [U 1,Z 0,Z$ 1 - P.s] σ=Y Ϛ σ:=by
  unfold vF be;simp[l,m]
 have st:Kh [z.D] σ=Y (ϒ A3) σ:=Wz hz.st σ;have g:=JL (1 - P.s) σ;rw[show (1 - (1 - P.s):Int)=P.s by omega]at g;have p:=UC H;have d:Ϗ [ϐ "agree",Z 0,Z P.s,z.D]=Af 0 P.s z.D:=rfl;rw[d]at c;unfold OC Ee;dsimp only;generalize Af 0 P.s z.D=A at *;generalize z.D=ϊ,LA P z N=n at *;generalize decide (k∈T)=b at *;cases b<;>simp at bl<;>simp[mk,h,st,g,d,j,c,p,(λa=>jn H (x:="lay") 5 Kf a rfl),bl]
end
theorem T7{c}{g}{n}{b}{a}(h:c b a=Y A3 a):Fx c g (n+1) b a=(g b a).bind (Kt$ Fx c g n):=by
 unfold Fx;rw[xk,h,Ym,ia rfl];rfl
theorem F1{c}{g}{n}{b}{a}(h:c b a=Y Ŷ a):Fx c g (n+1) b a=Y (Ϙ b) a:=by
 unfold Fx;rw[xk,h,Ym];rfl
def Ł{src}{nx}{tg}{body}{ρ b c}{a}{d}(h:src ρ a=Y nx a)(e:nx 0 a=BD (BD d))(i:tg d ρ=BD b)(g:body b a=Y (Ϙ c) a)(f:nx 1 a=BD L6):rm src tg body ρ a=Y (Ϙ c) a:=by
 rw[rs,h,Ym];show wq nx tg body 1001 0 ρ a=_;rw[VC (k:=1000) e i,g,zd,Vn];exact WC (k:=999) f
def Dy.JD{P}{x}{a}{fz}{c}(ό:Dy P x a fz c) b:Dy P { x with bc:=b } a fz$ c.set 3$ ϑ [b]:=ό.low ⋯ (ό.g.H.JD b) ό.w
def Dy.jC{P}{x}{a}{fz}{b}(ό:Dy P x a fz b){ϋ}(w:cn ϋ):Dy P { x with S:=ϋ } a fz$ b.set 5$ J$ sK ϋ:=ό.low ⋯ (ό.g.H.jC ϋ) w
section
variable{P:Pm}(po:P.Ok){x:Xk}{a:Ac}{σ:Ca}(ό:Dy P x a Ŷ σ)
include ό
theorem U9:Ew [U 1] σ=Y (U 2) σ:=by
 have p:=UC ό.g.H;have f:=Lf ό.g.H.h2;unfold Ew be;simp[p,f]
theorem uI{t}(h:Jn [U 2,Z 0] σ=Y t σ){ρ}(e:ja 8 ρ σ=Y (U 1) σ):Qd [(9,Jn)] 2 "told" (Qd [(16,Ew)] 1 "book" (ja 8) Ua) (Ba (eC$ Z 0) Ua) ρ σ=Y t σ:=by
 have b:=U9 ό;have c:=λa=>sj ό.g.H (x:="book") 1 Ew a rfl;have d:=λa=>jn ό.g.H (x:="told") 2 Jn a rfl;simp[e,b,c,d,h]
theorem n5{w}(b:0<=w/\w<=59)(d:yo x.T [ϐ "word",Z w]):∃ ϋ,eD [U 1,Z 0,Z w] σ=Y Ϛ (σ.set 5$ J$ sK ϋ)/\cn ϋ:=by
 obtain⟨k,e,f⟩:=d;have m:NC (Ϗ [ϐ "word",Z w]) (U 8) σ=Y (ϒ A3) σ:=by
  unfold NC;simp[e,ό.g.H.h8,f]
 have c:Kw [U 1,Ϗ [ϐ "word",Z w]] σ=Y (ϒ A3) σ:=by
  unfold Kw be;dsimp only;generalize Ϗ _=L at *;simp[(uO ό.g.H),m]
 have n:=nS ό.g.H (w:=w) b (by have:=ό.w.l;omega);have i:=λa=>sj ό.g.H (x:="band_can") 2 Kw a rfl;have j:=λa=>jn ό.g.H (x:="show") 3 Uy a rfl;have p:=UC ό.g.H;refine⟨if w∈x.S.map (·.1)then x.S else x.S++[(w,x.N)],?_,?_⟩
 ·unfold eD Ee;dsimp only;generalize σ.set 5 _=o at *;simp[i,c,j,p,n]
 ·by_cases h:w∈x.S.map (·.1)
  ·rw[ia h];exact ό.w
  ·rw[qa h];exact ό.w.add b h _
end
section
variable{P:Pm}(po:P.Ok){n:Nat}{m:Sn}{G:D}{x0 x1 x2 x4 x5 x6 x7 x9 x10 x11 x12:Option D}
noncomputable def Bs(P:Pm)(x0 x1 x2 x4 x5 x6 x7 x9 x10 x11 x12:Option D)(k:Int):Ev:=[x0,x1,x2,BD$ Z P.e,x4,x5,x6,x7,BD$ U 1,x9,x10,x11,x12,BD$ Z k]
def aM:Ev->M Bool:=Pq (eT$ Sa Zh (Sa ib (Qd [(9,Jn)] 2 "told" (Qd [(16,Ew)] 1 "book" (ja 8) Ua)$ Ba (eC$ Z 0) Ua)$ eC$ Z 0)$ eC$ ϐ "laid")$ eT$ Sa oLt (ja 13)$ Sa lh (ja 3)$ eC$ Z 1
def F7{x}{a}{c b}(ό:Dy P x a Ŷ c)(e:Sr [U 1] c=Y Ϛ b) k:nL (Bs P x0 x1 x2 x4 x5 x6 x7 x9 x10 x11 x12 k) c=Y (Ϙ$ Bs P x0 x1 x2 x4 x5 x6 x7 x9 x10 x11 x12$ k+1) b:=by
 have f:=λd=>sj ό.g.H (x:="next_day") 1 Sr d rfl;unfold Bs;simp[f,e]
include po
theorem IZ{z:Sn}{d:Int}:∀ (f:Nat) (x:Xk) (a:Ca) (i:Ph) (k:Int),(i=.tk\/i=.la z d/\x.N=d+k/\k<=P.e)->0<=k->P.e+2<=k+f->0<f->Bd P i n m G x a->∃ s b p,Fx aM nL f (Bs P x0 x1 x2 x4 x5 x6 x7 x9 x10 x11 x12 k) a=Y (Ϙ$ Bs P x0 x1 x2 x4 x5 x6 x7 x9 x10 x11 x12 p) b/\Bd P .tk n m G s b
 |0,_,_,_,_,_,_,_,h,_=>(qd 0 h).elim
 |f+1,x,a,i,k,C,M,hf,_,B=>by
  rcases C with rfl|⟨rfl,L,A⟩
  ·have t:=uI B.d (qP B.d.g.H B.o.1) (ρ:=Bs P x0 x1 x2 x4 x5 x6 x7 x9 x10 x11 x12 k) (by unfold Bs;simp);have l:∀ a,ib (Ek P) (Z 0) a=Y (ϐ "taken") a:=λa=>by unfold Ek;simp
   have j:(("taken" : Str) == "laid")=Ŷ:=by decide
   refine⟨x,a,k,F1 ?_,B⟩;unfold aM;generalize Qd [(9,Jn)] 2 "told" _ _=E,Ek P=T at *;simp[t,l,j]
  ·have t:=uI B.d (aV B.d.g.H B.o.1) (ρ:=Bs P x0 x1 x2 x4 x5 x6 x7 x9 x10 x11 x12 k) (by unfold Bs;simp);have l:∀ a,ib (Kn P z d) (Z 0) a=Y (ϐ "laid") a:=λa=>by unfold Kn;simp
   have j:(("laid" : Str) == "laid")=A3:=by decide
   have lt:decide (k<P.e+1)=A3:=Ib ⋯;obtain⟨u,q,v,e,y,O,s1,I,c⟩:=B.nd po;have K:=B.o.2.2.2.2;obtain⟨s,b,p,D,w⟩:=IZ (z:=z) (d:=d) f u v q (k+1) (by
    rcases c with⟨_,c,_⟩|⟨ύ,c,_⟩
    ·exact ϖ c
    ·exact ϙ ⟨c,by omega,by omega⟩) ⋯ ⋯ ⋯ y
   refine⟨s,b,p,?_,w⟩;rw[T7 (by
    unfold aM;have r:ja 13 (Bs P x0 x1 x2 x4 x5 x6 x7 x9 x10 x11 x12 k) a=Y (Z k) a:=by unfold Bs;simp
    have F:ja 3 (Bs P x0 x1 x2 x4 x5 x6 x7 x9 x10 x11 x12 k) a=Y (Z P.e) a:=by unfold Bs;simp
    generalize Qd [(9,Jn)] 2 "told" _ _=E,Kn P z d=T,Bs P x0 x1 x2 x4 x5 x6 x7 x9 x10 x11 x12 k=R at *;simp[t,l,j,r,F,lt]),F7 B.d e,zd,Vn,D]
end
section
variable{P:Pm}(po:P.Ok){n:Nat}{m:Sn}{G:D}{x:Xk}{σ:Ca}(B:Bd P .tk n m G x σ)
include po B
theorem ydn:AC [U 2,Z 0] σ=Y (Ϗ [Z$ if P.s=0 then 0+(P.u+P.v)else 0,Z$ if P.s=0 then 0 else 0+(P.u+P.v),Z 0]) σ:=by
 have H:=B.d.g.H;rw[B.o.1]at H;have b:∀ σ,Mb [7,8,10,11,12,13] "side" (TN P) σ=Y _ σ:=λσ=>Ih (Pn rfl) rfl rfl;have c:∀ σ,Mb [5,6,7,8] "whole" (TN P) σ=Y _ σ:=λσ=>Ih (Pn rfl) rfl rfl;have f:=λσ=>LJ po.s σ 0 0$ P.u+P.v;have h:∀ a,oj [(6,AO),(7,AK),(8,FF)] 3 "comes" a (TN P) σ=(a σ).bind _:=λa=>Tn (Pn rfl) rfl rfl;have i:FF [TN P,Z x.N,U 5] σ=Y (Ϗ [Z$ if P.s=0 then 0+(P.u+P.v)else 0,Z$ if P.s=0 then 0 else 0+(P.u+P.v),Z 0]) σ:=by
  unfold FF be;dsimp only;generalize TN P=T,P.u+P.v=W,P.s=s at *;generalize _=A,_=C at *;simp[b,c,f]
 unfold AC be;dsimp only;generalize TN P=T,P.u+P.v=W,P.s=s at *;generalize _=A,(if s=0 then 0 else 0+W)=C at *;simp[(sC H),(λe=>jn H (x:="check_pot") 2 bv e rfl),(CH H),(eI H),(RF H),(RH H),(UK H),h,i]
theorem eL{h}(A:h=1\/h=2):sw [U 1,Z h] σ=Y (Z$ if h=1 then P.u+P.v else 0) σ:=by
 have H:=B.d.g.H;have q:=ydn po B;have t:=UF H;have F:=λn=>jn H (x:="due_of") 2 AC n rfl;have C:uh [Z h] σ=Y (ϒ A3) σ:=by
  have:=bt (i:=h) (a:=0) (b:=3) ⋯ σ;unfold uh Fc;simp[this]
 have o:∀ σ,ib (PD P) (Z 0) σ=Y (Z$ 1+P.s) σ:=λσ=>by
  rcases po.s with e|e
  ·have:=XH po σ;rw[e]at this ⊢;exact this
  ·have:=XJ po (i:=0) ⋯ σ;rw[e];exact this
 have p:∀ σ,ib (PD P) (Z 1) σ=Y (Z$ 2 - P.s) σ:=λσ=>by
  rcases po.s with e|e
  ·have:=XJ po (i:=1) ⋯ σ;rw[e];exact this
  ·have:=XH po σ;rw[e]at this ⊢;exact this
 have r:∀ (f:Ev->M D) (c j k l m:Option D) (x:D) (σ:Ca),Hw (λa b=>a+b) 2 f [c,j,BD x,k,l,m] σ=fk [c,j,BD x,k,l,m] (EC (λa b=>a+b) 2 [c,j,BD x,k,l,m] x) (f [c,j,BD x,k,l,m] σ):=λf c j k l m x σ=>yK rfl;have w:gG [U 2,Z h] σ=Y (Z$ if h=1 then P.u+P.v else 0) σ:=by
  have z:mQ [BD$ U 2,BD$ Z h,BD$ Z 0,BD$ Z 0,BD$ PD P,L6] σ=Y (Ϙ [BD$ U 2,BD$ Z h,BD$ Z$ if h=1 then P.u+P.v else 0,BD$ Z 0,BD$ PD P,BD$ Z 1]) σ:=by
   rcases po.s with e|e<;>rw[e]at o p q<;>rcases A with rfl|rfl<;>(generalize PD P=Q,P.u+P.v=W at *;simp[o,p,q,F,r])
  have y:Xy (PL P) σ=Y (Ts$ PL P) σ:=UN (xs:=[PD P]) rfl;have G:sx (Vc (Mb [9,14,16] "pots")$ ja 0) [BD$ U 2,BD$ Z h,BD$ Z 0,L6,L6,L6] σ=Y (Ts$ PL P) σ:=by
   generalize PL P=I at *;simp[t,y]
  have E:=Ł (src:=sx$ Vc (Mb [9,14,16] "pots")$ ja 0) (tg:=Hi 2$ Oe (wc 3)$ Oe (wc 4) Qi) (body:=mQ) (ρ:=[BD$ U 2,BD$ Z h,BD$ Z 0,L6,L6,L6]) (d:=Ϗ [Z 0,PD P]) G (BN (x:=PL P) (xs:=[PD P]) rfl rfl) rfl z$ LL (x:=PL P) (xs:=[PD P]) rfl;unfold gG xT be;dsimp only;generalize PD P=Q,(if h=1 then P.u+P.v else 0)=R at *;simp[C,E,-rs]
 unfold sw be;dsimp only;generalize (if h=1 then P.u+P.v else 0)=R at *;simp[(UC H),(λn=>jn H (x:="coin_of") 2 gG n rfl),w]
theorem yln:px [U 9] σ=Y (Z$ P.u+P.v) σ:=by
 have ό:=B.d;have k:=DR ό.g.v ό.k.l ό.sn ό.g.i ό.g.ao.o (λa i=>by rw[B.o.2];exact wL po i ό.g.ao.o B.M) ό.g.h2$ v1 (m:=Vs P) po.s ⟨(λt h=>by cases h),oe,show 0<=6 by decide⟩ _;have e:wD (vw P x) ⟨(gc 0 P.s m G$ Ii n).q,x.V,[Vs P]⟩=P.u+P.v:=by
  show ow P.s _+Hs _ x.V []=_;unfold ow Vs Hs
  simp_all
 simp_all
end
noncomputable def Og(a:dl)(k:Nat):Int:=a.getD k 0
def WB a k(c:0<=k) b:ic [.Zi a,Z k] b=Y (Z$ Og a k.toNat) b:=by
 unfold ic Og Fc;by_cases h:k<a.length
 ·simp[h,ĝ c h]
 ·have e:a.length<=k.toNat:=by lia
  simp[h,Xi e]
def vP{k}(e:0<=k)(g:k<=1000) d a f{c}{b}(h:f c b=Y (Z k) b):Yj (Gv f) d a c b=Qj d a (Oq k.toNat) c b:=by
 have:dB _ b=Y (.seq$ Oq k.toNat) b:=GS ⋯ ⋯
 simp_all
structure Uq where
 (ns cs:dl)
 c0:Int
 y:Option D
section
variable{P:Pm}(po:P.Ok){n:Nat}{m:Sn}{G:D}{x:Xk}{σ:Ca}(q:Uq)(x10 x11 x12 x13:Option D)
noncomputable def uE(P:Pm)(q:Uq)(x10 x11 x12 x13:Option D):Ev:=[BD$ .Zi q.ns,BD$ Z q.c0,BD$ Z P.s,BD$ Z P.e,BD$ Ϗ [Z P.u,Z P.v],BD$ PD P,BD$ U 0,q.y,BD$ U 1,BD$ ώ$ q.cs.map Z,x10,x11,x12,x13]
include po
theorem Ş{e}{i}{c}{a}(F:du P e i x m G n c a σ)(t:i<=50):yM (uE P q (BD$ U a) x11 x12 x13) σ=Y (Ϙ$ uE P q (BD$ U a) x11 x12 x13) σ:=by
 have S:=F.d.st F.o.2;have g:∀ x σ,Dq [x] σ=Y (ϐ "calm") σ:=λx σ=>by unfold Dq be;simp
 have st:Mb [10,11,12,13] "strikes" (U x.r) σ=Y (ώ$ Ii n) σ:=ZC S.k.i S.k.o.o;have h:wk [U a] σ=Y (Z$ n+1) σ:=by
  unfold wk;have:af σ a=BD (c.map Sn.D):=by unfold af;rw[F.li]
  simp[zi,this,F.ln]
 have u:=F.ni;have j:MC (Z n) σ=Y (ώ$ Ii n) σ:=by
  rw[zi5 _ ⋯ ⋯];rfl
 have p:rh _ (ώ _) σ=Y _ σ:=Wt (by
  have:∀ d∈Ii n,pl 7 d=A3:=λd hd=>by obtain⟨i,_,rfl⟩:=La.mp hd;rfl
  simpa [pl]using this)
 have f:rh (ϐ "calm") (ϐ "calm") σ=Y (ϒ Ŷ) σ:=Wt rfl;unfold uE;generalize Ii n=s at *;simp[(λb=>sj S.H (x:="keeper") 2 Gq b rfl),(II S.H S.k.v.h0),(λb=>qk S.k.v (m:="account") 2 jt b rfl),(vV S),(Kx (l:=[(11,Dq),(12,Fv),(13,Lz)]) (m:="word") S.k.i rfl rfl rfl 1),g,f,st,h,j,p]
theorem ä{e}{i}{c}{a}(F:du P e i x m G n c a σ):XP (uE P q (BD$ U a) x11 x12 x13) σ=if n=0 then Y (.rt$ ϒ A3) σ else Y (Ϙ$ uE P q (BD$ U a) x11 x12 x13) σ:=by
 have t:=uI F.d (XW F.d.g.H F.o.1) (ρ:=uE P q (BD$ U a) x11 x12 x13) (by rfl);have f:wk [U a] σ=Y (Z$ n+1) σ:=by
  unfold wk;have:af σ a=BD (c.map Sn.D):=by unfold af;rw[F.li]
  simp[zi,this,F.ln]
 have j:Zh Mq (Ϗ [ϐ "held"]) σ=Y _ σ:=ZF rfl;have b:ja 10 (uE P q (BD$ U a) x11 x12 x13) σ=Y (U a) σ:=by unfold uE;simp
 by_cases h:n=0
 ·subst h
  simp_all
 ·have lt:decide ((n:Int)+1<2)=Ŷ:=Vb ⋯;simp[b,f,lt,h]
omit po in
theorem X7:eM (uE P q x10 x11 x12 x13) σ=Y (Ϙ$ uE P q x10 (BD$ Z$ P.u+P.v) x12 x13) σ:=by
 unfold uE;simp
theorem B6{b}(f:b.nx=b)(B:Bd P b n m G x σ):∃ c a z,TM (uE P q x10 x11 x12 x13) σ=Y (Ϙ$ uE P q x10 x11 z x13) a/\Bd P b n m G c a/\LK σ a/\YF x c:=by
 obtain⟨c,a,z,e,d,L,s⟩:=bL po f (x3:=BD _) (x5:=BD _) (x7:=q.y) (x10:=x10) (x11:=x11) (x13:=x13) _ x σ x12 B;refine⟨c,a,z,?_,d,L,s⟩;show Yj _ _ lE _ σ=_;rw[vP (Gg (Og q.ns 3)$ show (40:Int)≠0 by decide) ⋯ _ _ _ (by unfold uE;simp[(WB q.ns 3 _ σ)])];exact e
theorem U7{b}(f:b.nx=b)(B:Bd P b n m G x σ):∃ c a z,aP (uE P q x10 x11 x12 x13) σ=Y (Ϙ$ uE P q x10 x11 z x13) a/\Bd P b n m G c a:=by
 obtain⟨c,a,z,e,d,L,s⟩:=bL po f (x4:=BD _) (x5:=BD$ PD P) (x7:=q.y) (x10:=x10) (x11:=x11) (x13:=x13) (Oq (Og q.ns 2 % 30).toNat) x σ x12 B;refine⟨c,a,z,?_,d⟩;have g:=Jk (Og q.ns 2) (show (0:Int)<30 by decide);show Yj (Gv _) _ lE _ σ=_;rw[vP (Gg (Og q.ns 2)$ show (30:Int)≠0 by decide) ⋯ _ _ _ (by unfold uE;simp[(WB q.ns 2 ⋯ σ)])];exact e
theorem yle{b:List Sn}{a}(B:Bd P .hd n m G x σ)(Q:0<n)(F:b.length=n+1)(y:∀ (j:Nat) s,b[j]?=BD s->s.n=j/\s.Ok (P.u+P.v)/\(s=S0 P\/yo x.T [ϐ "agree",Z 0,Z P.s,s.D]))(p:σ[a]?=BD (ϑ$ b.map Sn.D)):∃ z f,EQ (uE P q (BD$ U a) x11 x12 x13) σ=Y (Ϙ$ uE P q (BD$ U a) x11 x12 x13) f/\Bd P (.la z x.N) n m G { x with bc:=LA P z x.N } f:=by
 apply b_;intro z_;have h:=Gg (Og q.ns 3 / 40) (show (n:Int)≠0 by lia);have O:=Jk (Og q.ns 3 / 40) (show (0:Int)<n by omega);obtain⟨z,k⟩:∃ z,b[(Og q.ns 3 / 40 % n).toNat]?=BD z:=⟨_,Va ⋯⟩
 apply z_;apply b_;intro z_;obtain⟨K,t,w⟩:=y _ _ k;have H:=B.d.g.H;rw[B.o.1]at H;have C:=B7 po H t w;have r:=B.d.JD$ LA P z x.N;apply z_;refine⟨z,_,?_,⟨r,⟨rfl,B.o.2,by omega,by omega,B.l.2⟩,B.l,B.e,B.M,B.sm,B.hn⟩⟩;have lo:wk [U a] σ=Y (Z$ n+1) σ:=by
  unfold wk;have:af σ a=BD (b.map Sn.D):=by unfold af;rw[p]
  simp[zi,this,F]
 have E:ib (U a) (Z$ Og q.ns 3 / 40 % n) σ=Y z.D σ:=by
  have:=OL (σ:=σ) (i:=(Og q.ns 3 / 40 % n).toNat) p (d:=z.D) (by rw[Na,k];rfl)
  rwa [Int.toNat_of_nonneg h]at this
 have I:km (Z$ Og q.ns 3 / 40) (Z n) σ=Y (Z$ Og q.ns 3 / 40 % n) σ:=FQ _ _ ⋯;have c:=WB q.ns 3 ⋯ σ;generalize LA P z x.N=L at *;generalize z.D=ϊ,Og q.ns 3 / 40 % n=ύ at *;unfold uE;simp[c,lo,I,E,(λA=>sj H (x:="lay") 4 OC A rfl),C]
theorem Ŗ{z}{d}(B:Bd P (.la z d) n m G x σ)(c:∀ w:Int,0<=w/\w<=14->yo x.T [ϐ "word",Z$ 1+2 * w]):∃ ϋ a,cP (uE P q x10 x11 x12 x13) σ=Y (Ϙ$ uE P q x10 x11 x12 x13) a/\Bd P (.la z d) n m G { x with S:=ϋ } a:=by
 obtain⟨ϋ,e,w⟩:=n5 B.d (w:=1+2 * (q.c0 / 40 % 15)) ⋯ (c _$ by lia);refine⟨ϋ,_,?_,⟨B.d.jC w,B.o,B.l,B.e,B.M,B.sm,B.hn⟩⟩;have f:bH _ _ σ=Y (Z$ 2 * (q.c0 / 40 % 15)) σ:=Ď ⋯ ⋯;unfold uE;simp[(λb=>sj B.d.g.H (x:="show") 3 eD b rfl),f,e]
theorem ç{z}{d}(B:Bd P (.la z d) n m G x σ)(f:x.N=d):∃ b a k,cO (uE P q x10 x11 x12$ BD$ Z 0) σ=Y (Ϙ$ uE P q x10 x11 x12$ BD$ Z k) a/\Bd P .tk n m G b a:=by
 have g:=po.e;obtain⟨b,a,k,e,c⟩:=IZ po (x7:=q.y) (x10:=x10) (x11:=x11) (x12:=x12) 100 x σ _ 0 (ϙ ⟨rfl,by lia,by lia⟩) ⋯ ⋯ ⋯ B;exact⟨b,a,k,e,c⟩
theorem E2(B:Bd P .tk n m G x σ):vM (uE P q x10 (BD$ Z$ P.u+P.v) x12 x13) σ=Y (Ϙ$ uE P q x10 (BD$ Z$ P.u+P.v) x12 x13) σ:=by
 have t:=uI B.d (qP B.d.g.H B.o.1) (ρ:=uE P q x10 (BD$ Z$ P.u+P.v) x12 x13) (by rfl);have b:=eL po B (h:=1) ⋯;have c:=eL po B (h:=2) ⋯;rw[ia rfl]at b;rw[qa ⋯]at c;have f:rh (Ek P) (Ϗ [ϐ "taken",Z P.s]) σ=Y _ σ:=Wt rfl;have j:ja 8 (uE P q x10 (BD$ Z$ P.u+P.v) x12 x13) σ=Y (U 1) σ:=by unfold uE;simp
 have i:ja 2 (uE P q x10 (BD$ Z$ P.u+P.v) x12 x13) σ=Y (Z P.s) σ:=by unfold uE;simp
 have a:ja 11 (uE P q x10 (BD$ Z$ P.u+P.v) x12 x13) σ=Y (Z$ P.u+P.v) σ:=by unfold uE;simp
 show Ug _ Xl Sh _ σ=_;generalize Qd [(9,Jn)] 2 "told" _ _=E,Ek P=T,P.u+P.v=W at *;simp[t,i,f,j,(λe=>sj B.d.g.H (x:="coin") 2 sw e rfl),b,a,c]
theorem g9(B:Bd P .tk n m G x σ):zK (uE P q x10 (BD$ Z$ P.u+P.v) x12 x13) σ=Y (.rt$ ϒ A3) σ:=by
 unfold uE;simp[(λa=>sj B.d.g.H (x:="coin") 2 sw a rfl),(eL po B _),(λa=>sj B.d.g.H (x:="keeper") 2 Gq a rfl),(II B.d.g.H B.d.g.v.h0),(λa=>qk B.d.g.v (m:="worth") 1 px a rfl),(yln po B)]
end
def nU{a L:Ca} i:(a++L)[a.length+i]?=L[i]?:=by
 rw[pc ⋯,show a.length+i - a.length=i by omega]
def bN{a L:Ca}:(a++L)[a.length]?=L[0]?:=nU 0
def tY{a L:Ca} i x:(a++L).set (a.length+i) x=a++L.set i x:=by
 rw[Rf _ _ ⋯,show a.length+i - a.length=i by omega]
def tR{a L:Ca} x:(a++L).set a.length x=a++L.set 0 x:=tY 0 x
section
variable{σ0:Ca}
def GT{ρ}{r}{b}{c}{f}{d}{a}(h:b.contains c=A3)(g:Nat.ble (a.length+1) 1000=A3):iy ρ b f d (U σ0.length) (σ0++ϓ c a::r)=Y (Ϙ ρ) (σ0++ϓ c (Mh f d a)::r):=by
 have e:bz b f d (U σ0.length) (σ0++ϓ c a::r)=Y () (σ0++ϓ c (Mh f d a)::r):=by
  have:(σ0++ϓ c a::r)[σ0.length]?=BD (ϓ c a):=bN;unfold bz;simp only[this];rw[ia (by rw[h];simpa using (show a.length<1000 from Vf g)),tR];rfl
 unfold iy;rw[e]
def CD{d}{c}{f}{b}{r}{a}{k}(h:d.contains c=A3)(i:Nat.ble (b.length+1) 1000=A3)(j:a.length+1=k):Uk d f Rp (ja 0) (BD (U σ0.length)::r) (σ0++ϓ c b::a)=Y (Ϙ$ BD (U σ0.length)::r) (σ0++ϓ c (Mh f (U$ σ0.length+k) b)::(a++[J []])):=by
 rw[qT,ZZ,Ym,cY,Bw,Ym];have e:(σ0++ϓ c b::a).length=σ0.length+k:=by rw[Ic,Pb];omega
 have g:(σ0++ϓ c b::a)++[J []]=σ0++ϓ c b::(a++[J []]):=by simp
 rw[e,g];exact GT h i
def FJ{b}{c}{f}{a}{g}{d}{e ds'}{r}(h:b.contains c=A3)(i:Nat.ble (a.length+1) 1000=A3)(j:g (BD (U σ0.length)::r) (σ0++ϓ c a::e)=Y d (σ0++ϓ c a::ds')):Uk b f g (ja 0) (BD (U σ0.length)::r) (σ0++ϓ c a::e)=Y (Ϙ$ BD (U σ0.length)::r) (σ0++ϓ c (Mh f d a)::ds'):=by
 rw[qT,j,Ym,cY,Bw,Ym,GT h i]
def tD{e}{c}{f}{a}{g}{d}{b}{r}(h:e.contains c=A3)(i:Nat.ble (a.length+1) 1000=A3)(j:g (BD (U σ0.length)::r) (σ0++ϓ c a::b)=Y d (σ0++ϓ c a::b)):Uk e f g (ja 0) (BD (U σ0.length)::r) (σ0++ϓ c a::b)=Y (Ϙ$ BD (U σ0.length)::r) (σ0++ϓ c (Mh f d a)::b):=FJ h i j
end
def Rx{a}{n c}{e}(h:a[n]?=BD (ϓ c e)){b}{f}{d}(g:b.contains c=A3)(i:e.lookup f=BD d):Mb b f (U n) a=Y d a:=Ih (Sk h) g i
noncomputable def X0(P:Pm)(K:dl)(T:List TK):Xk:={ N:=0,L:=0,g:=0,K:=K,r:=16,kc:=Zm,sv:=Ϭ [] [],bc:=HL P,S:=[],V:=[],T:=T,Q:=[] }
noncomputable def f0(P:Pm):List$ Str × D:=ir P$ X0 P [] []
noncomputable def KB(F:List$ Str × D)(a b c d:Ob)(A:Ca):Ca:=ϓ 15 F::a::b::c::d::J []::J []::A
noncomputable def a0(P:Pm):Ac:=gc 0 P.s (S0 P) Ϛ []
def o0(P:Pm):Ob:=ϓ 11 (a0 P).fs
theorem GW{P}(a:P.Ok):(a0 P).Ok:=Lx ⋯ a.s rfl rfl
def iS{src}{nx}{tg}{body}{ρ b c}{a e}{d}(i:src ρ a=Y nx a)(f:nx 0 a=BD (BD d))(j:tg d ρ=BD b)(h:body b a=Y (Ϙ c) e)(g:nx 1 e=BD L6):rm src tg body ρ a=Y (Ϙ c) e:=by
 rw[rs,i,Ym];show wq nx tg body 1001 0 ρ a=_;rw[VC (k:=1000) f j,h,zd,Vn];exact WC (k:=999) g
section
variable{P:Pm}(po:P.Ok){σ0:Ca}(hb:σ0.length=9)
include po in
theorem Ñ a:Pd [Z 0,Z P.s,Z P.u,Z P.v] a=Y (U a.length) (a++[o0 P]):=by
 have f:Kj [Z P.u,Z P.v] a=Y (S0 P).D a:=FZ (by have:=po.u;omega) (by have:=po.v;omega) a;have mk:vj 11 7 qq [Z 0,Z P.s,(S0 P).D,Ϛ,ώ [(S0 P).D],ώ []] a=Y (U a.length) (a++[o0 P]):=qE (GW po) a;unfold Pd zX;generalize (S0 P).D=b,o0 P=O at *;simp[f,mk]
include hb
theorem k9{L} i:(σ0++L)[9+i]?=L[i]?:=by rw[<-hb];exact nU i
theorem s9{L} i x:(σ0++L).set (9+i) x=σ0++L.set i x:=by rw[<-hb];exact tY i x
include po
theorem Z9 k:QA [U 9,U 16,Zm,Ϭ [] []] (σ0++KB (f0 P) k (J []) (J []) (J []) [o0 P])=Y Ϛ (σ0++KB (f0 P) k (J$ one$ U 16) (J$ one Zm) (J$ one$ Ϭ [] []) [o0 P]):=by
 have g:∀ (X ό ϊ:Ob) (f:Str) (cs:dN) (d:D),cs.contains 15=A3->(f0 P).lookup f=BD d->Mb cs f (U 9) (σ0++KB (f0 P) k X ό ϊ [o0 P])=Y d (σ0++KB (f0 P) k X ό ϊ [o0 P]):=λX ό ϊ f cs d h i=>Rx (k9 hb (L:=KB (f0 P) k X ό ϊ [o0 P]) 0) h i;have j:∀ X ό ϊ,Mb [10,11,12,13] "pot" (U 16) (σ0++KB (f0 P) k X ό ϊ [o0 P])=Y (Z 0) (σ0++KB (f0 P) k X ό ϊ [o0 P]):=λX ό ϊ=>nt (a:=a0 P) (k9 hb (L:=KB (f0 P) k X ό ϊ [o0 P]) 7)$ GW po;have s2:∀ (ρ:Ev) (ό ϊ:Ob),Ln ρ (U 16) (U 11) (Z 0) (σ0++KB (f0 P) k (J []) ό ϊ [o0 P])=Y (Ϙ ρ) (σ0++KB (f0 P) k (J$ one$ U 16) ό ϊ [o0 P]):=λρ ό ϊ=>by
  rw[Wp (kvs:=[]) (k9 hb (L:=KB (f0 P) k (J []) ό ϊ [o0 P]) 2) ⋯,s9 hb 2];rfl
 have l:∀ (ρ:Ev) (X ϊ:Ob),Ln ρ Zm (U 12) (Z 0) (σ0++KB (f0 P) k X (J []) ϊ [o0 P])=Y (Ϙ ρ) (σ0++KB (f0 P) k X (J$ one Zm) ϊ [o0 P]):=λρ X ϊ=>by
  rw[Wp (kvs:=[]) (k9 hb (L:=KB (f0 P) k X (J []) ϊ [o0 P]) 3) ⋯,s9 hb 3];rfl
 have m:∀ (ρ:Ev) (X ό:Ob),Ln ρ (Ϭ [] []) (U 13) (Z 0) (σ0++KB (f0 P) k X ό (J []) [o0 P])=Y (Ϙ ρ) (σ0++KB (f0 P) k X ό (J$ one$ Ϭ [] []) [o0 P]):=λρ X ό=>by
  rw[Wp (kvs:=[]) (k9 hb (L:=KB (f0 P) k X ό (J []) [o0 P]) 4) ⋯,s9 hb 4];rfl
 have b:=λX ό ϊ=>g X ό ϊ "accounts" [15] _ rfl rfl;have c:=λX ό ϊ=>g X ό ϊ "claims" [9,15] _ rfl rfl;have e:=λX ό ϊ=>g X ό ϊ "seen" [15] _ rfl rfl;unfold QA Ee;dsimp only;generalize f0 P=F,o0 P=O,Zm=n,J (one$ U 16)=o at *;simp[j,b,c,e,s2,l,m]
omit po hb in
theorem bY{F:List$ Str × D}(c:F.lookup ("known" : Str)=BD (U 10))(L:Option D):∀ (ws K:dl) (σ:Ca) (y:Option D),σ[9]?=BD (ϓ 15 F)->σ[10]?=BD (J$ Bk K)->K.length+ws.length<900->∃ a,Qj (wc 2) bG (ws.map Z) [BD$ U 9,L,y] σ=Y (Ϙ [BD$ U 9,L,a]) (σ.set 10$ J$ Bk$ ws.foldl Mg K)
 |[],K,σ,y,_,v,_=>⟨y,by rw[Df,lw,Rz,Ez v]⟩
 |w::ws,K,σ,y,v0,v1,d=>by
  have g:Mb [14,15] "known" (U 9) σ=Y (U 10) σ:=Rx v0 rfl c;have f:(Mg K w).length<=K.length+1:=by unfold Mg;split<;>simp
  have h:∀ ρ,Ln ρ (ϒ A3) (U 10) (Z w) σ=Y (Ϙ ρ) (σ.set 10$ J$ Bk$ Mg K w):=λρ=>by
   rw[Wp v1 (by unfold Bk;simp at d ⊢;omega),wW]
  obtain⟨a,e⟩:=bY c L ws (Mg K w) (σ.set 10$ J$ Bk$ Mg K w) (BD$ Z w) (Wb ⋯ v0) (Bm v1) (by simp at d;omega);rw[Gf]at e;refine⟨a,?_⟩;rw[gb,iu];simp only[Zb,qc];have b:bG [BD$ U 9,L,BD$ Z w] σ=Y (Ϙ [BD$ U 9,L,BD$ Z w]) (σ.set 10$ J$ Bk$ Mg K w):=by simp[g,h]
  rw[b,zd,Vn,e];rfl
omit po in
theorem E1{ws:dl}(a:ws.length<900) b c d:Su [U 9,ώ$ ws.map Z] (σ0++KB (f0 P) (J []) b c d [])=Y Ϛ (σ0++KB (f0 P) (J$ Bk$ ws.foldl Mg []) b c d []):=by
 obtain⟨f,e⟩:=bY (F:=f0 P) rfl (BD$ ώ$ ws.map Z) ws [] (σ0++KB (f0 P) (J []) b c d []) L6 (k9 hb 0) (k9 hb 1) (by simpa using a);rw[s9 hb 1]at e;have e:_=Y _ (σ0++KB (f0 P) (J$ Bk$ ws.foldl Mg []) b c d []):=e;unfold Su vL Ee;dsimp only;generalize ws.map Z=W,σ0++KB (f0 P) (J$ Bk$ ws.foldl Mg []) b c d []=g at *;simp[e]
theorem Y5 K ό ϊ:dO [BD$ U 9,BD$ Z 1,BD$ Z P.e,ό,ϊ,BD$ Z 0,BD$ PD P,L6] (σ0++KB (f0 P) K (J []) (J []) (J []) [])=Y (Ϙ [BD$ U 9,BD$ Z 1,BD$ Z P.e,ό,ϊ,BD$ Z 0,BD$ PD P,BD$ Z 1]) (σ0++KB (f0 P) K (J$ one$ U 16) (J$ one Zm) (J$ one$ Ϭ [] []) [o0 P]):=by
 have a:∀ c q,q=1 - P.s->EB [BD$ U 9,BD$ Z 1,BD$ Z P.e,ό,ϊ,BD$ Z 0,BD$ PD P,BD$ Z q] c=Y (Ϙ [BD$ U 9,BD$ Z 1,BD$ Z P.e,ό,ϊ,BD$ Z 0,BD$ PD P,BD$ Z q]) c:=λc q e=>by
  have i:=XJ po e c;generalize PD P=Q at *;simp[i]
 have b:EB [BD$ U 9,BD$ Z 1,BD$ Z P.e,ό,ϊ,BD$ Z 0,BD$ PD P,BD$ Z P.s] (σ0++KB (f0 P) K (J []) (J []) (J []) [])=Y (Ϙ [BD$ U 9,BD$ Z 1,BD$ Z P.e,ό,ϊ,BD$ Z 0,BD$ PD P,BD$ Z P.s]) (σ0++KB (f0 P) K (J$ one$ U 16) (J$ one Zm) (J$ one$ Ϭ [] []) [o0 P]):=by
  have i:=XH po;have j:=RS P;have k:=nZ P;have fa:=Ñ po$ σ0++KB (f0 P) K (J []) (J []) (J []) [];rw[show (σ0++KB (f0 P) K (J []) (J []) (J []) []).length=16 by simp[KB,hb],show (σ0++KB (f0 P) K (J []) (J []) (J []) [])++[o0 P]=σ0++KB (f0 P) K (J []) (J []) (J []) [o0 P] by simp[KB]]at fa;have f:=Z9 po hb K;have h:∀ g,oj [(15,QA)] 4 "hold" g (U 9) (σ0++KB (f0 P) K (J []) (J []) (J []) [])=(g$ σ0++KB (f0 P) K (J []) (J []) (J []) []).bind (Ai 4 QA$ U 9):=λg=>Tn (Sk$ k9 hb (L:=KB (f0 P) K (J []) (J []) (J []) []) 0) rfl rfl;have d:D.gt ["held"]=Zm:=rfl;generalize σ0++KB (f0 P) K (J$ one$ U 16) (J$ one Zm) (J$ one$ Ϭ [] []) [o0 P]=m,σ0++KB (f0 P) K (J []) (J []) (J []) [o0 P]=l,σ0++KB (f0 P) K (J []) (J []) (J []) []=n at *;generalize PD P=Q at *;simp[i,j,k,fa,h,d,f]
 rcases po.s with e|e<;>rw[e]at b a
 ·have a:=a (σ0++KB (f0 P) K (J$ one$ U 16) (J$ one Zm) (J$ one$ Ϭ [] []) [o0 P]) 1 ⋯;show Yj _ (wc 7) EB _ _=_;generalize EB=B at *;simp[iu,b,a]
 ·have a:=a (σ0++KB (f0 P) K (J []) (J []) (J []) []) 0 ⋯;show Yj _ (wc 7) EB _ _=_;generalize EB=B at *;simp[iu,b,a]
end
def oX{i}(h:0<=i/\i<=3) a:uh [Z i] a=Y (ϒ A3) a:=by
 unfold uh Fc;simp[(λa=>bt h a)]
def QV{l r u v w}(d:0<=l/\l<=3)(f:0<=r/\r<=3)(e:l≠r)(g:0<=u/\u<=1000000000000)(h:0<=v/\v<=1000000000000)(j:1<=w/\w<=100) σ:Of [Bq l r u v w] σ=Y (ϒ A3) σ:=by
 have c:∀ σ,ib (Bq l r u v w) _ σ=Y _ σ:=λσ=>JY ..;have k:(l == r)=Ŷ:=by simp[e]
 unfold Of Fc;unfold Bq at c ⊢;simp -implicitDefEqProofs[(λσ=>oX d σ),(λσ=>oX f σ),(λσ=>bt g σ),(λσ=>bt h σ),(λσ=>bt (i:=w) (a:=1) (b:=100) j σ),c,k]
def FY{a}{n k i}{g}{rest}{c f σ2}{o}{d y}(hd:a[i]?=BD d)(h:g (BD d::L6::rest) c=Y y f)(j:lj (U n) [y] f=Y Ϛ σ2) :
  aj (Lj.seq a).nx n (wc 0) am g (k+1) i (o::L6::rest) c=aj (Lj.seq a).nx n (wc 0) am g k (i+1) (BD d::L6::rest) σ2:=by
 rw[aj];have e:(Lj.seq a).nx i c=BD (BD d):=by show BD a[i]?=_;rw[hd]
 have t:wc 0 d (o::L6::rest)=BD (BD d::L6::rest):=rfl;have b:am (BD d::L6::rest) c=Y A3 c:=rfl;simp only[e,t];rw[Ml,zA b,zd,ia rfl,Ml,zA h,zd,Ml,j,zd]
def WV{a}{n k i}{c}{d}{b}(hd:a[i]?=L6):aj (Lj.seq a).nx n (wc 0) am c (k+1) i d b=Y () b:=by
 rw[aj];have e:(Lj.seq a).nx i b=BD L6:=by show BD a[i]?=_;rw[hd]
 simp[e]
theorem lX{a}{s}{ix}{fi}{fe}{b}{σ c}(e:a b σ=Y s σ)(d:aj s.nx σ.length (wc 0) fi fe 1001 0 (L6::L6::(ix.map λi=>(b[i]?).getD L6)) (σ++[ϑ []])=Y () c):Tk (bp a) ix (wc 0) fi fe b σ=Y (U σ.length) c:=by
 show Lc (Lc _ SM) _ σ=_;rw[Ml,Ml,e,zd];show Lc (aj s.nx σ.length _ fi fe 1001 0$ L6::L6::(ix.map λi=>(b[i]?).getD L6)) _ _=_;rw[Ml,d];rfl
theorem Α{a r}{xs}{d}(h:xs.length<1000):lj (U a.length) [d] (a++ϑ xs::r)=Y Ϛ (a++ϑ (xs++[d])::r):=by
 have e:af (a++ϑ xs::r) a.length=BD xs:=by unfold af;rw[bN];rfl
 unfold lj;simp only[e];rw[ia (show xs.length<Yf from h),tR];rfl
def yvr{a r}{x}{b}{n}(c:a.length+1+r.length=n):Rp b (a++x::r)=Y (U n) (a++x::(r++[J []])):=by
 rw[ZZ,show (a++x::r).length=n by simp;omega];simp
section
variable{P:Pm}(po:P.Ok)
include po
theorem e6 a:Of [PD P] a=Y (ϒ A3) a:=by
 have c:=po.u;have d:=po.v;have f:=po.w;have b:=po.e;unfold PD;split
 ·exact QV ⋯ ⋯ ⋯ ⋯ ⋯ ⋯ a
 ·exact QV ⋯ ⋯ ⋯ ⋯ ⋯ ⋯ a
theorem yH:cl (PL P)=A3:=by unfold PL PD Bq;split<;>simp
theorem V7 c:Lh [Z 1,Z P.e,PL P] c=Y Ϛ c:=by
 have m:=po.e;have n:=po.w;have b:=bt (i:=P.e) (a:=1) (b:=50) ⋯ c;have h:=lN po c;have p4:=XQ P c;have f:ay Ŷ (Z 1) (Ϗ [Z$ 1+P.s,Z$ 2 - P.s]) c=Y (ϒ ([1+P.s,2 - P.s].any (·== 1))) c:=dW (neg:=Ŷ) (ws:=[1+P.s,2 - P.s]) rfl;have lt:decide (P.w<P.e+1)=Ŷ:=Vb ⋯;have d:BJ [BD$ Z 1,BD$ Z P.e,BD$ PL P,BD$ PD P] c=Y (Ϙ [BD$ Z 1,BD$ Z P.e,BD$ PL P,BD$ PD P]) c:=by
  generalize [1+P.s,2 - P.s].any (·== 1)=B,Ϗ [Z$ 1+P.s,Z$ 2 - P.s]=k,PL P=l,PD P=Q at *;cases B<;>simp[h,f,p4,lt]
 have j:Fw (PL P) c=Y (.seq [PD P]) c:=KQ _;have g:Qj (wc 3) BJ [PD P] [BD$ Z 1,BD$ Z P.e,BD$ PL P,L6] c=Y (Ϙ [BD$ Z 1,BD$ Z P.e,BD$ PL P,BD$ PD P]) c:=by
  rw[iu];simp only[Zb,qc];rw[d,zd,Vn,lw]
 unfold Lh wU Fc;dsimp only;generalize BJ=B,[PD P]=TT,PL P=L at *;simp[b,j,g]
theorem Ś a:Bi [PL P] a=Y (PL P) a:=by
 have i:=e6 po a;have b:UM [BD$ PL P,BD$ Z 0,BD$ PD P] a=Y (Ϙ [BD$ PL P,BD$ Z 0,BD$ PD P]) a:=by
  simp_all
 have e:Xy _ a=Y (Ts$ PL P) a:=UN (xs:=[PD P]) rfl;have c:sx (ja 0) [BD$ PL P,L6,L6] a=Y (Ts$ PL P) a:=by
  simp_all
 have h:=iS (tg:=Hi 2$ Oe (wc 1)$ Oe (wc 2) Qi) (body:=UM) (ρ:=[BD _,L6,L6]) (d:=Ϗ [Z 0,PD P]) c (BN (x:=PL P) (xs:=[PD P]) rfl rfl) rfl b$ LL (x:=PL P) (xs:=[PD P]) rfl;have f:lg a (Zo [PL P] a)=Y (PL P) a:=WA (by have:=yH po;simpa [PL,cl]using this) a;have g:=yH po;unfold Bi PY Fc;dsimp only
 simp_all
noncomputable def Br(P:Pm):Ca:=[ϓ 9$ bw P 0,ϑ [HL P],ϑ [U 5],J []]
theorem đ{σ}(f:σ.length=2):vj 9 2 ew [PL P] σ=Y (U 2) (σ++Br P):=by
 have c:∀ σ,cj (Yo 6 2 cy$ Ba (Ye 1 Nf []$ Ba (ja 0) Ua) Ua) [BD$ PD P,L6] σ=Y (HL P) σ:=λσ=>by
  have i:lg σ (vj 6 2 cy [Z$ P.u+P.v] σ)=Y (HL P) σ:=by
   rw[qM,VL ⋯,Yy,xJ ⋯];rfl
  have m:=yP P;generalize HL P=O,PD P=Q at *;simp[m,i,-qM]
 have o:∀ σ,Fw (PL P) σ=Y (.seq [PD P]) σ:=λσ=>KQ _;have h:∀ (a:List$ Str × D) (j:Ca),a.lookup ("pots" : Str)=BD (PL P)->kh (Vc (Mb [9,14,16] "pots")$ ja 0) [BD$ U σ.length,BD$ PL P] (σ++ϓ 9 a::j)=Y (.seq [PD P]) (σ++ϓ 9 a::j):=λa j l=>by
  have g:Mb [9,14,16] "pots" (U σ.length) (σ++ϓ 9 a::j)=Y (PL P) (σ++ϓ 9 a::j):=Rx (bN (L:=ϓ 9 a::j)) rfl l;generalize PL P=L,[PD P]=TT at *;simp[g,o]
 have b:=lX (ix:=[]) (fi:=am) (fe:=cj$ Yo 6 2 cy$ Ba (Ye 1 Nf []$ Ba (ja 0) Ua) Ua) (h [("pots",PL P),("day",Z 0)] [] rfl)$ (FY (k:=1000) (d:=PD P) rfl (c _)$ zev$ by simp).trans$ WV (k:=999) rfl;have CA:=lX (ix:=[]) (fi:=am) (fe:=Rp) (h [("pots",PL P),("day",Z 0),("claims",U (σ.length+1))] [ϑ [HL P]] rfl)$ (FY (k:=1000) (d:=PD P) rfl (yvr (n:=σ.length+3)$ by simp)$ Α$ by simp).trans$ WV (k:=999) rfl;simp only[wg,List.cons_append,Vv,Ic,Pb,Jm]at b CA;rw[qM];have e:ew [U σ.length,PL P] (σ++[ϓ 9 []])=Y Ϛ (σ++Br P):=by
  unfold ew Ee
  (try dsimp only);rw[av,kD]
  show Cq (zb _ _ [BD$ U σ.length,BD$ PL P]$ σ++[ϓ 9 []])=_;rw[ng,tD (d:=PL P) rfl rfl (by simp only[EK,rF,xC,Bw,zd,JF,GC,WE,yn5,(Ś po$ σ++[ϓ 9 []])]),zd,sg];rw[ng,tD (d:=Z 0) rfl rfl (by simp only[VX]),zd,sg];show Cq (zb _ _ [BD$ U σ.length,BD$ PL P]$ σ++ϓ 9 [("pots",PL P),("day",Z 0)]::[])=_;rw[ng,FJ (d:=U$ σ.length+1) (ds':=[ϑ [HL P]]) rfl rfl b,zd,sg];show Cq (Uk _ _ _ _ [BD$ U σ.length,BD$ PL P]$ σ++ϓ 9 [("pots",PL P),("day",Z 0),("claims",U (σ.length+1))]::[ϑ [HL P]])=_;rw[FJ (d:=U$ σ.length+2) (ds':=[ϑ [HL P],ϑ [U$ σ.length+3],J []]) rfl rfl CA,AQ,f];rfl
 show bu σ.length (ew [U σ.length,PL P]$ σ++[ϓ 9 []])=_;rw[e,Yy,f]
def uk(P:Pm)(K:dl):Ca:=KB (f0 P) (J$ Bk K) (J$ one$ U 16) (J$ one Zm) (J$ one$ Ϭ [] []) [o0 P]
theorem v9{σ0}(a:σ0.length=9){ws:dl}(j:ws.length<900):vj 15 5 Cp [Z 1,Z P.e,PL P,ώ$ ws.map Z] σ0=Y (U 9) (σ0++uk P (ws.foldl Mg [])):=by
 have n:=V7 po$ σ0++[ϓ 15 []];have l:=E1 (P:=P) a j (J []) (J [])$ J [];have m:∀ g,oj [(15,Su)] 2 "learn" g (U 9) (σ0++KB (f0 P) (J []) (J []) (J []) (J []) [])=(g$ σ0++KB (f0 P) (J []) (J []) (J []) (J []) []).bind (Ai 2 Su$ U 9):=λg=>Tn (Sk$ k9 a (L:=KB (f0 P) (J []) (J []) (J []) (J []) []) 0) rfl rfl;have h:∀ σ,Xy (PL P) σ=Y (Ts$ PL P) σ:=λσ=>UN (xs:=[PD P]) rfl;have f:=iS (src:=sx$ ja 3) (nx:=Ts$ PL P) (tg:=Hi 2$ Oe (wc 5)$ Oe (wc 6) Qi) (body:=dO) (ρ:=[BD$ U 9,BD$ Z 1,BD$ Z P.e,BD$ PL P,BD$ ώ$ ws.map Z,L6,L6,L6]) (d:=Ϗ [Z 0,PD P]) (by
  generalize PL P=L at *;simp[h]) (BN (x:=PL P) (xs:=[PD P]) rfl rfl) rfl (Y5 po a (J$ Bk$ ws.foldl Mg []) (BD$ PL P)$ BD$ ώ$ ws.map Z)$ LL (x:=PL P) (xs:=[PD P]) rfl
 have f:_=Y _ (σ0++uk P (ws.foldl Mg [])):=f;have o:∀ σ,Ys (ώ$ ws.map Z) Ϛ σ=Y (ϒ Ŷ) σ:=λσ=>nr rfl;generalize σ0++uk P (ws.foldl Mg [])=W at *;rw[WO];have c:Cp [U σ0.length,Z 1,Z P.e,PL P,ώ$ ws.map Z] (σ0++[ϓ 15 []])=Y Ϛ W:=by
  unfold Cp YR
  (try dsimp only);rw[av,kD]
  show Cq (zb _ _ [BD$ U σ0.length,BD$ Z 1,BD$ Z P.e,BD$ PL P,BD$ ώ$ ws.map Z,L6,L6,L6]$ σ0++[ϓ 15 []])=_;generalize PL P=L,ώ (ws.map Z)=b at *;rw[ng];simp -implicitDefEqProofs only[MR,EK,rF,xC,Bw,zd,JF,GC,WE,S2,n,Ym,NW,sg];rw[ng,tD (d:=Z 1) rfl rfl ⋯,zd,sg];rw[ng,tD (d:=Z P.e) rfl rfl ⋯,zd,sg];rw[ng,tD (d:=Z 0) rfl rfl ⋯,zd,sg];rw[ng,tD (d:=Z 0) rfl rfl ⋯,zd,sg];rw[ng,CD (k:=1) rfl rfl rfl,zd,sg];rw[ng,CD (k:=2) rfl rfl rfl,zd,sg];rw[ng,CD (k:=3) rfl rfl rfl,zd,sg];rw[ng,CD (k:=4) rfl rfl rfl,zd,sg];rw[ng,CD (k:=5) rfl rfl rfl,zd,sg];rw[ng,CD (k:=6) rfl rfl rfl,zd,sg,a];show Cq (zb _ _ [BD$ U 9,BD$ Z 1,BD$ Z P.e,BD L,BD b,L6,L6,L6]$ σ0++KB (f0 P) (J []) (J []) (J []) (J []) [])=_;generalize σ0++KB (f0 P) (J []) (J []) (J []) (J []) []=ό at *;rw[ng];have p:uw (eT$ Sa Ys (ja 4)$ eC Ϛ) (Em Ua) (ja 4) [BD$ U 9,BD$ Z 1,BD$ Z P.e,BD L,BD b,L6,L6,L6] ό=Y b ό:=by
   have i:∀ σ,Ys b Ϛ σ=Y (ϒ Ŷ) σ:=o;simp[i]
  simp -implicitDefEqProofs only[MR,IX,Bw,zd,m,rF,p,JF,GC,WE,π,l,Ym,NW,sg];rw[f,AQ]
 rw[c,Yy,a]
end
noncomputable def wA(ws:dl):Kv:=ws.map λw=>(.inl w,Z (1+w % 2))
noncomputable def cp:dl:=(List.range 30).map λ(i:Nat)=>(i:Int)
def BK ws i a(b:i<=ws.length):gm (wA ws) i a=BD (ws[i]?.map λw=>Ϗ [Z w,Z$ 1+w % 2]):=by
 unfold gm wA;by_cases h:i<ws.length
 ·simp[h];rfl
 ·obtain rfl:i=ws.length:=by lia
  simp
def ξ{ws}(m:ws.length<=60){σ}(h:σ[0]?=BD (J$ wA ws)):rj [Z 1,U 0] σ=Y (ώ$ (ws.filter λw=>(1+w % 2) == 1).map Z) σ:=by
 have b:(σ.set 0$ Ϡ$ wA ws).length=σ.length:=yg;have a:=(ba.mp h).1;have dh:Tk (Ur$ ja 1) [0] (Hi 2$ Oe (wc 0)$ Oe (wc 1) Qi) (eT$ Sa Zh (ja 1)$ ja 2) (ja 0) [BD$ Z 1,BD$ U 0] σ=Y (U σ.length) (σ.set 0 (Ϡ$ wA ws)++[ϑ$ (ws.filter λw=>(1+w % 2) == 1).map Z]):=by
  show Lc (Ur (ja 1) _) (aW _ _ (ja 0)$ CC [0] _) σ=_;rw[Ml,oM (f:=ja 1) ⋯ h,zd];show Lc (aj _ (σ.set 0$ Ϡ$ wA ws).length _ (eT$ Sa Zh (ja 1)$ ja 2) (ja 0) 1001 0 [L6,L6,BD$ Z 1]) _ (σ.set 0 (Ϡ$ wA ws)++[ϑ []])=_;rw[Ml,GQ (xs:=ws) (λq=>True) (λw=>Ϗ [Z w,Z$ 1+w % 2]) (λw=>Z w) (λw=>BD$ Z$ 1+w % 2) (λw=>((1+w % 2) == 1)) (λw=>Z w) (λi j d=>BK ws i _ d) (λx o p q=>⟨rfl,trivial⟩) (λx n j=>⟨by simp,λq=>by simp⟩) ⋯ 1001 0 L6 L6 [] trivial ⋯ ⋯ ⋯,zd,b];rfl
 have e:KJ (ja 1) (Tk (Ur$ ja 1) [0] (Hi 2$ Oe (wc 0)$ Oe (wc 1) Qi) (eT$ Sa Zh (ja 1)$ ja 2)$ ja 0) [BD$ Z 1,BD$ U 0] σ=Y (U σ.length) (σ++[ϑ$ (ws.filter λw=>(1+w % 2) == 1).map Z]):=by
  show Ey _ _ _ σ=_;unfold Ey;rw[show ja 1 [BD$ Z 1,BD$ U 0] σ=Y (U 0) σ from rfl];dsimp only;rw[h,dh];unfold yC;have g:(σ.set 0 (Ϡ$ wA ws)++[ϑ$ (ws.filter λw=>(1+w % 2) == 1).map Z])[0]?=BD (Ϡ$ wA ws):=Di$ Bm h;simp only[g];rw[nj _ _ (by rw[b];exact a),Gf,Ez h];rfl
 have l:cj (KJ (ja 1)$ Tk (Ur$ ja 1) [0] (Hi 2$ Oe (wc 0)$ Oe (wc 1) Qi) (eT$ Sa Zh (ja 1)$ ja 2)$ ja 0) [BD$ Z 1,BD$ U 0] σ=Y (ώ$ (ws.filter λw=>(1+w % 2) == 1).map Z) σ:=by
  rw[lr,e];exact gx$ IF _
 have c:cl (ώ$ (ws.filter λw=>(1+w % 2) == 1).map Z)=A3:=IF _;unfold rj Fc;dsimp only;generalize ώ ((ws.filter λw=>(1+w % 2) == 1).map Z)=k at *;simp[l,c,-lr]
def ysr a:lg a (mC (ώ [Z 1]) a)=Y (ώ [Z 1]) a:=by
 have e:mC (ώ [Z 1]) a=Y (U a.length) (a++[ϑ [Z 1]]):=by
  have s:oq (Rm [1])=[1]:=cF ((Xw _).trans$ by decide) (fJ _) ⋯;unfold mC;rw[show Bf a _=BD ([(1:Int)].map Z)from rfl];simp only[Fh,sU];rw[ia ⋯,s];rfl
 rw[e];exact gx ⋯
theorem NY a b c d:mB a b c d=(b c d).bind (wJ a):=nr rfl
theorem TU a b c:wJ a b c=Y (b++a) c:=nr rfl
def ž w:∃ k,Xp [ϐ "word",Z w]=BD k:=vG λd hd=>by
 rcases Fa.mp hd with rfl|hd
 ·exact fQ ..
 ·obtain rfl:=Oa.mp hd;exact fA ..
noncomputable def HS(P:Pm)(w:Ob)(k:Kv)(T:List TK)(r:Ca):Ca:=w::ϓ 16 (vO P)::(Br P++(J k::ϑ []::.Je T::r))
def ë{P}{w0}{T}{r} w(u:T.length<900) l m n o p q:∃ a,CF [BD$ U 1,l,m,n,o,p,q,BD$ Z w,BD$ Z$ 1+w % 2] (HS P w0 k1 T r)=Y (Ϙ [BD$ U 1,l,m,n,o,p,q,BD$ Z w,BD$ Z$ 1+w % 2]) (HS P w0 k1 a r)/\a.length<=T.length+1/\(∀ k∈T,k∈a)/\(w % 2=1->yo a [ϐ "word",Z w]):=by
 have j:Mb [16] "keepers" (U 1) (HS P w0 k1 T r)=Y (U 6) (HS P w0 k1 T r):=Rx rfl rfl rfl;have t:Mb [16] "things" (U 1) _=Y (U 8) (HS P w0 k1 T r):=Rx rfl rfl rfl;have f:mi (HS P w0 k1 T r) (U 6)=BD k1:=rfl;by_cases h:w % 2=1
 ·obtain⟨k,i⟩:=ž w;refine⟨dn T k,?_,by unfold dn;split<;>simp,λv b=>UI.mpr$ ϖ b,λv=>⟨k,i,UI.mpr$ ϙ rfl⟩⟩;have c:Vo (Z$ 1+w % 2) (U 6) (HS P w0 k1 T r)=Y (ϒ A3) (HS P w0 k1 T r):=by
   rw[h];unfold Vo;simp only[Vi,f];rfl
  have st:∀ d,pA d (U 8) (Ϗ [ϐ "word",Z w]) (HS P w0 k1 T r)=Y (Ϙ d) (HS P w0 k1 (dn T k) r):=λd=>by
   have g:(HS P w0 k1 T r)[8]?=BD (.Je T):=rfl;have e:HS P w0 k1 (dn T k) r=(HS P w0 k1 T r).set 8 (.Je$ dn T k):=rfl;rw[e];unfold pA;simp[i,g];show T.length<1000
   lia
  generalize HS P w0 k1 (dn T k) r=ϊ,HS P w0 k1 T r=ό at *;simp[j,t,c,st]
 ·refine⟨T,?_,by omega,λk h=>h,λe=>absurd e h⟩;have s:w % 2=0:=by omega
  have c:Vo (Z$ 1+w % 2) (U 6) (HS P w0 k1 T r)=Y (ϒ Ŷ) (HS P w0 k1 T r):=by
   rw[s];unfold Vo;simp only[Vi,f];rfl
  generalize HS P w0 k1 T r=ό at *;simp[j,c]
def S1{P}{ws}(ύ:ws.length<=60){w0}{r} d f g h l m s t:∃ T b c,wq (gm$ wA ws) (Hi 2$ Oe (wc 7)$ Oe (wc 8) Qi) CF 1001 0 [BD$ U 1,d,f,g,h,l,m,s,t] (HS P w0 k1 [] r)=Y (Ϙ [BD$ U 1,d,f,g,h,l,m,b,c]) (HS P w0 k1 T r)/\T.length<=60/\∀ w∈ws,w % 2=1->yo T [ϐ "word",Z w]:=by
 obtain⟨G,H,e,T,b,c,rfl,rfl,C,q⟩:=vE (nx:=gm$ wA ws) (tg:=Hi 2$ Oe (wc 7)$ Oe (wc 8) Qi) (body:=CF) (N:=ws.length) (λi v x=>∃ T b c,v=[BD$ U 1,d,f,g,h,l,m,b,c]/\x=HS P w0 k1 T r/\T.length<=i/\∀ j w,j<i->ws[j]?=BD w->w % 2=1->yo T [ϐ "word",Z w]) (λi v x u B=>by
  apply b_;intro z_;obtain⟨T,b,c,rfl,rfl,C,q⟩:=B;obtain⟨y,e,I,z,A⟩:=ë (P:=P) (w0:=w0) (T:=T) (r:=r) ws[i] ⋯ d f g h l m;apply z_;refine⟨_,_,_,_,(BK ws i _$ by lia).trans (by rw[Va u];rfl),rfl,e,y,_,_,rfl,rfl,by lia,λj w n a o=>?_⟩;by_cases p:j<i
  ·obtain⟨k,e,E⟩:=q j w p a o;exact⟨k,e,z k E⟩
  ·obtain rfl:j=i:=by lia
   rw[Va u]at a;injection a with a;subst a;exact A o) (λσ=>by rw[BK ws _ _$ pa _];simp) 1001 0 [BD$ U 1,d,f,g,h,l,m,s,t] (HS P w0 k1 [] r) ⋯ ⋯ ⟨[],s,t,rfl,rfl,by simp,λj w n=>by lia⟩
 refine⟨T,b,c,e,by lia,λw F o=>?_⟩;obtain⟨j,n,e⟩:=List.mem_iff_getElem.mp F;exact q j w n (by rw[Va n,e]) o
def xG{W}{b}{c}{f}{a}{g}{d}{e ds'}{r}(h:b.contains c=A3)(i:Nat.ble (a.length+1) 1000=A3)(j:g (BD (U 1)::r) (W::ϓ c a::e)=Y d (W::ϓ c a::ds')):Uk b f g (ja 0) (BD (U 1)::r) (W::ϓ c a::e)=Y (Ϙ$ BD (U 1)::r) (W::ϓ c (Mh f d a)::ds'):=FJ (σ0:=[W]) h i j
def BZ{W}{e}{c}{f}{a}{g}{d}{b}{r}(h:e.contains c=A3)(i:Nat.ble (a.length+1) 1000=A3)(j:g (BD (U 1)::r) (W::ϓ c a::b)=Y d (W::ϓ c a::b)):Uk e f g (ja 0) (BD (U 1)::r) (W::ϓ c a::b)=Y (Ϙ$ BD (U 1)::r) (W::ϓ c (Mh f d a)::b):=xG h i j
def t7{P}(a:P.Ok){σ}(h:σ[2]?=BD (ϓ 9$ bw P 0)):Tt [U 2] σ=Y (PL P) σ:=by
 have g:Mb [9,14,16] "pots" (U 2) σ=Y _ σ:=Rx h rfl rfl;have b:lg σ (Zo [PL P] σ)=Y (PL P) σ:=WA (by have:=yH a;simpa [PL]using this) σ;have c:=yH a;unfold Tt be;dsimp only
 simp_all
def γ{P}(k:P.Ok){ws}(m:ws.length<=60):∃ T,vj 16 5 ko [PL P,ώ [Z 1],Z P.e,U 0] [J$ wA ws]=Y (U 1) (HS P (J$ wA ws) k1 T$ uk P$ (ws.filter λw=>(1+w % 2) == 1).foldl Mg [])/\T.length<=60/\∀ w∈ws,w % 2=1->yo T [ϐ "word",Z w]:=by
 obtain⟨T,ύ,K,t,p,q⟩:=S1 (P:=P) m (w0:=Ϡ$ wA ws) (r:=uk P$ (ws.filter λw=>(1+w % 2) == 1).foldl Mg []) (BD$ PL P) (BD$ ώ [Z 1]) (BD$ Z P.e) (BD$ U 0) (BD$ U 0) (BD$ Z 1) L6 L6;refine⟨T,?_,p,q⟩;have bk:=đ k (σ:=[J$ wA ws,ϓ 16 []]) rfl;have C:=ξ m (σ:=HS P (J$ wA ws) [] [] []) rfl;have j:=v9 k (σ0:=HS P (J$ wA ws) [] [] []) rfl (ws:=ws.filter λw=>(1+w % 2) == 1) (by have:=Er (λw:Int=>(1+w % 2) == 1) ws;omega);have y:=ysr;generalize I:(ws.filter λw=>(1+w % 2) == 1)=a at *;have j:vj 15 5 Cp [Z 1,Z P.e,PL P,ώ$ a.map Z] (HS P (J$ wA ws) [] [] [])=Y (U 9) (HS P (J$ wA ws) [] []$ uk P$ a.foldl Mg []):=j;rw[WO];have s:∀ x7 l,jV [BD$ U 1,BD$ PL P,BD$ ώ [Z 1],BD$ Z P.e,BD$ U 0,BD$ U 0,BD$ Z 1,x7,l] (HS P (J$ wA ws) [] [] [])=Y (Ϙ [BD$ U 1,BD$ PL P,BD$ ώ [Z 1],BD$ Z P.e,BD$ U 0,BD$ U 0,BD$ Z 1,x7,l]) (HS P (J$ wA ws) k1 []$ uk P$ a.foldl Mg []):=λx7 l=>by
  have pl:Mb [9,14,16] "pots" (U 1) (HS P (J$ wA ws) [] [] [])=Y (PL P) (HS P (J$ wA ws) [] [] []):=Rx rfl rfl rfl;have u:Mb [16] "keepers" (U 1) (HS P (J$ wA ws) [] []$ uk P$ a.foldl Mg [])=Y (U 6) (HS P (J$ wA ws) [] []$ uk P$ a.foldl Mg []):=Rx rfl rfl rfl;have st:∀ b,Ln b (U 9) (U 6) (Z 1) (HS P (J$ wA ws) [] []$ uk P$ a.foldl Mg [])=Y (Ϙ b) (HS P (J$ wA ws) k1 []$ uk P$ a.foldl Mg []):=λb=>by
   rw[Wp (kvs:=[]) rfl ⋯];rfl
  generalize HS P (J$ wA ws) k1 [] (uk P$ a.foldl Mg [])=H,HS P (J$ wA ws) [] [] (uk P$ a.foldl Mg [])=G,HS P (J$ wA ws) [] [] []=ό at *;generalize PL P=E,ώ (a.map Z)=F at *;simp only[k8,cW,NY,rF,xC,Bw,zd,JF,oQ,pl,EK,GC,WE,W6,C,TU,kf,j,Ym,h9,u,zqd,st]
 have h:ko [U 1,PL P,ώ [Z 1],Z P.e,U 0] ([J$ wA ws]++[ϓ 16 []])=Y Ϛ (HS P (J$ wA ws) k1 T$ uk P$ a.foldl Mg []):=by
  unfold ko iY
  (try dsimp only);rw[av,kD]
  have c:∀ e,Yo 9 2 ew (Ba (ja 1) Ua) (BD (U 1)::BD (PL P)::e) ([J$ wA ws]++ϓ 16 []::[])=Y (U 2) ([J$ wA ws]++ϓ 16 []::Br P):=λe=>by
   have bk:vj 9 2 ew [PL P] ([J$ wA ws]++ϓ 16 []::[])=Y (U 2) ([J$ wA ws]++ϓ 16 []::Br P):=bk;generalize PL P=L at *;simp only[cW,rF,xC,Bw,zd,JF,GC,WE];exact bk
  show Cq (zb _ _ [BD$ U 1,BD$ PL P,BD$ ώ [Z 1],BD$ Z P.e,BD$ U 0,L6,L6,L6,L6]$ J (wA ws)::ϓ 16 []::[])=_;have c:∀ e,Yo 9 2 ew (Ba (ja 1) Ua) (BD (U 1)::BD (PL P)::e) (J (wA ws)::ϓ 16 []::[])=Y (U 2) (J (wA ws)::ϓ 16 []::Br P):=c;rw[ng,xG (d:=U 2) (ds':=Br P) rfl rfl$ c _,zd,sg];rw[ng,BZ (d:=PL P) rfl rfl (by
   have o:Mb [16] "public" (U 1) (J (wA ws)::ϓ 16 (Mh "public" (U 2) [])::Br P)=Y (U 2) (J (wA ws)::ϓ 16 (Mh "public" (U 2) [])::Br P):=Rx rfl rfl rfl;have v:=t7 k (σ:=J (wA ws)::ϓ 16 (Mh "public" (U 2) [])::Br P) rfl;have x:∀ g,oj [(9,Tt)] 1 "made_of" g (U 2) (J (wA ws)::ϓ 16 (Mh "public" (U 2) [])::Br P)=(g$ J (wA ws)::ϓ 16 (Mh "public" (U 2) [])::Br P).bind (Ai 1 Tt$ U 2):=λg=>Tn (Sk rfl) rfl rfl;simp only[IX,oQ,Bw,zd,o,x,GC,zw6,v]),zd,sg]
  rw[ng,BZ (d:=Z P.e) rfl rfl (by simp only[xC,Bw]),zd,sg];rw[ng,xG (d:=U 6) (ds':=Br P++[J []]) rfl rfl rfl,zd,sg];rw[ng,xG (d:=U 7) (ds':=Br P++[J [],ϑ []]) rfl rfl rfl,zd,sg];rw[ng,xG (d:=U 8) (ds':=Br P++[J [],ϑ [],.Je []]) rfl rfl rfl,zd,sg];show Cq (zb _ _ [BD$ U 1,BD$ PL P,BD$ ώ [Z 1],BD$ Z P.e,BD$ U 0,L6,L6,L6,L6]$ HS P (J$ wA ws) [] [] [])=_;have ow:∀ ό,uw (eT$ Sa Ys (ja 4)$ eC Ϛ) (eC$ Ϭ [] []) (ja 4) [BD$ U 1,BD$ PL P,BD$ ώ [Z 1],BD$ Z P.e,BD$ U 0,L6,L6,L6,L6] ό=Y (U 0) ό:=λό=>by
   have i:∀ σ,Ys (U 0) Ϛ σ=Y (ϒ Ŷ) σ:=λσ=>nr rfl;simp[i]
  rw[ng,Ŵ,ow,Ym,n8,zd,sg];show Cq (zb _ _ [BD$ U 1,BD$ PL P,BD$ ώ [Z 1],BD$ Z P.e,BD$ U 0,BD$ U 0,L6,L6,L6]$ HS P (J$ wA ws) [] [] [])=_;rw[ng,A5,ĳ,lr,oQ];simp only[xC,Bw,zd,y,KQ,Ym,B1];rw[iu];simp only[Zb,qc];rw[s,zd,Vn,lw,zd,sg];have z:Ur (ja 5) [BD$ U 1,BD$ PL P,BD$ ώ [Z 1],BD$ Z P.e,BD$ U 0,BD$ U 0,BD$ Z 1,L6,L6] (HS P (J$ wA ws) k1 []$ uk P$ a.foldl Mg [])=Y (gm$ wA ws) ((HS P (J$ wA ws) k1 []$ uk P$ a.foldl Mg []).set 0$ Ϡ$ wA ws):=oM (f:=ja 5) (n:=0) (A:=wA ws) (σ:=HS P (J$ wA ws) k1 []$ uk P$ a.foldl Mg []) rfl rfl;have B:=zJ (f:=ja 5) (n:=0) (A:=wA ws) (A':=wA ws) (ρ:=[BD$ U 1,BD$ PL P,BD$ ώ [Z 1],BD$ Z P.e,BD$ U 0,BD$ U 0,BD$ Z 1,L6,L6]) (σ:=HS P (J$ wA ws) k1 []$ uk P$ a.foldl Mg []) (σf:=HS P (Ϡ$ wA ws) k1 []$ uk P$ a.foldl Mg []) (σ2:=HS P (Ϡ$ wA ws) k1 T$ uk P$ a.foldl Mg []) (src:=Ur$ ja 5) (nx:=gm$ wA ws) (tg:=Hi 2$ Oe (wc 7)$ Oe (wc 8) Qi) (body:=CF) rfl rfl z t rfl;rw[B,AQ];rfl
 show bu 1 (ko [U 1,PL P,ώ [Z 1],Z P.e,U 0]$ [J$ wA ws]++[ϓ 16 []])=_;rw[h,Yy]
@[simp] theorem zqp xs lo a b:Xx (.Zi xs) lo a b=Y (ώ$ Ep (xs.map Z) lo a) b:=nr rfl
def pO(a:dl):Pm:=
 let n:=Og a
 ⟨n 0 % 2,1+n 0 / 2 % 20,1+n 1 % 1000000000000,1+n 2 % 1000000000000,1+n 0 / 2 % 20+1+n 0 / 40 % 30⟩
def LS a:(pO a).Ok:=by
 have b:=Gg (Og a 1) (show 1000000000000≠0 by decide);have c:=Jk (Og a 1) (show (0:Int)<1000000000000 by decide);refine⟨?_,?_,?_,?_,?_⟩
 ·show Og a 0 % 2=0\/Og a 0 % 2=1;lia
 ·show 1<=1+Og a 0 / 2 % 20/\1+Og a 0 / 2 % 20<=20;lia
 ·show 1<=1+Og a 1 % _/\1+Og a 1 % _<=_;lia
 ·show 1<=1+Og a 2 % _/\1+Og a 2 % _<=_;lia
 ·show 1+Og a 0 / 2 % 20+1<=1+Og a 0 / 2 % 20+1+Og a 0 / 40 % 30/\1+Og a 0 / 2 % 20+1+Og a 0 / 40 % 30<=100;lia
theorem JX(f g h i j k l m a c d e:Option D):∀ (ws:dl) (A:Kv) (y:Option D),A.length+ws.length<900->∃ n,Qj (wc 7) bK (ws.map Z) [f,g,h,i,j,k,BD$ U 0,y,l,m,a,c,d,e] [J A]=Y (Ϙ [f,g,h,i,j,k,BD$ U 0,n,l,m,a,c,d,e]) [J$ ws.foldl (λA w=>Dm A (.inl w)$ Z$ 1+w % 2) A]
 |[],A,y,_=>⟨y,by rw[Df,lw];rfl⟩
 |w::ws,A,y,r=>by
  simp at r;have:(Dm A (.inl w)$ Z$ 1+w % 2).length<=A.length+1:=by
   have:∀ A:Kv,(Dm A (.inl w)$ Z$ 1+w % 2).length<=A.length+1:=λA=>by
    induction A with
    |nil=>simp[Dm]
    |cons p A q=>simp only[Dm];split<;>simp<;>lia
   exact this A
  obtain⟨n,q⟩:=JX f g h i j k l m a c d e ws (Dm A (.inl w)$ Z$ 1+w % 2) _ ⋯;refine⟨n,?_⟩;have s:∀ o,Ln o _ (U 0) (Z w) [J A]=Y (Ϙ o) [J$ Dm A (.inl w)$ Z$ 1+w % 2]:=λo=>by
   rw[Wp (kvs:=A) rfl ⋯];rfl
  rw[gb,iu];simp only[Zb,qc];have b:bK [f,g,h,i,j,k,BD$ U 0,BD$ Z w,l,m,a,c,d,e] [J A]=Y (Ϙ [f,g,h,i,j,k,BD$ U 0,BD$ Z w,l,m,a,c,d,e]) [J$ Dm A (.inl w)$ Z$ 1+w % 2]:=by simp[s]
  rw[b,zd,Vn,q];rfl
theorem R6:cp.foldl (λ A w=>Dm A (.inl w)$ Z$ 1+w % 2) []=wA cp:=by rfl
section
variable(ns:dl)
def Q3:∃ a:dl,Ep (ns.map Z) (BD 4) (BD 12)=a.map Z/\a.length<=20:=by
 refine⟨(ns.drop$ ϲ (ns.map Z).length 0$ BD 4).take$ ϲ (ns.map Z).length (ns.map Z).length (BD 12) - ϲ (ns.map Z).length 0 (BD 4),?_,?_⟩
 ·unfold Ep;rw[List.map_take,List.map_drop]
 ·have:ϲ (ns.map Z).length (ns.map Z).length (BD 12)<=12:=by
   unfold ϲ;simp;lia
  have:=List.length_take_le (ϲ (ns.map Z).length (ns.map Z).length (BD 12) - ϲ (ns.map Z).length 0 (BD 4))$ ns.drop$ ϲ (ns.map Z).length 0$ BD 4
  lia
def yk8{P} q(e:q.cs.length<=20) a:∃ b:dl,IJ (uE P q L6 L6 L6 L6) a=Y (Ϙ$ uE P { q with cs:=b } L6 L6 L6 L6) a/\b.length<=20:=by
 obtain⟨g,cs,f,y⟩:=q;cases cs with
 |nil=>
  have d:Zh _ (ώ []) a=Y _ a:=ZF rfl;refine⟨[0],?_,by simp⟩;unfold uE
  simp_all
 |cons c cs=>
  have d:Zh (ώ$ (c::cs).map Z) (ώ []) a=Y _ a:=AG rfl;refine⟨c::cs,?_,e⟩;unfold uE
  simp_all
end
def kw:dl:=(cp.filter λw=>(1+w % 2) == 1).foldl Mg []
def F8:∀ w∈cp,0<=w/\w<=59:=λw b=>by
 obtain⟨i,a,rfl⟩:=La.mp b;have:=ke.mp a
 lia
def V3{P}(a:P.Ok) T:Dy P (X0 P kw T) (gc 0 P.s (S0 P) Ϛ$ Ii 0) Ŷ$ HS P (J$ wA cp) k1 T$ uk P kw:=by
 exact⟨⟨⟨rfl,rfl,rfl,rfl,rfl,rfl,rfl⟩,⟨rfl,rfl,rfl,rfl⟩,rfl,rfl,rfl,rfl,show 15<16 by decide,⟨Lx ⋯ a.s rfl rfl,λV=>v1 a.s oZ V⟩⟩,ϖ ⟨rfl,rfl⟩,(mL ⟨oe,λw h=>by cases h⟩ λw b=>F8 w (Li.mp b).1),⟨oe,λz h=>by cases h⟩⟩
section
variable(ns:dl)
noncomputable def eA:Ev:=[BD$ .Zi ns,L6,L6,L6,L6,L6,L6,L6,L6,L6,L6,L6,L6,L6]
noncomputable def eK(P:Pm)(a:Int)(b c d f:Option D):Ev:=[BD$ .Zi ns,BD$ Z a,BD$ Z P.s,BD$ Z P.e,BD$ Ϗ [Z P.u,Z P.v],b,c,d,f,L6,L6,L6,L6,L6]
def A4 P(h:P.s=0\/P.s=1) g(k:P.w=P.e+1+g / 40 % 30):u5 (eK ns P g L6 L6 L6 L6) []=Y (Ϙ$ eK ns P g (BD$ PD P) L6 L6 L6) []:=by
 have i:∀ a b c d f,lh (Ϗ [a,b]) _ f=Y (Ϗ [a,b,c,d]) f:=λa b c d f=>RK$ Vf rfl;have j:∀ a b c d e f,lh (Ϗ [a,b,c,d]) _ f=Y (Ϗ [a,b,c,d,e]) f:=λa b c d e f=>RK$ Vf rfl;unfold eK PD Bq;rcases h with e|e<;>rw[e];all_goals simp_all
def zil:∃ q T,q.cs.length<=20/\T.length<=60/\(∀ w∈cp,w % 2=1->yo T [ϐ "word",Z w])/\∀ G,zb u1 (zb u2$ zb u3$ zb u4$ zb u5$ zb u6$ zb u7$ zb u8$ zb u9$ zb IJ G) (eA ns) []=G (uE (pO ns) q L6 L6 L6 L6) (HS (pO ns) (J$ wA cp) k1 T$ uk (pO ns) kw):=by
 have h:=LS ns;obtain⟨T,mk,y,A⟩:=γ h (ws:=cp) ⋯;obtain⟨f,t,z⟩:=Q3 ns;obtain⟨a,g⟩:=JX _ _ (BD$ Z (pO ns).s) (BD$ Z (pO ns).e) (BD$ Ϗ [Z (pO ns).u,Z (pO ns).v]) (BD$ PD _) L6 L6 L6 L6 L6 L6 cp [] L6 ⋯;rw[R6]at g;obtain⟨b,c,d⟩:=yk8 (P:=pO ns) ⟨ns,f,Og ns 0,a⟩ z (HS (pO ns) (J$ wA cp) k1 T$ uk (pO ns) kw);refine⟨⟨ns,b,Og ns 0,a⟩,T,d,y,A,λG=>?_⟩;have o:∀ σ,ic [.Zi ns,Z 0] σ=Y (Z$ Og ns 0) σ:=λσ=>WB ns 0 ⋯ σ;have p:∀ σ,ic [.Zi ns,Z 1] σ=Y (Z$ Og ns 1) σ:=λσ=>WB ns 1 ⋯ σ;have r:∀ σ,ic [.Zi ns,Z 2] σ=Y (Z$ Og ns 2) σ:=λσ=>WB ns 2 ⋯ σ;have i:∀ G,zb u1 (zb u2$ zb u3$ zb u4 G) (eA ns) []=G (eK ns (pO ns) (Og ns 0) L6 L6 L6 L6) []:=λG=>by
  unfold eA eK;simp[o,p,r];rfl
 have j:u6 (eK ns (pO ns) (Og ns 0) (BD$ PD$ pO ns) L6 L6 L6) []=Y (Ϙ$ eK ns (pO ns) (Og ns 0) (BD$ PD$ pO ns) (BD$ U 0) L6 L6) [J []]:=by
  unfold eK;simp
 have l:u7 (eK ns (pO ns) (Og ns 0) (BD$ PD$ pO ns) (BD$ U 0) L6 L6) [J []]=Y (Ϙ$ eK ns (pO ns) (Og ns 0) (BD$ PD$ pO ns) (BD$ U 0) a L6) [J$ wA cp]:=by
  show Yj (Gv$ eC$ Z 30) (wc 7) bK _ _=_;rw[vP (k:=30) ⋯ ⋯ _ _ _ ⋯];exact g
 have m:u8 (eK ns (pO ns) (Og ns 0) (BD$ PD$ pO ns) (BD$ U 0) a L6) [J$ wA cp]=Y (Ϙ$ eK ns (pO ns) (Og ns 0) (BD$ PD$ pO ns) (BD$ U 0) a$ BD$ U 1) (HS (pO ns) (J$ wA cp) k1 T$ uk (pO ns) kw):=by
  have B:∀ x σ,Yx [x] σ=Y (ώ [x]) σ:=λx σ=>İ rfl;have mk:vj 16 5 ko [ώ [PD$ pO ns],ώ [Z 1],Z (pO ns).e,U 0] [J$ wA cp]=Y (U 1) (HS (pO ns) (J$ wA cp) k1 T$ uk (pO ns) kw):=mk;unfold eK;generalize HS (pO ns) (J$ wA cp) k1 T (uk (pO ns) kw)=ό,PD (pO ns)=Q,wA cp=W at *;simp[B,NY,TU,mk]
 have n:∀ σ,u9 (eK ns (pO ns) (Og ns 0) (BD$ PD$ pO ns) (BD$ U 0) a$ BD$ U 1) σ=Y (Ϙ$ uE (pO ns) ⟨ns,f,Og ns 0,a⟩ L6 L6 L6 L6) σ:=λσ=>by
  unfold eK uE;simp[t]
 rw[i,ng,(A4 ns (pO ns) h.s (Og ns 0) rfl),zd,sg,ng,j,zd,sg,ng,l,zd,sg,ng,m,zd,sg,ng,n,zd,sg,ng,c,zd,sg]
theorem Dv(_:ns.length<=63):∃ σ,Wl [.Zi ns] []=Y (ϒ A3) σ:=by
 have a:=LS ns;obtain⟨q,T,Q,hT,R,st⟩:=zil ns;have V:∀ w:Int,0<=w/\w<=14->yo T [ϐ "word",Z$ 1+2 * w]:=λw h=>R _ (La.mpr ⟨(1+2 * w).toNat,ke.mpr ⋯,by lia⟩) ⋯;obtain⟨x,m,G,n,ss,g,E,F⟩:=zfa a (T0:=T) ⋯ (V3 a T) ⟨rfl,ϖ rfl⟩ ⟨rfl,rfl⟩ rfl rfl rfl q.cs Q;generalize HS _ (J$ wA cp) k1 T (uk (pO ns) kw)=σ0 at *;have d:PM (uE (pO ns) q L6 L6 L6 L6) σ0=Y (Ϙ$ uE (pO ns) q (BD$ U σ0.length) L6 L6 L6) g:=by
  unfold uE;generalize q.cs.map Z=CS at *;simp[E]
 have f:=Ş a q L6 L6 L6 F ⋯;have b:=ä a q L6 L6 L6 F;have dh:∀ o:Ji D,Cq (zb u1 (zb u2$ zb u3$ zb u4$ zb u5$ zb u6$ zb u7$ zb u8$ zb u9$ zb IJ$ zb PM$ zb yM$ zb XP$ zb eM$ zb TM$ zb EQ$ zb cP$ zb rQ$ zb cO$ zb vM$ zb aP zK) (eA ns) [])=o->Wl [.Zi ns] []=o:=λo h=>by
  unfold Wl LY;rw[kD];exact h
 by_cases ύ:n=0
 ·rw[ia ύ]at b;refine⟨g,dh _ ?_⟩;rw[st,ng,d,zd,sg,ng,f,zd,sg,ng,b,zd];rfl
 ·rw[qa ύ]at b;have K:=F.bd ⋯;obtain⟨W,σ2,c,l,L,P,s2⟩:=B6 a q (BD$ U σ0.length) (BD$ Z$ (pO ns).u+(pO ns).v) L6 L6 rfl K;obtain⟨z,a0,p,M⟩:=yle a q (BD$ Z$ (pO ns).u+(pO ns).v) c L6 L ⋯ F.ln (λj s h=>by rw[s2.t];exact F.al j s h) (P _ _ F.h3 F.li);obtain⟨ϋ,i,r,N⟩:=Ŗ a q (BD$ U σ0.length) (BD$ Z$ (pO ns).u+(pO ns).v) c L6 M (λw h=>by
   obtain⟨k,e,S⟩:=V w h;refine⟨k,e,?_⟩;show k∈W.T;rw[s2.t];exact F.t.1 k S)
  obtain⟨X,a1,k,A,I⟩:=ç a q (BD$ U σ0.length) (BD$ Z$ (pO ns).u+(pO ns).v) c N rfl;have B:=E2 a q (BD$ U σ0.length) c (BD$ Z k) I;obtain⟨ό,H,ϊ,C,O⟩:=U7 a q (BD$ U σ0.length) (BD$ Z$ (pO ns).u+(pO ns).v) c (BD$ Z k) rfl I;have y:rQ (uE (pO ns) q (BD$ U σ0.length) (BD$ Z$ (pO ns).u+(pO ns).v) c L6) i=Y (Ϙ$ uE (pO ns) q (BD$ U σ0.length) (BD$ Z$ (pO ns).u+(pO ns).v) c$ BD$ Z 0) i:=by
   unfold uE;simp
  refine⟨H,dh _ ?_⟩;rw[st,ng,d,zd,sg,ng,f,zd,sg,ng,b,zd,sg,ng,X7,zd,sg,ng,l,zd,sg,ng,p,zd,sg,ng,r,zd,sg,ng,y,zd,sg,ng,A,zd,sg,ng,B,zd,sg,ng,C,zd,sg,(g9 a q (BD$ U σ0.length) ϊ (BD$ Z k) O)];rfl
end
end K93
end
open PySem PySem.W PyProof.Rows
set_option maxRecDepth 100000 in
set_option maxHeartbeats 0 in
theorem PySem.Challenge.cw_sidebook_k93_who_lays_what_was_struck_holds : PySem.Challenge.rw_sidebook_k93_who_lays_what_was_struck.Holds := by
 w_on;refine hd ?_
 k_fill
 refine L4.r6 (l:=PySem.Challenge.rw_sidebook_k93_who_lays_what_was_struck) (k:=19) (x:="_law_script") (fn:=K93.Wl) ["least_fate","paper"] rfl rfl ⟨rfl,by decide,by decide⟩ (λw h ό=>km2_in ό) ?hK ?hrec ?F K93.Dv;case hK=>intro w;as_aux_lemma=>kernel_rfl
 case hrec=>as_aux_lemma=>kernel_rfl
 case F=>
  intro w mg h KX G TT;refine⟨λn=>([0,114,126,0,0,318,353,400,440,591,668,696,722,748,780,1114,1292,315,336,343,350,369,376,383,390,397,416,423,430,437,489,496,503,510,517,524,532,539,546,553,560,567,0,581,588,651,658,665,686,693,712,719,738,745,777,952,959,966,973,980,0,994,1001,1008,1015,0,1029,1036,1043,1050,1057,1064,1071,1078,1085,1090,1097,1104,1111,1138,1145,1152,0,1166,1173,1180,1187,1194,1201,1208,1215,1222,0,0,0,1249,1254,1261,1268,0,0,1289]:List Addr).getD n 0,(K93.tx$ L2.SV KX).Ao,K93.f9 _,K93.X4 ?_⟩;constructor;all_goals (try (repeat' (first|exact K93.Al.n|with_reducible refine' K93.Al.c ?_ ?_)))
  all_goals (try dsimp only[L2.SV,List.getD]);all_goals (try dsimp only[List.getElem?_cons_succ,List.getElem?_cons_zero,Option.getD]);all_goals (first
   |(refine' K93.Ë ?p ?q$ L4.KL KX G (λ_ _ _ _ _ _ us hl=>?z) ?a ?l ?c ?k;(case p=>conv=>lhs;whnf);(case q=>dsimp only[K93.fX,L2.Tl,List.map]);(case a|l=>as_aux_lemma=>k_is);(case z=>exact K93.QF.ap _ us hl (by(repeat intro _);exact rfl));(case c|k=>as_aux_lemma=>k_is))
   |(refine' K93.hmm ?p ?q$ L4.uR (λ_ _ _ _ _ _ us hl=>?z) ?l ?c ?k;(case p=>conv=>lhs;whnf);(case q=>dsimp only[K93.fX,L2.Tl,List.map]);(case l=>as_aux_lemma=>k_is);(case z=>exact K93.QF.ap _ us hl (by(repeat intro _);exact rfl));(case c|k=>as_aux_lemma=>k_is))
   |(refine' L4.KL KX G (λ_ _ _ _ _ _ us hl=>?z) ?a ?l ?c ?k;(case z=>exact K93.QF.ap _ us hl (by(repeat intro _);exact rfl));(case a|l|c|k=>as_aux_lemma=>k_is))
   |(refine' L4.uR (λ_ _ _ _ _ _ us hl=>?z) ?l ?c ?k;(case z=>exact K93.QF.ap _ us hl (by(repeat intro _);exact rfl));(case l|c|k=>as_aux_lemma=>k_is))
   |(refine' L4.Ζ KX G K93.Z5 ?a ?l ?c ?k ?d;(case a|l|c|k|d=>as_aux_lemma=>k_is))
   |(refine' L4.eN K93.Ő ?l ?c ?d;(case l|c|d=>as_aux_lemma=>k_is))
   |(refine' L4.eN K93.za0 ?l ?c ?d;(case l|c|d=>as_aux_lemma=>k_is))
   |(refine' L4.eN K93.Ĳ ?l ?c ?d;(case l|c|d=>as_aux_lemma=>k_is))
   |(refine' L4.mkT KX G ?a ?b;(case a=>as_aux_lemma=>k_is);(case b=>as_aux_lemma=>kernel_rfl))
   |(refine' L4.mkI KX G ?a;(case a=>as_aux_lemma=>k_is))
   |(refine' mg_of KX G ?a;(case a=>as_aux_lemma=>k_is))
   |(refine' mg_none_of KX G ?a;(case a=>as_aux_lemma=>k_is))
   |(refine' ⟨⟨?a,?b,?c,?d⟩,?e,?f,?g,?h⟩;(case a|b|c|d|e|f|g|h=>as_aux_lemma=>k_is))
   |(refine' ⟨?a,?b,?c,?d⟩;(case a|b|c|d=>as_aux_lemma=>k_is))
   |(refine' ⟨?a,?b,?c⟩;(case a|b|c=>as_aux_lemma=>k_is))
   |(refine' ⟨?a,?b⟩;(case a|b=>as_aux_lemma=>k_is))
   |exact λt h t' h' _=>(Oa.mp h').trans (Oa.mp h).symm
   |(refine' L4.j4 KX G (L4.KL KX G (λ_ _ _ _ _ _ us hl=>?z) ?a ?l ?c ?k) TT ?d;(case z=>exact K93.QF.ap _ us hl (by(repeat intro _);exact rfl));(case a|l|c|k=>as_aux_lemma=>k_is);(case d=>decide))
   |(refine' (mg_of KX G ?a).trans (mg_of KX G ?b).symm;(case a|b=>as_aux_lemma=>k_is))
   |exact TT
   |exact mg_of KX G TT.bm
   |(refine' L4.D6 ?a;(case a=>as_aux_lemma=>kernel_rfl))
   |decide
   |as_aux_lemma=>k_is
   |k_exc
   |rfl)
