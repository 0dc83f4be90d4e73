import PyProof.Rows.All
import OpenK.KLine
import OpenK.KOwn
import KE.KNestM
import KE.KDictOf
import Wide.FinOn
import Lean
import PyProof.EqAt
import PyProof.EqKinds
import PyProof.TupleCall
import PyProof.NeKinds
import PyProof.NsDelKeeps
import KE.KTryMore
import PyProof.WalksMore
import PyProof.Rows.SetFrom
import KE.KEqDict
import PyProof.ToksMono
import PyProof.StrCalls6
import PyProof.StrBlock2
import PyProof.SliceStr2
import PyProof.StrLawsTight
import PyProof.InstStoreFacts
import PyProof.Rows.FStr
import PyProof.FactsAll.set
import KE.KDictLaws
import KE.KIntText
import PyProof.Rows.StrWeight2
import PyProof.StrWalks
import PyProof.StrBlockH
import PyProof.WalksEnum
import PyProof.ZipIter
import PyProof.EnumMake
import PyProof.FitsReplace
import PyProof.StrLawsIn
import PyProof.Rows.SortWalk
import PyProof.DictUpdate
import KE.KDictList
import KE.KDictSum
import KE.KPairComp
import PyProof.FactsAll.dict
import KE.KMinKey
import KE.KLam
import PyProof.DictWalks
import PyProof.DictValues
import PySem.Challenge.RW_sidebook_k51_the_road
set_option Elab.async false
set_option linter.all false
set_option maxRecDepth 100000
namespace PySem.W.Fast
def te13052408679150730464:=Nat
def tw9874520414064414943:=Nat
def tw6334137890041483331:=Nat
def tw1892690694989095666:=Nat
def tw256341635539772221:=Nat
def tw8583114499334966004:=Nat
def tw236085659262978080:=Nat
def tw1212102639824214643:=Nat
def tw861502493610598483:=Nat
def tw8156932348028877967:=Nat
def tw10656201738612077351:=Nat
def tw6872789842757496876:=Nat
def tw18090264274711557029:=Nat
def tw17826623284341320060:=Nat
def tw13591048310350326776:=Nat
def tw5760117238175538160:=Nat
def tw1090689591775485030:=Nat
def tw7774113678449685934:=Nat
def tw8586721762622732767:=Nat
def tw238565394097093533:=Nat
def tw12744582225734075806:=Nat
def tw12546471409375691253:=Nat
def tw8169806428440432713:=Nat
def tw280917380089993231:=Nat
def tw12382470007097167742:=Nat
def tw10223898402276761379:=Nat
def tw11509211604773734946:=Nat
def tw495091267313879439:=Nat
def tw5320619654261168702:=Nat
def tw2244891987886370477:=Nat
def tw13578020157988156910:=Nat
def tw14169547596032710409:=Nat
def tw17105322094737777421:=Nat
def tw4139333405863992284:=Nat
def tw12361736095285214711:=Nat
def tw13758190518337804936:=Nat
def tw15359611588545569252:=Nat
def tw1486846090086101256:=Nat
def tw9074020239141712578:=Nat
def tw6344153461787385748:=Nat
def tw8057509151949241040:=Nat
def tw8514659027417952518:=Nat
def tw4779319495676466695:=Nat
def tw17949248998541250905:=Nat
def tw7830361148116998868:=Nat
def tw8997383693586321770:=Nat
def tw1799641797098859658:=Nat
def tw5567260261556248313:=Nat
def tw16209886269506037329:=Nat
def tw14151252239970057569:=Nat
def tw9094225154769264635:=Nat
def tw7970753398140278972:=Nat
def tw13730562907999268711:=Nat
def tw13002473133791111888:=Nat
def tw6784737039638806343:=Nat
def tw938635154573522699:=Nat
def tw10483620692585885732:=Nat
def tw7907732459839752663:=Nat
def tw10374632558016547081:=Nat
def tw14671481471946370582:=Nat
def tw6953138203311097117:=Nat
def tw14344478149125931734:=Nat
end PySem.W.Fast
namespace PySem.W
open PySem PySem.Spec PySem.Calls PyProof.Rows
def gtO (x : Option Obj) : Option Obj := match x with
  | some ⟨_, _, .freed, _⟩ => none
  | o => o
noncomputable def pk (l : List Obj) : Nat → List Addr → List (Option Obj) := @List.rec Obj (fun _ => Nat → List Addr → List (Option Obj)) (fun _ as => as.map fun _ => none) (fun o _ ih i as => @List.rec Addr (fun _ => List (Option Obj)) [] (fun a r _ => @Bool.rec (fun _ => List (Option Obj)) (ih (Nat.succ i) as) (gtO (some o) :: ih (Nat.succ i) r) (Nat.beq a i)) as) l
def rz : Nat → List Addr → Bool
  | _, [] => true
  | i, a :: r => Nat.ble i a && rz (a + 1) r
theorem rz_le : ∀ (as : List Addr) (i : Nat), rz i as = true → ∀ b ∈ as, i ≤ b
  | [], _, _, b, h => by cases h
  | a :: r, i, h, b, hb => by
    unfold rz at h
    rw [Bool.and_eq_true] at h
    have h1 := Nat.le_of_ble_eq_true h.1
    rcases List.mem_cons.mp hb with rfl | hb
    · exact h1
    · have := rz_le r (a + 1) h.2 b hb; omega
theorem rz_up {a i : Nat} {r : List Addr} (h : rz i (a :: r) = true) (n : a ≠ i) : rz (i + 1) (a :: r) = true := by
  unfold rz at *
  rw [Bool.and_eq_true] at *
  have := Nat.le_of_ble_eq_true h.1
  exact ⟨Nat.ble_eq_true_of_le (by omega), h.2⟩
theorem pk_eq : ∀ (l : List Obj) (i : Nat) (as : List Addr), rz i as = true → pk l i as = as.map fun a => gtO l[a - i]?
  | [], i, as, _ => by
    show as.map _ = _
    exact List.map_congr_left fun a _ => by simp [gtO]
  | o :: l, i, [], _ => rfl
  | o :: l, i, a :: r, h => by
    have step : ∀ as : List Addr, rz (i + 1) as = true → (as.map fun a => gtO l[a - (i + 1)]?) = as.map fun a => gtO (o :: l)[a - i]? := fun as h => List.map_congr_left fun b hb => by
      have := rz_le as _ h b hb
      rw [show b - i = (b - (i + 1)) + 1 by omega, List.getElem?_cons_succ]
    show @Bool.rec (fun _ => List (Option Obj)) (pk l (Nat.succ i) (a :: r)) (gtO (some o) :: pk l (Nat.succ i) r) (Nat.beq a i) = _
    cases e : Nat.beq a i with
    | true =>
      obtain rfl := Nat.eq_of_beq_eq_true e
      have h2 : rz (a + 1) r = true := by unfold rz at h; exact (Bool.and_eq_true_iff.mp h).2
      show gtO (some o) :: pk l (a + 1) r = _
      rw [pk_eq l (a + 1) r h2, step r h2, List.map_cons, Nat.sub_self]; rfl
    | false =>
      have h2 := rz_up h (Nat.ne_of_beq_eq_false e)
      show pk l (i + 1) (a :: r) = _
      rw [pk_eq l (i + 1) _ h2, step _ h2]
noncomputable def kmO (as : List Addr) (h : Heap) : List (Option Obj) := @Bool.rec (fun _ => List (Option Obj)) (as.map h.get?) (pk h.objs.toList 0 as) (rz 0 as)
theorem kmO_eq (as : List Addr) (h : Heap) : kmO as h = as.map h.get? := by
  unfold kmO
  cases e : rz 0 as with
  | false => rfl
  | true =>
    show pk h.objs.toList 0 as = _
    rw [pk_eq _ _ _ e]
    exact List.map_congr_left fun a _ => by
      rw [Nat.sub_zero, Array.getElem?_toList]; rfl
noncomputable def kmH2 (K : Params → Frag) (as : List Addr) (e : ∀ P, as = (K P).map (·.1)) (ts : List Addr) : Hook where
  α := List (Option Obj) × List (Option Obj)
  obs := fun s => (kmO as s.heap, ts.map s.heap.get?)
  val := fun w => ((K w.params).map fun p => some p.2, ts.map fun _ => some (tabObj #[]))
  says := fun w h => InK K w h ∧ ∀ P ∈ ts, h.get? P = some (tabObj #[])
  of := fun w s x => (kmHook K as e ts).of w s (show (as.map s.heap.get?, ts.map s.heap.get?) = _ by rw [← kmO_eq]; exact x)
  keeps := (kmHook K as e ts).keeps
theorem km2_in {K : Params → Frag} {as : List Addr} {e : ∀ P, as = (K P).map (·.1)} {ts : List Addr} {w : World} {h : Heap} (Y : (kmH2 K as e ts).says w h) : (K w.params).In h := (show InK K w h ∧ ∀ P ∈ ts, h.get? P = some (tabObj #[]) from Y).1
end PySem.W
section
open PySem PySem.W PyProof.Rows
set_option maxHeartbeats 0
local macro_rules | `(tactic| o_head ($f $a $b $c $d)) => `(tactic| o_head ((kmH2 $a $b $c) $d))
open_top hd for PySem.Challenge.rw_sidebook_k51_the_road
end
theorem b_{p:Prop}(h:(p->False)->False):p:=Classical.byContradiction h
open Option renaming some->BD,none->Α
open Bool renaming true->G6,false->İ
local macro_rules|`(⋯)=>`(by first|lia|omega|(simp;done)|decide|simp_all|grind)
set_option genSizeOf false
set_option tactic.hygienic false
set_option bootstrap.genMatcherCode false
set_option compiler.extract_closed false
def be:=@beq_eq_false_iff_ne
def Jg:=@beq_iff_eq
def bp:=@beq_self_eq_true
def Cb:=@congrArg
def Xa:=@decide_eq_false
def Eb:=@decide_eq_true
def Tc:=@decide_eq_true_eq
def On:=@if_false
def ua:=@if_neg
def ka:=@if_pos
def af:=@if_true
def Qg:=@or_false
open Array renaming append_assoc->pr,forIn_toList->mr,getElem?_eq_getElem->Ib,getElem?_eq_none->Eo,getElem?_eq_none_iff->am,getElem?_eq_some_iff->Xc,getElem?_extract->Do,getElem?_push->yq,getElem?_toList->Yd,length_toList->Kb,toArray_toList->si
open Bool renaming and_assoc->Bx,and_eq_true->Ma,and_false->Cm,eq_iff_iff->Zh,false_and->Ex,false_eq_true->Bs,false_ne_true->zb,false_or->Hz,not_eq_true->Bh,or_eq_true->qf
open Classical renaming choose_spec->zaB
open Int renaming emod_lt_of_pos->Vt,emod_nonneg->Fx,le_refl->zr
open List renaming all_cons->Ee,all_eq_true->gb,all_map->HB,any_cons->jh,any_eq_false->ek,any_eq_true->Uc,any_map->OB,append_assoc->Zc,append_nil->Ce,cons_append->Ou,drop_eq_getElem_cons->We,drop_eq_nil_of_le->Zo,ext_getElem?->Bf,filterMap_cons->Ze,filter_cons->se,filter_eq_self->Ag,filter_sublist->xr,find?_cons->wg,find?_eq_none->Kg,find?_some->Pl,flatMap_cons->Tt,foldl_append->Ut,foldl_cons->Ml,getD_eq_getElem?_getD->Dm,getElem?_append_left->ib,getElem?_append_right->Hc,getElem?_eq_getElem->Db,getElem?_eq_none->ni,getElem?_eq_none_iff->Jb,getElem?_eq_some_iff->da,getElem?_map->Ja,getElem?_of_mem->wq,getElem?_replicate->Co,getElem?_set->je,getElem?_set_ne->ig,getElem?_set_self->Zb,getElem?_take_of_lt->Nn,getElem?_toArray->oi,getElem_inj->Iu,getElem_mem->Ch,getElem_of_mem->vr,length_append->Gb,length_cons->lb,length_drop->Ku,length_eq_zero_iff->Fo,length_eraseIdx_of_lt->Hm,length_filter_le->Rf,length_map->Ia,length_nil->vg,length_pos_iff->Ui,length_range->Me,length_set->dw,length_take->re,lookup_cons->Rb,map_append->wc,map_congr_left->Md,map_cons->nb,map_eq_cons_iff->Te,map_eq_nil_iff->Ar,map_map->Ta,mem_append->jc,mem_append_left->Za,mem_append_right->Wa,mem_cons->Ea,mem_cons_of_mem->ma,mem_cons_self->na,mem_filter->Gd,mem_filterMap->yj,mem_map->wa,mem_map_of_mem->Jc,mem_of_find?_eq_some->Xe,mem_of_getElem?->Da,mem_of_mem_take->Aq,mem_range->qe,mem_singleton->jb,nil_append->ai,nodup_append->Nc,nodup_cons->Jd,nodup_nil->Em,not_mem_nil->kc,of_mem_zip->Ll,pairwise_iff_getElem->dn,range_succ->ew,range_succ_eq_map->Yo,set_append_left->jg,set_append_right->Fe,set_cons_succ->Ab,set_cons_zero->Vb,set_set->Ph,size_toArray->Va,take_length->yc
open List.Perm renaming cons_inv->zaE
open Nat renaming add_assoc->Ao,le_of_ble_eq_true->xq,le_of_eq->Bk,le_of_lt->yd,le_refl->ya,le_succ->rg,le_trans->Ya,lt_irrefl->Ud,lt_of_le_of_lt->Oj,lt_of_lt_of_le->La,lt_succ_of_lt->Ub,lt_succ_self->Sb,lt_trans->Pp,lt_trichotomy->Mu,min_le_right->Xv,mod_lt->RO,mul_assoc->Go,ne_of_gt->Td,ne_of_lt->Ba,not_lt->Nt,one_mul->vJ,one_ne_zero->Dx,sub_self->sE,succ_le_succ->Yv,zero_add->rE,zero_le->qg
open Ne renaming symm->Vd
open Option renaming bind_eq_some_iff->pf,bind_some->kh,getD_none->ms,isSome_iff_exists->ie,isSome_map->Aj,map_eq_some_iff->Ga,map_some->Ih
open Option.some renaming inj->cc
open Prod renaming ext->qY
open Prod.mk renaming inj->Sf
open PyProof.Rows renaming AllBare->Zg,IntsAre->bh,callWith_builtin1->lJ,callWith_type1->Cd,iadd_int->kJ,slot_tuple_getitem->Bc,Subscript_->Ez,args_list_sort->NO,args_tuple_getitem->Dz,entry_list_iadd'->qE,entry_list_sort->oJ,entry_proto_collect'->aw,entry_tuple_getitem->Ax,envOfC->ag,firstMet->Af,firstMet_length_le->Kz,firstMet_succ->HY,firstMet_zero->IY,get?_update_seq->sJ,list_sort_tree->MO,seqObj->yl,size_push'->Jz,slicePart_none->JO,slot_list_sort->LO,sortedHeap_at->GY,sortedHeap_old->OO,step_dedup->Oz,subscriptTail_builtinR->Ht,tupleItemsOf_->rY
open PyProof.Rows.F renaming entry_set_update_loop->zq
open PySem renaming Around->Na,BindsTo->Oe,Builtin->Rh,CmpOp->Wn,DictEntry->zE,Drawn->Vn,ElemsOf->SB,Env->kg,ExceptHandler->Ue,Expr->Qa,FuncData->df,GenState->vh,IsPair->ZO,IsPart->Uj,ItemsOf->lm,Keyword->Mi,Model->ui,NameKind->Be,Operator->Tj,OsState->Yt,PassesOwn->gn,PlainAttrs->xl,Pos->Zd,Program->Ca,boot_len->Zv,mem_of_lookup->oe,Result->jn,Sem->Ql,SetTable->Xd,Slot->XO,World->Ua,argsOk->Vp,assign->Sj,assignEach->ge,atKey->Fs,attributeBase->Ed,backTo->pc,backToKw->Fg,behindInMarks->de,behindIsImport->YO,binaryOp->Ae,bindC->Ds,bindL->Cs,bindSpecialIfBound?->Ix,builtinLookup_eq_fast->Nu,callSpecialIfBound?->Hx,callWith->km,call_list_seq->FY,call_meets->Fz,call_meetsIn->Zl,callerA->jm,cellsFrom->wE,checkBuiltinCall->AE,cmpInfo_Eq->Lz,codeAny_builtin->Vc,codeAny_call_builtin->Pj,codeAny_handlers_suite->Qt,codeAny_handlers_test->nj,codeAny_mono->lf,codeAny_of_tree->qJ,compareOp->Pb,concat_meets->Ft,entryFor->aP,entryFor_alias->QO,eqIsQuiet_byValue->CB,eval->Lb,fits_of_scanBound->Yf,foldedSetIterable->pe,getItem->Qh,getMethod->lh,holding->we,inplaceOp->uE,intBits_le_64->pY,intKind->Hf,isInstance->Pz,isSubtype_type->Rp,isTrue->Nz,keywordEach->Ge,noFill_tuple_add->cn,noteFrame->nh,oneThing_ref->Rt,pickOrder->on,plainId_quiet->ce,rawInt->Fc,reduceHash->Mz,relayAll->om,richCompare->Vj,seqIndex?->Es,seq_tuple_add->sr,setFlight->mn,setItem->Xt,setNext->au,sliceBounds->Eg,slot_list_getitem->GB,standAt->ah,starEach->va,storeName->tE,subscripted->Yn,swappedStores->Yk,swapsWith->Bg,swapsWithSole->Xk,sysModules->bf,tryCompare->Qz,typeLookup_type->rJ,typeOf->kn,valueAt->cp,wpAny_Call_Name_kw->Ke,wpAny_Call_method_late->Kt,wpAny_Dict_empty->oE,wpAny_Name->Cz,wpAny_askSetting->zg,wpAny_assign_Name->DB,wpAny_attempt->Vk,wpAny_bind->aa,wpAny_cRoomFor->Tp,wpAny_call->Ki,wpAny_callSpecial?_slot->Pd,wpAny_call_entry->Mc,wpAny_comprehension_free->yr,wpAny_execs_cons->mE,wpAny_execs_nil->Si,wpAny_field->Nj,wpAny_fieldsOf->Qj,wpAny_forIn_list->lE,wpAny_handleBy_cons->Dk,wpAny_holding->gc,wpAny_isInstance->bn,wpAny_isSame_ref_other->Li,wpAny_isTrue_Compare1->Ju,wpAny_ite_split->Df,wpAny_items_cons->nE,wpAny_letGo->Rn,wpAny_load->ul,wpAny_loadName_cell->zx,wpAny_loadName_local->Wv,wpAny_loadPart_at->Qd,wpAny_mono->dc,wpAny_newFunctionEnv->Rj,wpAny_newList->wr,wpAny_newObj_type->qc,wpAny_of_eq->bw,wpAny_passesOwn->Mg,wpAny_pure->ga,wpAny_pyIter_enum->JB,wpAny_pyIter_list->Oh,wpAny_pyIter_slot->MB,wpAny_pyIter_tuple->Gz,wpAny_pyIter_zip->pE,wpAny_rule->rl,wpAny_runValue->Qp,wpAny_seqItems->Xf,wpAny_sequenceKey->EB,wpAny_setEntries_of->wf,wpAny_setEpoch_of->NB,wpAny_setField->Zf,wpAny_setState_of->Ve,wpAny_specialOf->Lg,wpAny_standAt->qr,wpAny_storeSet_of->LB,wpAny_truthy_bool->jd,wpAny_tryCatch->ze,wpAny_typeOf->Ji,wpAny_updateSeq->Og,wp_field_iff->Pt,wp_setField_iff->mJ
open PySem.Around renaming frames_deeper->Xo
open PySem.Bind renaming checkArgs->Jf
open PySem.BindsTo renaming of_defaults->Wc
open PySem.Builtin.Frozenset renaming newClass->fw,updateFrom->gw
open PySem.Builtin.List renaming listExtendWith->zJ,listLengthHint->qj,listSameRef->fk,listTooLong->xg,listTouch->yJ
open PySem.Builtin.Range renaming rangeSize->vE
open PySem.Builtin.Slice renaming sliceAdjust->bg,sliceApplied->yE,slicePartIndex->xE,slicePlaces->dg
open PySem.Builtin.Tuple renaming tupleExact->Pe,tupleHashOf->De,tupleItemsOf->Tf
open PySem.Calls renaming Name_function_global->Yl,callWith_builtin->Hh,call_function_entry->Gm,evalArgs_plain->ri
open PySem.CmpOp renaming In->WO,NotIn->QB
open PySem.DictEntry renaming refKey->zaF
open PySem.EntryCells renaming newEntry->ln
open PySem.F renaming cmpArgs_eq->UO,cmpEntry_eq->tJ,cmpKind_eq->VO,cmpSplit_eq->uJ,cmp_object->vl,slot_tuple_hash->Ah,args_tuple_add_2->Ng,called_set->md,entry_min_loop->uh,entry_tuple_add->Xg,excBase_ValueError->wl,plainAttrs_dict->gf,plainAttrs_list->Cc,plain_extend_loop->Ol,plain_list_iadd->Fm,plain_min_loop->ue,slot_dict_delitem->Nl,slot_dict_items->Yg,slot_dict_pop->Pn,slot_dict_setdefault->Ek,slot_list_append->dm,slot_list_extend->gm,slot_list_pop->Ff,slot_set_iter->Qn,slot_tuple_add->sh,type_dict_items->Im,type_list_append->fm,type_list_extend->im,type_list_pop->Gf
open PySem.Heap renaming ExtBut->zl,FlyingW->RB,HeldW->Jm,SameBut->gd,get?_eq_some->Ot,get?_push_of_some->ja,get?_push_size->Fa,get?_update_other->Cf,get?_update_self->pd,lt_size->za,size_push->Yc
open PySem.Heap.DictOf renaming new->KO
open PySem.Heap.IsSliceOf renaming new->FB
open PySem.Heap.IsTuple renaming push->nJ
open PySem.Heap.SameBut renaming refl->pJ,update->bc
open PySem.Heap.UpToSlots renaming of_keeps->IB
open PySem.IsL renaming update->zaA
open PySem.Manifest renaming signature?->fg
open PySem.NameKind renaming cell->Kc,free->xb
open PySem.Obj renaming cls_mapFields->Fk,data_mapFields->rc,isFreed_of_fields->Le,mapFields->Ho,mapSeq->xf,putSet->Zt
open PySem.PassesOwn renaming leaving->zaC,looking->zaD
open PySem.Sem renaming wp_bind'->Ck,wp_mono->ur
open PySem.SeqAt renaming EqAt->Pc,RcAt->Gg,RcNeAt->Cg,in_listAt->Lu,in_tupleAt->Jt
open PySem.SeqAt.EqAt renaming bool_bool->wY,bool_int->xY,bool_none->vY,bool_str->yY,int_bool->AY,int_int->BY,int_none->zY,int_str->Ln,none_bool->sY,none_int->tY,none_str->uY,same->zj,str_bool->DY,str_int->Mn,str_none->CY,str_str->EY
open PySem.SeqAt.RcAt renaming tuples->oY
open PySem.SetTable renaming below->He,fresh->Gs,grown->sf,has->Pu,insertAt->Vi
open PySem.SetTable.below renaming go->mm
open PySem.SetTable.probe renaming go->eg
open PySem.Shared renaming TypeIs->Km
open PySem.Str renaming ofString->Up
open PySem.Value renaming bool->Dg,int->Tn,isInt->PB,isInt_shape->js,isStrOf->Gx,none->Ic,ref->Mb,str->wJ,type->Jh
open PySem.W.WData renaming int->xJ
open PySem.Walks renaming list->oj
open PySem.WalksT renaming zip2->Iz
open PySem.Within renaming cons->jJ
open PySem.pickOrder renaming go->qm
open Sum.inl renaming inj->yx
open Sum.inr renaming inj->Bo
open PySem PyProof.Rows
abbrev ac:=List PySem.Str
abbrev b':=List PySem.Addr
abbrev dl:=List PySem.Value
abbrev gV:=List Int
abbrev h8:=List Nat
abbrev i':=List (PySem.Addr × PySem.Obj)
noncomputable section
namespace L2
open Spec
abbrev Bd:=Sum Int Str
noncomputable def Vz:Bd->Value->Bool
 | .inl k,v=>PB k v
 | .inr x,v=>Gx x v
noncomputable def Αz(w:Ua):Bd->Int
 | .inl k=>hashInt k
 | .inr x=>hashStr w x
theorem Bp:∀ {k:Bd} {v:Value},Vz k v=G6->(∃ i t,k=Sum.inl i/\v=Tn i t)\/(∃ x t,k=Sum.inr x/\v=wJ x t)
 | .inl i,v,h=>by
  obtain⟨t,e⟩:=js h;exact .inl ⟨i,t,rfl,e⟩
 | .inr x,v,h=>by
  obtain⟨t,e⟩:=Value.isStrOf_shape h;exact .inr ⟨x,t,rfl,e⟩
def W8 i t:Vz (.inl i) (.int i t)=G6:=by simp[Vz,PB]
def CZ x t:Vz (.inr x) (.str x t)=G6:=by simp[Vz,Gx]
def W7 a b:decide ((Sum.inl a:Bd)=Sum.inl b)=(a == b):=by
 by_cases e:a=b;all_goals simp_all
def Q3 a b:decide ((Sum.inr a:Bd)=Sum.inr b)=decide (a=b):=by
 simp_all
def Ż a b:decide ((Sum.inl a:Bd)=Sum.inr b)=İ:=Xa (λq=>nomatch q)
def SZ a b:decide ((Sum.inr a:Bd)=Sum.inl b)=İ:=Xa (λq=>nomatch q)
def pk(c:Ca)(w:Ua):PySem.KeyKind c w Bd where
 is:=Vz
 hash:=Αz w
 inj:=λv a b g f=>by
  rcases Bp g with⟨i,t,rfl,rfl⟩|⟨x,t,rfl,rfl⟩
  ·rcases Bp f with⟨j,u,rfl,e⟩|⟨y,u,rfl,e⟩
   ·injection e with e1 _;rw[e1]
   ·exact nomatch e
  ·rcases Bp f with⟨j,u,rfl,e⟩|⟨y,u,rfl,e⟩
   ·exact nomatch e
   ·injection e with e1 _;rw[e1]
 byValue:=λk v h=>by
  rcases Bp h with⟨i,t,rfl,rfl⟩|⟨x,t,rfl,rfl⟩<;>rfl
 pyHash:=λd h=>by
  rcases Bp d with⟨i,t,rfl,rfl⟩|⟨x,t,rfl,rfl⟩
  ·exact wpAny_pyHash_int h
  ·exact wpAny_pyHash_str h
 eqBool:=λl d h=>by
  rcases Bp l with⟨i,t,rfl,rfl⟩|⟨x,t,rfl,rfl⟩
  ·rcases Bp d with⟨j,u,rfl,rfl⟩|⟨y,u,rfl,rfl⟩
   ·rw[W7]at h;exact wpAny_eqBool_int h
   ·rw[Ż]at h;exact Ln i t y u _ _ _ _ h
  ·rcases Bp d with⟨j,u,rfl,rfl⟩|⟨y,u,rfl,rfl⟩
   ·rw[SZ]at h;exact Mn x t j u _ _ _ _ h
   ·rw[Q3]at h;exact wpAny_eqBool_str h
 «strs»:=λk x t v h=>by
  rcases Bp h with⟨i,u,rfl,e⟩|⟨y,u,rfl,e⟩
  ·exact nomatch e
  ·injection e with e1 _;subst e1;cases v<;>rfl
def zeq a w i t:(pk a w).is (.inl i) (.int i t)=G6:=W8 i t
def ļ a w x t:(pk a w).is (.inr x) (.str x t)=G6:=CZ x t
inductive V where
 |ic|bl (b:Bool)|int (i:Int)|str (x:Str)|XH (b:Array UInt8)|cy (b:UInt64)|ref (a:Addr)|ty (n:String)
 deriving DecidableEq
abbrev lv:=List V
def qd:V->Value->Prop
 | .ic,u=>u=Ic
 | .bl b,u=>u=Dg b
 | .int i,u=>∃ t,u=Tn i t
 | .str x,u=>∃ t,u=wJ x t
 | .XH b,u=>∃ t,u=Value.bytes b t
 | .cy b,u=>∃ t,u=Value.float b t
 | .ref a,u=>u=Mb a
 | .ty n,u=>u=Jh n
abbrev ke:lv->dl->Prop:=Paired qd
def ke.length(r:ke xs a):xs.length=a.length:=Paired.length r
theorem ke.get:∀ {xs:lv} {us:dl} {i:Nat} {x:V},ke xs us->xs[i]?=BD x->∃ u,us[i]?=BD u/\qd x u
 |_,_,_,_,.nil,e=>by simp at e
 |_,_,0,_,.cons r _,e=>by simp at e;subst e;exact⟨_,rfl,r⟩
 |_,_,i+1,x,.cons _ t,e=>by
  obtain⟨u,a,b⟩:=ke.get (i:=i) (x:=x) t (by simpa using e)
  simp_all
theorem ke.set(r:qd x u):∀ {xs:lv} {us:dl} (i:Nat),ke xs us->ke (xs.set i x) (us.set i u)
 |_,_,_,.nil=>.nil
 |_,_,0,.cons _ t=>.cons r t
 |_,_,i+1,.cons q t=>.cons q (ke.set r i t)
theorem ke.append{xs a:lv}{us ws}(h:ke xs us)(s:ke a ws):ke (xs++a) (us++ws):=by
 induction h with
 |nil=>exact s
 |cons r _ i=>exact .cons r i
theorem ke.take:∀ {xs:lv} {us:dl} (n:Nat),ke xs us->ke (xs.take n) (us.take n)
 |_,_,0,_=>.nil
 |_,_,_+1,.nil=>.nil
 |_,_,n+1,.cons r t=>.cons r (ke.take n t)
theorem ke.drop:∀ {xs:lv} {us:dl} (n:Nat),ke xs us->ke (xs.drop n) (us.drop n)
 |_,_,0,r=>r
 |_,_,_+1,.nil=>.nil
 |_,_,n+1,.cons _ t=>ke.drop n t
def Wm:Option V->Option Value->Prop
 |some v,BD u=>qd v u
 |none,Α=>True
 |_,_=>False
def KV{a:Type}:List (a × V)->List (a × Value)->Prop:=Paired λ(p:a × V) (q:a × Value)=>p.1=q.1/\qd p.2 q.2
noncomputable def kV:Bd->V
 | .inl i=>.int i
 | .inr x=>.str x
def NK:Nat->Type
 |0=>Bd
 |n+1=>Bd ⊕ List (NK n)
noncomputable instance YP (n:Nat):DecidableEq$ NK n:=λa a=>Classical.propDecidable _
abbrev TK:=List$ NK 4
theorem lO{c a:Type}{R:c->a->Prop}:∀ {xs:List c} {b:List a},Paired R xs b->∀ {j:Nat} {y:a},b[j]?=BD y->∃ x,xs[j]?=BD x/\R x y:=by
 intro _ _ h;induction h with
 |nil=>intro _ _ e;simp at e
 |cons r _ i=>
  intro j y e;cases j with
  |zero=>simp at e;subst e;exact⟨_,rfl,r⟩
  |succ j=>obtain⟨x,h⟩:=i (j:=j) (by simpa using e);exact⟨x,by simpa using h⟩
theorem hO{c d:Type}{F G:c->d->Prop}(f:∀ a b,F a b->G a b):∀ {l:List c} {m:List d},Paired F l m->Paired G l m:=by
 intro _ _ h;induction h with
 |nil=>exact .nil
 |cons r _ i=>exact .cons (f _ _ r) i
section
variable(P:Ca)(w:Ua)
def lq(h:Heap):(n:Nat)->NK n->Value->Prop
 |0,k,v=>(pk P w).is k v=G6
 |_+1,.inl k,v=>(pk P w).is k v=G6
 |n+1,.inr ks,v=>∃ a b,v=.ref a/\IsTup h a b/\Paired (lq h n) ks b.toList
def rA:(n:Nat)->NK n->Int
 |0,k=>(pk P w).hash k
 |_+1,.inl k=>(pk P w).hash k
 |n+1,.inr ks=>Mz (De$ ks.map$ rA n)
noncomputable def kD:(n:Nat)->NK n->Nat
 |0,_=>1
 |_+1,.inl _=>1
 |n+1,.inr ks=>(ks.map$ kD n).sum+1
variable{P w}
theorem WX:∀ (n:Nat) {A:Na} {E:Value->Shared->Prop} {s:Shared} {k:NK n} {v:Value} {Q:Int->Shared->Prop},lq P w s.heap n k v->A.units+n<cLine->Q (rA P w n k) { s with toks:=s.toks+kD n k }->wpAny (model P w) A (pyHash v) Q E s
 |0,_,_,_,_,_,_,e,_,h=>(pk P w).pyHash e h
 |_+1,_,_,_,.inl _,_,_,e,_,h=>(pk P w).pyHash e h
 |n+1,A,E,s,.inr ks,v,Q,e,D,h=>by
  obtain⟨a,C,rfl,⟨o,r,u,m,y⟩,B⟩:=e;have f:s.TypeIs (.ref a) "tuple":=⟨o,r,u⟩
  refine aa$ wpAny_cRoomFor_or (.inr$ by lia)$ aa$ Lg f Ah.lookup$ aa$ Lg f Ah.lookup$ aa$ wpAny_callSpecialIfBoundUnlessNone?_slot f Ah$ Mc Ah f F.entry_tuple_hash ?_$ F.args_tuple_hash_1 _;show wpAny _ _ (Tf _ >>= _) _ _ s;refine aa$ wpAny_tupleItemsOf r y$ aa ?_;rw[<-mr];refine lE _
   (λrest (b:Array Int) q=>∃ c left,ks=c++left/\Paired _ left rest/\b.toList=c.map (rA P w n)/\q={ s with toks:=s.toks+(c.map$ kD n).sum })
   _ ?_ ?_ _ _ ⟨[],ks,rfl,B,rfl,rfl⟩
  ·rintro x rest b q ⟨c,left,rfl,j,i,rfl⟩;cases j with
   |@cons p _ d _ t l=>
    refine aa$ WX n t (show A.units+1+n<cLine by lia) ?_;first
     |exact ga _
     |exact aa$ ga$ ga ⟨c++[p],d,by simp,l,by simp[i],by simp[Ao]⟩
  ·rintro b q ⟨c,left,rfl,j,i,rfl⟩;cases j;rw[Ce]at h;show wpAny _ _ (retInt$ De b.toList) _ _ _;rw[i];refine wpAny_ret_mkInt ?_;have h:Q (Mz$ De$ c.map$ rA P w n) { s with toks:=s.toks+((c.map$ kD n).sum+1) }:=h;generalize De (c.map$ rA P w n)=z at *;show wpAny _ _ (if (decide _ && decide (z<2 ^ 63))=G6 then _ else _) Q E _;unfold Mz at h;by_cases g:(decide (-(2:Int) ^ 63<=z) && decide (z<2 ^ 63))=G6
   ·rw[ka g];rw[ka g]at h;exact ga (by simpa [Ao]using h)
   ·rw[ua g];rw[ua g]at h;exact aa$ rl$ ga (by simpa [Ao]using h)
theorem LX:∀ (n m:Nat) {A:Na} {E:Value->Shared->Prop} {s:Shared} {k:NK n} {v:Value} {Q:Bool->Shared->Prop},n<=m->lq P w s.heap n k v->Q G6 s->wpAny (model P w) A (eqIsQuiet m v) Q E s
 |0,_,_,_,_,_,_,_,_,b,h=>by rw[CB _$ (pk P w).byValue _ _ b];exact ga h
 |_+1,_,_,_,_,.inl _,_,_,_,b,h=>by rw[CB _$ (pk P w).byValue _ _ b];exact ga h
 |n+1,0,_,_,_,.inr _,_,_,hm,_,_=>by lia
 |n+1,m+1,A,E,s,.inr ks,v,Q,hm,b,h=>by
  obtain⟨a,d,rfl,⟨o,g,l,q,p⟩,u⟩:=b;have f:s.TypeIs (.ref a) "tuple":=⟨o,g,l⟩
  unfold eqIsQuiet;refine aa$ Lg f F.slot_tuple_eq.lookup ?_;refine aa$ bn f isSubtype_tuple_tuple$ aa$ Xf g p ?_;refine aa ?_;show wpAny _ _ (forIn d _ _) _ _ s;rw[<-mr];refine lE _ (λrest r e=>r.1=Α/\e=s/\∃ ks,Paired _ ks rest) _ ?_ ?_ _ _ ⟨rfl,rfl,ks,u⟩
  ·rintro v rest r e ⟨i,rfl,x,t⟩;cases t with
   |cons j c=>
    exact aa$ LX n _ ⋯ j$ ga ⟨rfl,rfl,_,c⟩
  ·rintro ⟨y,z⟩ e ⟨i,rfl,_⟩;subst i;exact ga h
def cT(h:(pk P w).is k (.ref a)=G6):False:=by
 have:=(pk P w).byValue _ _ h;trivial
def IsTup.uniq(p:IsTup h a x)(q:IsTup h a y):x=y:=by
 obtain⟨o,b,_,n,c⟩:=p;obtain⟨g,d,_,f,e⟩:=q
 simp_all
theorem SJ{h:Heap}:∀ (n:Nat) {x y:NK n} {v:Value},lq P w h n x v->lq P w h n y v->x=y
 |0,_,_,_,c,d=>(pk P w).inj _ _ _ c d
 |_+1,.inl _,.inl _,_,c,d=>Cb Sum.inl ((pk P w).inj _ _ _ c d)
 |_+1,.inl _,.inr _,_,c,d=>by obtain⟨a,_,rfl,_⟩:=d;exact(cT c).elim
 |_+1,.inr _,.inl _,_,c,d=>by obtain⟨a,_,rfl,_⟩:=c;exact(cT d).elim
 |n+1,.inr xs,.inr f,_,c,d=>by
  obtain⟨a,u,rfl,s,k⟩:=c;obtain⟨b,z,e,t,l⟩:=d;cases e;obtain rfl:=IsTup.uniq s t;have i:∀ {xs f:List _} {g:dl},Paired (lq P w h n) xs g->Paired (lq P w h n) f g->xs=f:=by
   intro xs f g p;induction p generalizing f with
   |nil=>intro q;cases q;rfl
   |cons r _ j=>intro q;cases q with|cons m o=>rw[SJ n r m,j o]
  exact Cb Sum.inr$ i k l
theorem UW{h f:Heap}(g:∀ b o c m,h.get? b=BD o->o.data=.seq c m->f.get? b=BD o):∀ (n:Nat) {k:NK n} {v:Value},lq P w h n k v->lq P w f n k v
 |0,_,_,d=>d
 |_+1,.inl _,_,d=>d
 |n+1,.inr _,_,d=>by
  obtain⟨a,c,rfl,⟨o,i,j,m,e⟩,p⟩:=d;exact⟨a,c,rfl,⟨o,g _ _ _ _ i e,j,m,e⟩,hO (λl l r=>UW g n r) p⟩
def q0:∀ n {A} {s} {x y} {u v} b,(b=G6 ↔ x=y)->lq P w s.heap n x u->lq P w s.heap n y v->A.units+n<cLine->Pc A s u v b:=by
 have k:∀ {A:Na} {s:Shared} {x y:Bd} {u v:Value} (b:Bool),(b=G6 ↔ x=y)->(pk P w).is x u=G6->(pk P w).is y v=G6->Pc A s u v b:=fun {A s x y u v} b d f g=>by
  rcases Bp f with⟨i,t,rfl,rfl⟩|⟨i,t,rfl,rfl⟩<;>rcases Bp g with⟨j,r,rfl,rfl⟩|⟨j,r,rfl,rfl⟩
  ·rw[show b=(i == j) by rw[Zh,d];simp];exact .int_int _ _ _ _
  ·rw[show b=İ by rw[<-Bh,d];simp];exact .int_str _ _ _ _
  ·rw[show b=İ by rw[<-Bh,d];simp];exact .str_int _ _ _ _
  ·rw[show b=(i == j) by rw[Zh,d];simp];exact .str_str _ _ _ _
 intro n;induction n with
 |zero=>intro A s x y u v b d f g _;exact k b d f g
 |succ n T=>
  intro A s x y u v b d f g X
  match x,y,d,f,g with
  | .inl x,.inl y,d,f,g=>exact k b (d.trans ⟨yx,Cb _⟩) f g
  | .inl x,.inr F,d,f,g=>
   apply b_;intro z_;obtain⟨a,H,rfl,⟨o,l,B,m,C⟩,p⟩:=g;apply z_;rw[show b=İ by rw[<-Bh,d];exact λz=>nomatch z];rcases Bp f with⟨i,t,rfl,rfl⟩|⟨i,t,rfl,rfl⟩
   ·exact .int_tuple _ _ ⟨o,l,B,m,C⟩ ⋯
   ·exact .str_tuple _ _ ⟨o,l,B,m,C⟩ ⋯
  | .inr xs,.inl y,d,f,g=>
   obtain⟨a,H,rfl,⟨o,l,B,m,C⟩,p⟩:=f;rw[show b=İ by rw[<-Bh,d];exact λz=>nomatch z];rcases Bp g with⟨i,t,rfl,rfl⟩|⟨i,t,rfl,rfl⟩
   ·exact .tuple_int _ _ ⟨o,l,B,m,C⟩ ⋯
   ·exact .tuple_str _ _ ⟨o,l,B,m,C⟩ ⋯
  | .inr xs,.inr F,d,f,g=>
   have q:=f;obtain⟨a,D,rfl,J,ϋ⟩:=f;obtain⟨c,E,rfl,Q,I⟩:=g;by_cases e:a=c
   ·subst e;obtain rfl:=IsTup.uniq J Q;rw[d.mpr$ SJ (n+1) q ⟨a,D,rfl,J,I⟩];exact .same _
   ·have l1:xs.length=D.size:=by rw[Paired.length ϋ,Kb]
    have l2:F.length=E.size:=by rw[Paired.length I,Kb]
    have r:=oY (A:=A) (e:=λj=>decide$ xs[j]?=F[j]?) (let ⟨o,K,L,m,M⟩:=J;⟨o,K,L,m,M⟩) (let ⟨o,K,L,m,M⟩:=Q;⟨o,K,L,m,M⟩) ⋯ λj G N=>by
     obtain⟨x,ex,U⟩:=lO ϋ (j:=j) (y:=D[j]) (by simp[G]);obtain⟨y,S,V⟩:=lO I (j:=j) (y:=E[j]) (by simp[N]);exact T _ (by rw[Tc,ex,S];exact⟨cc,Cb _⟩) U V (show A.units+1+n<cLine by lia)
    have R:((List.range$ min D.size E.size).all (λj=>decide$ xs[j]?=F[j]?) && D.size == E.size)=b:=by
     rw[Zh,d,Ma,gb,Jg,<-l1,<-l2];constructor
     ·rintro ⟨G,N⟩;refine Cb Sum.inr (Bf λj=>?_);by_cases W:j<xs.length
      ·exact of_decide_eq_true$ G j$ qe.mpr ⋯
      ·rw[ni ⋯,ni ⋯]
     ·intro h;cases (Bo h);exact⟨λj O=>by simp,rfl⟩
    rw[R]at r;exact .of_refs e r
def JC(P:Ca)(w:Ua):HeapKind P w TK where
 is:=λh ks a=>lq P w h 5 (.inr ks)$ .ref a
 hash:=λks=>rA P w 5$ .inr ks
 draws:=λks=>kD 5$ .inr ks
 room:=λA=>A.units+5<cLine
 inj:=λf g=>Bo$ SJ 5 f g
 keeps:=λx k j l=>UW (λb o n m e i=>(l.2 b$ λz=>by subst z;rw[k]at e;cases e;rw[j]at i;exact nomatch i).trans e) 5 x
 pyHash:=λd c h=>WX 5 c d h
 eqBool:=λd f g h=>q0 5 _ (by rw[Tc];exact⟨Cb _,Bo⟩) f g d _ _ _ _ h
 quiet:=λc h=>LX 5 8 ⋯ c h
end
inductive HO where
 |ra (xs:lv)
 |Sa (xs:lv)
 |dK (kvs:List (Bd × V))|dT (kvs:List (TK × V))
 |set (S:Int->Bool) (n:Nat)
 |yb (C dx:Addr) (fs:List (Str × V))
 |own (x:Addr)
 |xd (fs:List (Str × V))
 |met (f x:Addr)
 |sG (lo hi:Int)
 |zd (o:Obj) (u:HO)
 |rk (ps:Array Value)
 |ext (φ:Heap->Prop)
abbrev Hp:=Addr->Option HO
def NR(H:Hp):(n:Nat)->NK n->V->Prop
 |0,k,v=>v=kV k
 |_+1,.inl k,v=>v=kV k
 |n+1,.inr ks,v=>∃ a b,v=.ref a/\H a=BD (.Sa b)/\Paired (NR H n) ks b
theorem NR.keeps(d:∀ b xs,H b=BD (.Sa xs)->c b=BD (.Sa xs)):∀ (n:Nat) {k:NK n} {v:V},NR H n k v->NR c n k v
 |0,_,_,h=>h
 |_+1,.inl _,_,h=>h
 |n+1,.inr _,_,h=>by obtain⟨a,f,rfl,e,p⟩:=h;exact⟨a,f,rfl,d _ _ e,hO (λg g r=>NR.keeps d n r) p⟩
noncomputable def Yb(H:Hp)(a:Addr)(o:HO):Hp:=λb=>if b=a then BD o else H b
def Lf:Yb H a o a=BD o:=by unfold Yb;rw[ka rfl]
def Dd(h:b≠a):Yb H a o b=H b:=by unfold Yb;rw[ua h]
def zL{H:Hp}(h:H a=BD o)(c:H b=BD u)(d:o≠u):a≠b:=by
 intro e;subst e;rw[h]at c;exact d$ cc c
def Xm{H:Hp}(h:H a=BD o)(c:H b=Α):a≠b:=by
 intro e;subst e;rw[h]at c;cases c
section
variable(P:Ca)(w:Ua)
inductive Vw(h:Heap)(a:Addr)(xs:lv):Prop
 |mk (f1:xs.length<=sizeLine) (its:dl) (n:Nat) (f2:ke xs its) (f3:h.get? a=BD { cls:=.type "list",data:=.seq its.toArray n }):Vw h a xs
inductive ww(h:Heap)(a:Addr)(xs:lv):Prop
 |mk (f1:xs.length<=sizeLine) (its:dl) (f2:ke xs its) (f3:IsTup h a its.toArray):ww h a xs
inductive Zw(H:Hp)(h:Heap)(a C dx:Addr)(fs:List (Str × V)):Prop
 |mk (f1:H dx=BD (.own a)) (f2:fs.length<=1000) (f3:dx≠a) (f4:h.get? a=BD (W.instObj C dx)) (mA:Str->Option Value) (f5:h.Ns1 dx mA) (f6:(∀ f,Wm (fs.lookup f) (mA f))) (f7:PySem.Within mA (fs.map (·.1))):Zw H h a C dx fs
def Cj(H:Hp)(h:Heap)(a:Addr):HO->Prop
 | .ra xs=>Vw h a xs
 | .Sa xs=>ww h a xs
 | .dK b=>b.length<=sizeLine/\(a == bf)=İ/\∃ j,KV b j/\h.DictOf (pk P w) a j
 | .dT b=>b.length<=sizeLine/\(a == bf)=İ/\∃ xs:List (TK × Addr × Value),
   Paired (λ(p:TK × V) (q:TK × Addr × Value)=>p.1=q.1/\NR H 5 (.inr p.1) (.ref q.2.1)/\qd p.2 q.2.2) b xs/\
   ∃ o d l,h.get? a=BD o/\o.ExactDict/\o.data=.dict d l/\d.toList=xs.map (entryOfKey$ JC P w)/\(xs.map (·.1)).Nodup
 | .set S n=>h.SetOf (Hf P w) a S n
 | .yb C k c=>Zw H h a C k c
 | .own _=>∃ o,h.get? a=BD o
 | .xd c=>∃ i,h.Ns1 a i/\∀ f,Wm (c.lookup f) (i f)
 | .sG lo m=>∃ t u v,h.get? a=BD { cls:=.type "range",data:=.fields #[.int lo t,.int m u,.int 1 v] }
 | .zd o u=>h.get? a=BD o/\Cj H h a u
 | .rk ps=>h.get? a=BD { cls:=.none,data:=.fields ps }
 | .met f x=>h.get? a=BD (W.methodObj (.ref f)$ .ref x)
 | .ext φ=>φ h/\(∃ o,h.get? a=BD o)/\∀ e g:Heap,φ e->(∀ o,e.get? a=BD o->g.get? a=BD o)->φ g
def zh(H:Hp)(h:Heap):Prop:=∀ a o,H a=BD o->Cj P w H h a o
end
section
variable{P:Ca}{w:Ua}{H H':Hp}{h h':Heap}{a:Addr}{o:HO}
def Cj.lt(x:Cj P w H h a o):a<h.objs.size:=by
 cases o with
 |ra xs=>obtain⟨_,_,_,_,e⟩:=x;exact za e
 |Sa xs=>obtain⟨_,_,_,p⟩:=x;exact p.lt
 |dK b=>obtain⟨_,_,_,_,o,_,_,e,_⟩:=x;exact za e
 |dT b=>obtain⟨_,_,_,_,o,_,_,e,_⟩:=x;exact za e
 |set S n=>obtain⟨o,_,_,_,e,_⟩:=x;exact za e
 |yb C d c=>obtain⟨_,_,_,e,_⟩:=x;exact za e
 |own y=>obtain⟨_,e⟩:=x;exact za e
 |xd c=>obtain⟨_,⟨_,_,_,e,_⟩,_⟩:=x;exact za e
 |sG lo g=>obtain⟨_,_,_,e⟩:=x;exact za e
 |zd i u=>obtain⟨e,_⟩:=x;exact za e
 |rk ps=>exact za$ x
 |met f y=>exact za$ x
 |ext j=>obtain⟨_,⟨_,e⟩,_⟩:=x;exact za e
theorem Paired.wo:∀ {c:List e} {d:List g},Paired F c d->(∀ a b,F a b->G a b)->Paired G c d:=by
 intro _ _ h f;induction h with
 |nil=>exact .nil
 |cons r _ i=>exact .cons (f _ _ r) i
def Cj.mj(x:Cj P w H h a o)(k:∀ b u,(b=a\/H b=BD (.own a))->h.get? b=BD u->h'.get? b=BD u)
  (D:∀ b,H b=BD (.own a)->H' b=BD (.own a)) (E:∀ b xs,H b=BD (.Sa xs)->H' b=BD (.Sa xs)):Cj P w H' h' a o:=by
 induction o with
 |ra xs=>obtain⟨z,j,n,r,e⟩:=x;exact⟨z,j,n,r,k _ _ (.inl rfl) e⟩
 |Sa xs=>obtain⟨z,j,r,ob,e,c⟩:=x;exact⟨z,j,r,ob,k _ _ (.inl rfl) e,c⟩
 |dK l=>obtain⟨z,y,I,r,ob,i,g,e,c⟩:=x;exact⟨z,y,I,r,ob,i,g,k _ _ (.inl rfl) e,c⟩
 |dT l=>
  obtain⟨z,y,xs,r,ob,i,g,e,c⟩:=x;exact⟨z,y,xs,Paired.wo r λp q z=>⟨z.1,NR.keeps E 5 z.2.1,z.2.2⟩,ob,i,g,k _ _ (.inl rfl) e,c⟩
 |set S n=>obtain⟨ob,i,g,t,e,c⟩:=x;exact⟨ob,i,g,t,k _ _ (.inl rfl) e,c⟩
 |yb C J B=>
  obtain⟨d,z,G,e,m,⟨s,i,g,A,c⟩,r,w⟩:=x;exact⟨D _ d,z,G,k _ _ (.inl rfl) e,m,⟨s,i,g,k _ _ (.inr d) A,c⟩,r,w⟩
 |own y=>obtain⟨ob,e⟩:=x;exact⟨ob,k _ _ (.inl rfl) e⟩
 |xd B=>obtain⟨m,⟨s,i,g,e,c⟩,r⟩:=x;exact⟨m,⟨s,i,g,k _ _ (.inl rfl) e,c⟩,r⟩
 |sG lo K=>obtain⟨t,u,v,e⟩:=x;exact⟨t,u,v,k _ _ (.inl rfl) e⟩
 |zd ob u F=>obtain⟨e,q⟩:=x;exact⟨k _ _ (.inl rfl) e,F q⟩
 |rk ps=>
  have e:=x;exact k a _ (.inl rfl) e
 |met f y=>
  have e:=x;exact k a _ (.inl rfl) e
 |ext L=>obtain⟨p,⟨o,e⟩,st⟩:=x;exact⟨st _ _ p λo q=>k _ _ (.inl rfl) q,⟨o,k _ _ (.inl rfl) e⟩,st⟩
def zh.lt(x:zh P w H h)(e:H a=BD o):a<h.objs.size:=(x a o e).lt
def zh.fresh(x:zh P w H h)(e:h.objs.size<=a):H a=Α:=by
 cases q:H a with
 |none=>rfl
 |some u=>exact absurd (La (x.lt q) e)$ Ud _
def zh.kept(x:zh P w H h)(k:∀ b u,h.get? b=BD u->h'.get? b=BD u):zh P w H h':=λa o e=>
 (x a o e).mj (λb u c q=>k b u q) (λc q=>q) λc c q=>q
def zh.laid(x:zh P w H h)(k:∀ b u,h.get? b=BD u->h'.get? b=BD u)(i:h.objs.size<=a)(d:Cj P w (Yb H a o) h' a o):zh P w (Yb H a o) h':=λb u e=>by
 have g:=x.fresh i;by_cases f:b=a
 ·subst f;rw[Lf]at e;cases e;exact d
 ·rw[Dd f]at e;exact(x b u e).mj (λc v j q=>k c v q) (λc q=>by rw[Dd$ Xm q g];exact q) λc xs q=>by rw[Dd$ Xm q g];exact q
end
def Rd(H:Hp)(a:Addr)(u:HO):Prop:=H a=BD u\/∃ o,H a=BD (.zd o u)
def Rd.ok(r:Rd H a u)(x:zh P w H h):Cj P w H h a u:=by
 rcases r with r|⟨o,r⟩
 ·exact x a u r
 ·obtain⟨_,q⟩:=x a _ r;exact q
def yD:Option HO->Prop
 |some (.ra _)=>True
 |some (.dK _)=>True
 |some (.dT _)=>True
 |some (.set _ _)=>True
 |some (.yb _ _ _)=>True
 |some (.ext _)=>True
 |_=>False
section
variable{P:Ca}{w:Ua}{H:Hp}{h h':Heap}{x e:Addr}{o':HO}
def zh.write(ok:zh P w H h)(g:yD$ H x)(p:e=x\/H e=BD (.own x))(k:∀ b u,b≠e->h.get? b=BD u->h'.get? b=BD u)(i:∃ u,h'.get? e=BD u)
  (j:Cj P w (Yb H x o') h' x o'):zh P w (Yb H x o') h':=λb u q=>by
 have d:∀ c y,H c=BD (.own y)->c≠x:=λc y r z=>by subst z;rw[r]at g;exact g
 have f:∀ c xs,H c=BD (.Sa xs)->c≠x:=λc xs r z=>by subst z;rw[r]at g;exact g
 by_cases l:b=x
 ·subst l;rw[Lf]at q;cases q;exact j
 ·rw[Dd l]at q;by_cases a:b=e
  ·have n:H b=BD (.own x):=by
    simp_all
   rw[q]at n;cases n;obtain⟨v,o⟩:=i;exact⟨v,by rw[a];exact o⟩
  ·refine(ok b u q).mj (λc v m r=>k c v ?_ r) (λc r=>by rw[Dd$ d c b r];exact r) λc xs r=>by rw[Dd$ f c xs r];exact r
   rcases m with rfl|m
   ·exact a
   ·rintro rfl
    simp_all
end
structure Un(fs ex:b')(H H':Hp)(h h':Heap):Prop where
 keep:∀ b o,h.get? b=BD o->H b=Α->b ∉ fs->b ∉ ex->h'.get? b=BD o
 slot:∀ b o,h.get? b=BD o->H b=Α->b∈fs->b ∉ ex->∃ sl,h'.get? b=BD { o with slots:=sl }
 free:∀ b o,h.get? b=BD o->H b=Α->b ∉ ex->H' b=Α
 there:∀ b o,h.get? b=BD o->b ∉ ex->∃ o',h'.get? b=BD o'
 Bj:∀ b xs,H b=BD (.Sa xs)->H' b=BD (.Sa xs)
 Uh:∀ b o u,H b=BD (.zd o u)->H' b=BD (.zd o u)
 cj:∀ b ps,H b=BD (.rk ps)->∃ more,H' b=BD (.rk (ps++more))
section
variable{fs fs' ex ex':b'}{H H1 H2:Hp}{h h1 h2 h':Heap}{a x e:Addr}{o:HO}
def Un.any(u:Un fs ex H H1 h h1){a}(q:h.get? b=BD a)(n:H b=Α)(d:b ∉ ex):∃ e,h1.get? b=BD { a with slots:=e }:=by
 by_cases c:b∈fs
 ·exact u.slot b a q n c d
 ·exact⟨a.slots,u.keep b a q n c d⟩
def Un.kept(k:∀ b u,h.get? b=BD u->h'.get? b=BD u):Un fs ex H H h h':=
 ⟨λb a q c c c=>k b a q,λb a q c c c=>⟨a.slots,k b a q⟩,λc c c n c=>n,λb a q c=>⟨a,k b a q⟩,λc c q=>q,λc c c q=>q,λc ps q=>⟨#[],by rw[q];simp⟩⟩
def Un.refl:Un fs ex H H h h:=Un.kept λa a q=>q
def Un.laid(k:∀ b u,h.get? b=BD u->h'.get? b=BD u)(d:h.objs.size<=a)(c:H a=Α):Un fs ex H (Yb H a o) h h' where
 keep:=λb u q e e e=>k b u q
 slot:=λb u q e e e=>⟨u.slots,k b u q⟩
 free:=λb u q n e=>by rw[Dd$ Ba$ La (za q) d];exact n
 there:=λb u q e=>⟨u,k b u q⟩
 Bj:=λb xs q=>by rw[Dd$ Xm q c];exact q
 Uh:=λb u xs q=>by rw[Dd$ Xm q c];exact q
 cj:=λb ps q=>⟨#[],by rw[Dd$ Xm q c,q];simp⟩
def Un.write(a:yD$ H x)(l:e=x\/H e=BD (.own x))(k:∀ b u,b≠e->h.get? b=BD u->h'.get? b=BD u)(g:∃ u,h'.get? e=BD u):Un fs ex H (Yb H x o) h h':=by
 have i:∀ b,H b=Α->b≠x:=λb n z=>by subst z;rw[n]at a;exact a
 have d:∀ b,H b=Α->b≠e:=λb n z=>by
  simp_all
 have c:∀ b u,H b=BD u->¬ yD (BD u)->b≠x:=λb u q j z=>by subst z;rw[q]at a;exact j a
 refine⟨λb u q n m m=>k b u (d b n) q,λb u q n m m=>⟨u.slots,k b u (d b n) q⟩,λb u q n m=>by rw[Dd$ i b n];exact n,λb u q m=>?_,
  λb xs q=>by rw[Dd (c b _ q λz=>z)];exact q,λb u xs q=>by rw[Dd (c b _ q λz=>z)];exact q,λb ps q=>⟨#[],by rw[Dd (c b _ q λz=>z),q];simp⟩⟩
 by_cases f:b=e;all_goals simp_all
end
noncomputable def TR(h:Heap)(H:Hp):b':=(List.range h.objs.size).filter λa=>(H a).isSome
def Lw(h:Heap)(H:Hp):Heap:=W.hideAll h$ TR h H
def i8 h H:(Lw h H).objs.size=h.objs.size:=W.hideAll_size _ _
def zG6(e:h.get? b=BD o)(n:H b=Α):(Lw h H).get? b=BD o:=
 W.hideAll_get _ e λa=>by
  have q:=(Gd.mp a).2
  simp_all
def İz(e:(Lw h H).get? b=BD o):h.get? b=BD o/\H b=Α:=by
 have a:=W.of_hideAll _ e;refine⟨a,?_⟩;cases q:H b with
 |none=>rfl
 |some x=>
  have c:b∈TR h H:=Gd.mpr ⟨qe.mpr$ za a,by simp[q]⟩;have z:(Lw h H).get? b=Α:=W.hideAll_none _ c
  simp_all
noncomputable def Ĝ(g h:Heap)(L:Addr):List$ Addr × Obj:=(List.range h.objs.size).filterMap λa=>if a=L\/(g.get? a).isSome=G6 then Α else (h.get? a).map λo=>(a,o)
def rest(g h:Heap)(L d:Addr):List$ Addr × Obj:=(Ĝ g h L).filter λp=>decide$ p.1≠d
structure Mod(K:W.Frag)(mg:Str->Option Value)(base:Heap):Prop where
 tu:K.In base
 glob:base.Ns mainGlobals mg
 blt:∃ mb,base.Ns builtinsNs mb/\∀ x:Str,x ≠ "__name__"->mb x=bootBuiltins x
 nolimit:base.NoLimit
structure Cx where
 prog:Ca
 w:Ua
 K:W.Frag
 mg:Str->Option Value
 base:Heap
 A:Na
 N:ac
 s₀:Shared
 H₀:Hp
 env:kg
 outer:List kg
 stack:List kg
 ex:b'
 fn:Str->Bool
 Wb:Bool
 pn:i'
 xe:Value->Shared->Prop
noncomputable def sj(l:List kg):b':=l.filterMap (·.frame)
abbrev Cx.fs(X:Cx):b':=sj X.outer
def OD(sc:Scope)(x:Str):Prop:=sc.names.lookup x=BD .local\/sc.names.lookup x=BD .cell\/sc.names.lookup x=BD .free
def Loc(sc:Scope)(x:Str):Prop:=sc.names.lookup x=BD .local\/sc.names.lookup x=BD .cell
def X8(a:kg)(h:Heap)(m:Str->Option Value)(x:Str)(u:Value):Prop:=
 (a.kindOf x=BD .local/\m x=BD u)\/((a.kindOf x=BD .cell\/a.kindOf x=BD .free)/\∃ c,a.cells.lookup x=BD c/\h.IsCell c (BD u))
structure Cx.Ok(X:Cx):Prop where
 mod:Mod X.K X.mg X.base
 kind:X.env.scope.kind=.function
 glob:X.env.globals=mainGlobals
 blt:X.env.builtins=builtinsNs
 above:X.s₀.heap.objs.size<=X.env.locals
 inj:∀ x y c,X.env.cells.lookup x=BD c->X.env.cells.lookup y=BD c->x=y
 has:∀ x,(X.env.kindOf x=BD .cell\/X.env.kindOf x=BD .free)->∃ c,X.env.cells.lookup x=BD c
 aA:∀ x c,X.fn x=G6->X.env.cells.lookup x=BD c->X.s₀.heap.objs.size<=c
 hd:X.Wb=G6->X.A.handled=Α
 frames:X.A.frames=BD X.stack
 vj:X.stack=X.outer\/(X.stack=X.env::X.outer/\X.env.frame=BD X.env.locals)
 HC:∀ b∈X.ex,b≠X.env.locals/\∀ x c,X.env.cells.lookup x=BD c->c≠b
 bs:∀ b o,X.base.get? b=BD o->X.s₀.heap.get? b=BD o/\X.H₀ b=Α
 xt:X.base.objs.size<=X.s₀.heap.objs.size
 br:∀ b o,X.base.get? b=BD o->b ∉ X.ex
 Hq:∀ b∈X.ex,b ∉ X.fs
 Fj:X.s₀.heap.FunFrames X.base X.outer
 gx:∀ b∈X.fs,X.H₀ b=Α
structure db(X:Cx)(pins:i')(σ:List (Option V))(H:Hp)(s:Shared):Prop where
 ok:X.Ok
 os:s.os=X.s₀.os
 bare:Zg s.gens
 base:Un X.fs X.ex X.H₀ H X.s₀.heap s.heap
 loc:∃ m,s.heap.Ns X.env.locals m/\∀ (i:Nat) (x:Str) (v:V),X.N[i]?=BD x->σ[i]?=BD (BD v)->OD X.env.scope x->∃ u,qd v u/\X8 X.env s.heap m x u
 cell:∀ x c,X.env.cells.lookup x=BD c->∃ v,s.heap.IsCell c v
 free:H X.env.locals=Α
 Qf:∀ x c,X.env.cells.lookup x=BD c->H c=Α
 pin:∀ p∈X.pn++pins,s.heap.get? p.1=BD p.2/\H p.1=Α/\p.1≠X.env.locals/\p.1 ∉ X.fs/\∀ v,p.2.data≠.cell v
 Lc:zh X.prog X.w H s.heap
 len:σ.length=X.N.length
section
variable{X:Cx}{pins:List$ Addr × Obj}{σ:List$ Option V}{H H':Hp}{s:Shared}{h':Heap}
def Cx.Ok.vK(ok:X.Ok)(e:X.base.get? b=BD o):b ∉ X.fs:=λa=>by
 have:=(ok.Fj.mem a).1
 simp_all
def db.bs(I:db X pins σ H s):∀ b o,X.base.get? b=BD o->s.heap.get? b=BD o/\H b=Α:=λb o e=>
 ⟨I.base.keep b o (I.ok.bs b o e).1 (I.ok.bs b o e).2 (I.ok.vK e)$ I.ok.br b o e,I.base.free b o (I.ok.bs b o e).1 (I.ok.bs b o e).2$ I.ok.br b o e⟩
def db.bk(I:db X pins σ H s):∀ b o,X.base.get? b=BD o->s.heap.get? b=BD o:=λb o e=>(I.bs b o e).1
def db.mod(I:db X pins σ H s):Mod X.K X.mg X.base:=I.ok.mod
def db.gi(I:db X pins σ H s):X.K.In s.heap:=I.ok.mod.tu.keeps I.bk
def db.nolimit(I:db X pins σ H s):s.heap.NoLimit:=I.ok.mod.nolimit.keeps I.bk
def db.lt(I:db X pins σ H s):X.env.locals<s.heap.objs.size:=let ⟨_,a,_⟩:=I.loc;a.lt
def db.sz(I:db X pins σ H s):X.s₀.heap.objs.size<=s.heap.objs.size:=Ya I.ok.above$ yd I.lt
def db.lD(I:db X pins σ H s)(h:s.heap.objs.size<=a):a ∉ X.fs:=λb=>by
 obtain⟨_,o,c,_⟩:=I.ok.Fj.mem b;exact absurd (La (za c)$ Ya I.sz h)$ Ud _
def db.YB(I:db X pins σ H s):∀ x c,X.env.cells.lookup x=BD c->c≠X.env.locals:=λx c e z=>by
 obtain⟨v,o,h,g⟩:=I.cell x c e;obtain⟨m,⟨i,f,d,b,a,_⟩,_⟩:=I.loc
 simp_all
def db.Fj(I:db X pins σ H s):s.heap.FunFrames X.base X.outer:=by
 have a:∀ l,(∀ b∈sj l,b∈X.fs)->X.s₀.heap.FunFrames X.base l->s.heap.FunFrames X.base l:=by
  intro l;induction l with
  |nil=>intro _ _;trivial
  |cons env r n=>
   rintro g ⟨i,⟨L,o,f,j,k,h⟩,m⟩;have c:=g L (by unfold sj;rw[Ze,f];exact na);obtain⟨p,e⟩:=I.base.slot L o k (I.ok.gx L c) c λz=>I.ok.Hq L z c;exact⟨i,⟨L,_,f,j,e,h⟩,n (λb d=>g b (by unfold sj;rw[Ze,f];exact ma _ d)) m⟩
 exact a X.outer (λq d=>d) I.ok.Fj
def db.stack(I:db X pins σ H s):s.heap.FunFrames X.base X.stack:=by
 rcases I.ok.vj with e|⟨e,a⟩
 ·rw[e];exact I.Fj
 ·rw[e];obtain⟨m,b,_⟩:=I.loc;exact .cons (by rw[I.ok.kind];decide) a b (Heap.get?_none_of_le$ Ya I.ok.xt I.ok.above) I.Fj
def db.Op(I:db X pins σ H s):∀ b∈sj X.stack,b∈X.env.locals::X.fs:=λb a=>by
 rcases I.ok.vj with e|⟨e,c⟩
 ·rw[e]at a;exact ma _ a
 ·rw[e]at a;unfold sj at a
  rwa [Ze,c]at a
def db.lj(I:db X pins σ H s):∀ b∈sj X.stack,H b=Α:=λb a=>by
 rcases Ea.mp (I.Op b a)with e|a
 ·rw[e];exact I.free
 ·obtain⟨_,o,c,_⟩:=I.ok.Fj.mem a;exact I.base.free b o c (I.ok.gx b a) λz=>I.ok.Hq b z a
def db.step{ch:b'}(I:db X pins σ H s)
  (h:∀ b∈ch,(b∈X.ex\/X.s₀.heap.objs.size<=b)/\b≠X.env.locals/\(∀ x c,X.env.cells.lookup x=BD c->c≠b)/\∀ p∈X.pn++pins,p.1≠b)
  (j:∀ b o,b≠X.env.locals->b ∉ X.fs->b ∉ ch->s.heap.get? b=BD o->H b=Α->h'.get? b=BD o)
  (B:∀ b o,b≠X.env.locals->b∈X.fs->b ∉ ch->s.heap.get? b=BD o->H b=Α->∃ Q,h'.get? b=BD { o with slots:=Q }) (f:∀ b o,b ∉ ch->s.heap.get? b=BD o->H b=Α->H' b=Α)
  (D:∀ b o,b ∉ ch->s.heap.get? b=BD o->∃ L,h'.get? b=BD L)
  (N:∀ b xs,H b=BD (.Sa xs)->H' b=BD (.Sa xs)) (G:∀ b o u,H b=BD (.zd o u)->H' b=BD (.zd o u)) (M:∀ b ps,H b=BD (.rk ps)->∃ J,H' b=BD (.rk$ ps++J))
  (ns:∀ m,s.heap.Ns X.env.locals m->h'.Ns X.env.locals m) (P:zh X.prog X.w H' h') (ό:Zg g') :
  db X pins σ H' { s with heap:=h',gens:=g',drawn:=d',toks:=t' }:=by
 have K:∀ b o,X.s₀.heap.get? b=BD o->b≠X.env.locals:=λb o e=>Ba$ La (za e) I.ok.above;have A:∀ b o,X.s₀.heap.get? b=BD o->b ∉ X.ex->b ∉ ch:=λb o e a C=>by
  rcases(h b C).1 with z|z
  ·exact a z
  ·exact absurd (La (za e) z)$ Ud _
 have g:∀ x c,X.env.cells.lookup x=BD c->∀ v,s.heap.IsCell c v->h'.IsCell c v:=λx c e v ⟨o,E,ϋ⟩=>by
  have t:c ∉ ch:=λz=>(h c z).2.2.1 x c e rfl;by_cases S:c∈X.fs
  ·obtain⟨Q,q⟩:=B c o (I.YB x c e) S t E (I.Qf x c e);exact⟨_,q,ϋ⟩
  ·exact⟨o,j c o (I.YB x c e) S t E$ I.Qf x c e,ϋ⟩
 refine⟨I.ok,I.os,ό,⟨λb o e n C a=>?_,λb o e n C a=>?_,λb o e n a=>?_,λb o e a=>?_,λb xs e=>N b xs$ I.base.Bj b xs e,λb o xs e=>G b o xs$ I.base.Uh b o xs e,λb ps e=>?_⟩,?_,λx c e=>?_,?_,λx c e=>?_,λp T=>?_,P,I.len⟩
 ·exact j b o (K b o e) C (A b o e a) (I.base.keep b o e n C a)$ I.base.free b o e n a
 ·obtain⟨Q,y⟩:=I.base.slot b o e n C a;obtain⟨R,F⟩:=B b _ (K b o e) C (A b o e a) y (I.base.free b o e n a);exact⟨R,F⟩
 ·obtain⟨L,y⟩:=I.base.there b o e a;exact f b L (A b o e a) y$ I.base.free b o e n a
 ·obtain⟨L,y⟩:=I.base.there b o e a;exact D b L (A b o e a) y
 ·obtain⟨m1,y⟩:=I.base.cj b ps e;obtain⟨m2,F⟩:=M b _ y;exact⟨m1++m2,by rw[F,pr]⟩
 ·obtain⟨m,hn,ϊ⟩:=I.loc;refine⟨m,ns m hn,λi x v y F W=>?_⟩;obtain⟨u,r,l⟩:=ϊ i x v y F W;refine⟨u,r,?_⟩;rcases l with l|⟨k,c,e,z⟩
  ·exact .inl l
  ·exact .inr ⟨k,c,e,g x c e _ z⟩
 ·obtain⟨v,z⟩:=I.cell x c e;exact⟨v,g x c e v z⟩
 ·obtain⟨m,⟨o,_,_,E,_⟩,_⟩:=I.loc;exact f _ o (λz=>(h _ z).2.1 rfl) E I.free
 ·obtain⟨v,o,E,ϋ⟩:=I.cell x c e;exact f c o (λz=>(h c z).2.2.1 x c e rfl) E$ I.Qf x c e
 ·obtain⟨e,n,U,V,d⟩:=I.pin p T;have t:p.1 ∉ ch:=λz=>(h p.1 z).2.2.2 p T rfl;exact⟨j p.1 p.2 U V t e n,f p.1 p.2 t e n,U,V,d⟩
def db.un(I:db X pins σ H s)(u:Un X.fs [] H H' s.heap h')(g:zh X.prog X.w H' h'):db X pins σ H' { s with heap:=h',toks:=t' }:=by
 obtain⟨m,⟨o,p,l,h,r⟩,_⟩:=id I.loc;obtain⟨v,i⟩:=u.any h I.free ⋯;exact I.step (g':=s.gens) (d':=s.drawn) (ch:=[]) (λq z=>nomatch z) (λb o q f q e n=>u.keep b o e n f ⋯) (λb o q f q e n=>u.slot b o e n f ⋯) (λb o q e n=>u.free b o e n ⋯) (λb o q e=>u.there b o e ⋯) u.Bj u.Uh u.cj (λq j=>by
  obtain⟨t,d,c,a,k⟩:=j;rw[h]at a;cases a;exact⟨_,d,c,i,k⟩) g I.bare
def db.call(I:db X pins σ H s)(u:Un (sj X.stack) ch H H' s.heap h')(j:zh X.prog X.w H' h')(q:Zg g')
  (d:∀ b∈ch,(b∈X.ex\/X.s₀.heap.objs.size<=b)/\b≠X.env.locals/\(∀ x c,X.env.cells.lookup x=BD c->c≠b)/\∀ p∈X.pn++pins,p.1≠b) :
  db X pins σ H' { s with heap:=h',gens:=g',drawn:=d',toks:=t' }:=by
 obtain⟨m,⟨o,A,y,k,r⟩,_⟩:=id I.loc;obtain⟨D,i⟩:=u.any k I.free λz=>(d _ z).2.1 rfl;exact I.step d (λb o i l a e n=>u.keep b o e n (λz=>(Ea.mp$ I.Op b z).elim i l) a) (λb o B B a e n=>u.any e n a) (λb o a e n=>u.free b o e n a) (λb o a e=>u.there b o e a) u.Bj u.Uh u.cj (λB t=>by
  obtain⟨C,h,g,f,v⟩:=t;rw[k]at f;cases f;exact⟨_,h,g,i,v⟩) j q
def db.turned(I:db X pins σ H s)(k:∀ b o,b≠it->s.heap.get? b=BD o->h'.get? b=BD o)(w:H it=Α)(d:it≠X.env.locals)
  (h:it∈X.ex\/X.s₀.heap.objs.size<=it) (i:∀ x c,X.env.cells.lookup x=BD c->c≠it) (j:∀ p∈X.pn++pins,p.1≠it):db X pins σ H { s with heap:=h',toks:=t' }:=by
 have A:∀ b u,H b=BD u->b≠it:=λb u e z=>by rw[z,w]at e;cases e
 refine I.step (g':=s.gens) (d':=s.drawn) (ch:=[it]) (λb l=>?_) (λb o m m a e m=>k b o (λz=>a (by simp[z])) e) (λb o m m a e m=>⟨o.slots,k b o (λz=>a (by simp[z])) e⟩) (λm m m m n=>n)
  (λb o a e=>⟨o,k b o (λz=>a (by simp[z])) e⟩) (λm m e=>e) (λm m m e=>e) (λb ps e=>⟨#[],by rw[e];simp⟩) (λm t=>?_) (λb u e=>?_) I.bare
 ·have e:b=it:=by simpa using l
  subst e;exact⟨h,d,i,j⟩
 ·obtain⟨o,g,f,y,r⟩:=t;exact⟨o,g,f,k _ o (Vd d) y,r⟩
 ·refine(I.Lc b u e).mj (λc v a q=>k c v ?_ q) (λm q=>q) λm m q=>q;rcases a with z|z;all_goals grind
def db.tok(I:db X pins σ H s) t:db X pins σ H { s with toks:=t }:=I.un Un.refl I.Lc
def db.kept(I:db X pins σ H s)(k:∀ b u,s.heap.get? b=BD u->h'.get? b=BD u):db X pins σ H { s with heap:=h',toks:=t' }:=I.un (Un.kept k)$ I.Lc.kept k
def db.laid(I:db X pins σ H s)(k:∀ b u,s.heap.get? b=BD u->h'.get? b=BD u)(c:s.heap.objs.size<=a)(d:Cj X.prog X.w (Yb H a o) h' a o) :
  db X pins σ (Yb H a o) { s with heap:=h',toks:=t' }:=I.un (Un.laid k c$ I.Lc.fresh c)$ I.Lc.laid k c d
def db.write(I:db X pins σ H s)(f:yD$ H x)(d:e=x\/H e=BD (.own x))(k:∀ b u,b≠e->s.heap.get? b=BD u->h'.get? b=BD u)(a:∃ u,h'.get? e=BD u)
  (c:Cj X.prog X.w (Yb H x o) h' x o):db X pins σ (Yb H x o) { s with heap:=h',toks:=t' }:=I.un (Un.write f d k a)$ I.Lc.write f d k a c
def db.mi(I:db X pins σ H s)(h:∀ p∈a,s.heap.get? p.1=BD p.2/\H p.1=Α/\p.1≠X.env.locals/\p.1 ∉ X.fs/\∀ v,p.2.data≠.cell v):db X a σ H s:=
 ⟨I.ok,I.os,I.bare,I.base,I.loc,I.cell,I.free,I.Qf,λp b=>(jc.mp b).elim (λz=>I.pin p$ Za _ z)$ h p,I.Lc,I.len⟩
def cK{N:ac}(e:N.Nodup){i j:Nat}(a:N[i]?=BD x)(b:N[j]?=BD x):i=j:=by
 obtain⟨f,c⟩:=da.mp a;obtain⟨g,d⟩:=da.mp b;exact(Iu e).mp$ c.trans d.symm
def ZR(I:db X pins σ H s)(hN:X.N.Nodup)(T:X.N[i]?=BD x)(B:Loc X.env.scope x)(r:qd v u)
  (h:∀ s',db X pins (σ.set i$ BD v) H s'->(∃ a,gd a s.heap s'.heap/\(a=X.env.locals\/X.env.cells.lookup x=BD a))->Q () s') (hf:X.fn x=G6\/X.env.scope.names.lookup x=BD .local:=by first|exact .inl rfl|exact .inr rfl|assumption):wpAny M A (tE X.env x u) Q E s:=by
 obtain⟨m,hn,hl⟩:=id I.loc;have S:(X.env.scope.kind == .class || (X.env.scope.kind == .module && X.env.locals != X.env.globals))=İ:=by rw[I.ok.kind];rfl
 have F:i<σ.length:=by rw[I.len];exact(da.mp T).1
 have J:=I.YB;have l:∀ {a:Addr} {h':Heap},(∃ o,s.heap.get? a=BD o/\H a=Α)->gd a s.heap h'->zh X.prog X.w H h':=fun {a h'} ha f b ob e=>by
  obtain⟨_,_,C⟩:=ha;refine(I.Lc b ob e).mj (λc w' t q=>(f.2 c ?_).trans q) (λO q=>q) λO O q=>q;rintro rfl;rcases t with rfl|t
  ·rw[C]at e;cases e
  ·rw[C]at t;cases t
 rcases B with G|G
 ·refine wpAny_storeName_local G hn (λh' a0 f=>?_) S;apply b_;intro z_;obtain⟨oL,_,_,a1,_⟩:=id hn;apply z_;refine h _ ⟨I.ok,I.os,I.bare,⟨λb o e n K B=>?_,λb o e n K B=>?_,I.base.free,λb o e B=>?_,I.base.Bj,I.base.Uh,I.base.cj⟩,⟨_,a0,λj y v' g D e3=>?_⟩,λy c e=>?_,I.free,I.Qf,λp hp=>?_,l ⟨oL,a1,I.free⟩ f,by simpa using I.len⟩ ⟨_,f,.inl rfl⟩
  ·exact(f.2 b$ Ba$ La (za e) I.ok.above).trans$ I.base.keep b o e n K B
  ·obtain⟨sl,g⟩:=I.base.slot b o e n K B;exact⟨sl,(f.2 b$ Ba$ La (za e) I.ok.above).trans g⟩
  ·obtain⟨o',g⟩:=I.base.there b o e B;exact⟨o',(f.2 b$ Ba$ La (za e) I.ok.above).trans g⟩
  ·by_cases ϋ:j=i
   ·subst ϋ;rw[T]at g;cases g;rw[Zb F]at D;cases D;exact⟨u,r,.inl ⟨G,by simp⟩⟩
   ·rw[ig$ Vd ϋ]at D;obtain⟨u',r',q⟩:=hl j y v' g D e3;refine⟨u',r',?_⟩;rcases q with⟨k,e⟩|⟨k,c,e,z⟩
    ·refine .inl ⟨k,?_⟩;have:y≠x:=λe=>ϋ$ cK hN g$ e ▸ T;simp[this,e]
    ·exact .inr ⟨k,c,e,z.sameBut f$ J y c e⟩
  ·obtain⟨w',z⟩:=I.cell y c e;exact⟨w',z.sameBut f$ J y c e⟩
  ·obtain⟨e,n,ϊ,nf,d⟩:=I.pin p hp;exact⟨(f.2 p.1 ϊ).trans e,n,ϊ,nf,d⟩
 ·have L:X.fn x=G6:=by
   rcases hf with z|z
   ·exact z
   ·rw[z]at G;cases G
  obtain⟨c,t⟩:=I.ok.has x (.inl G);obtain⟨w',z⟩:=I.cell x c t;refine wpAny_storeName_cell I.ok.kind G t z (λh' P f=>?_);obtain⟨oc,U,W⟩:=id z;refine h { s with heap:=h' } ⟨I.ok,I.os,I.bare,⟨λb o e n K B=>?_,λb o e n K B=>?_,I.base.free,λb o e B=>?_,I.base.Bj,I.base.Uh,I.base.cj⟩,⟨m,hn.sameBut f$ Vd$ J x c t,λj y v' g D e3=>?_⟩,λy ό e=>?_,I.free,I.Qf,λp hp=>?_,l ⟨oc,U,I.Qf x c t⟩ f,by simpa using I.len⟩ ⟨c,f,.inr t⟩
  ·exact(f.2 b$ Ba$ La (za e)$ I.ok.aA x c L t).trans$ I.base.keep b o e n K B
  ·obtain⟨sl,g⟩:=I.base.slot b o e n K B;exact⟨sl,(f.2 b$ Ba$ La (za e)$ I.ok.aA x c L t).trans g⟩
  ·obtain⟨o',g⟩:=I.base.there b o e B;exact⟨o',(f.2 b$ Ba$ La (za e)$ I.ok.aA x c L t).trans g⟩
  ·by_cases ϋ:j=i
   ·subst ϋ;rw[T]at g;cases g;rw[Zb F]at D;cases D;exact⟨u,r,.inr ⟨.inl G,c,t,P⟩⟩
   ·rw[ig$ Vd ϋ]at D;obtain⟨u',r',q⟩:=hl j y v' g D e3;refine⟨u',r',?_⟩;rcases q with q|⟨k,ό,e,z'⟩
    ·exact .inl q
    ·refine .inr ⟨k,ό,e,z'.sameBut f ?_⟩;rintro rfl;exact ϋ$ cK hN g$ I.ok.inj _ _ _ e t ▸ T
  ·by_cases R:ό=c
   ·subst R;exact⟨_,P⟩
   ·obtain⟨w2,z2⟩:=I.cell y ό e;exact⟨w2,z2.sameBut f R⟩
  ·obtain⟨e,n,ϊ,nf,d⟩:=I.pin p hp;refine⟨(f.2 p.1 ?_).trans e,n,ϊ,nf,d⟩;intro q;rw[q,U]at e;have q':oc=p.2:=cc e;exact d w' (by rw[<-q'];exact W)
def cH(I:db X pins σ H s)(c:X.N.Nodup)(e:X.N[i]?=BD x)(f:Loc X.env.scope x)(r:qd v u)
  (h:∀ a,db X pins (σ.set i$ BD v) H a->Q () a) (d:X.fn x=G6\/X.env.scope.names.lookup x=BD .local:=by first|exact .inl rfl|exact .inr rfl|assumption):wpAny M A (tE X.env x u) Q E s:=
 ZR I c e f r (λa b g=>h a b) d
def db.ot(I:db X pins σ H s)(g:s'.os=s.os)(u:Un (sj X.stack) ch H H' s.heap s'.heap)(d:zh X.prog X.w H' s'.heap)(f:Zg s'.gens)
  (a:∀ b∈ch,(b∈X.ex\/X.s₀.heap.objs.size<=b)/\b≠X.env.locals/\(∀ x c,X.env.cells.lookup x=BD c->c≠b)/\∀ p∈X.pn++pins,p.1≠b):db X pins σ H' s':=by
 obtain⟨h',g',d',t',h⟩:=s';have e:=g;subst e;exact I.call u d f a
end
abbrev XK:=Value->Option Addr->Hp->Prop
abbrev St:=List$ Option V
abbrev VK:=V->Hp->Prop
abbrev TE:=St->Hp->VK->Prop
abbrev TT:=St->Hp->(Bool->Hp->Prop)->Prop
abbrev TA:=St->Hp->(lv->Hp->Prop)->Prop
structure Dj where
 nx:St->Hp->Prop
 rt:VK
 bk:St->Hp->Prop:=λa a=>False
 ct:St->Hp->Prop:=λa a=>False
abbrev TS:=Dj->St->Hp->Prop
inductive EP(X:Cx)(pins:i')(σ:St)(Q:VK)(u:Value)(s':Shared):Prop
 |mk (v:V) (H':Hp) (f1:db X pins σ H' s') (f2:qd v u) (f3:Q v H'):EP X pins σ Q u s'
inductive TP(X:Cx)(pins:i')(σ:St)(Q:Bool->Hp->Prop)(b:Bool)(s':Shared):Prop
 |mk (H':Hp) (f1:db X pins σ H' s') (f2:Q b H'):TP X pins σ Q b s'
inductive AP(X:Cx)(pins:i')(σ:St)(Q:lv->Hp->Prop)(us:dl)(s':Shared):Prop
 |mk (vs:lv) (H':Hp) (f1:db X pins σ H' s') (f2:ke vs us) (f3:Q vs H'):AP X pins σ Q us s'
inductive NP(X:Cx)(pins:i')(Q:St->Hp->Prop)(s':Shared):Prop
 |mk (σ':St) (H':Hp) (f1:db X pins σ' H' s') (f2:Q σ' H'):NP X pins Q s'
inductive RP(X:Cx)(pins:i')(Q:VK)(u:Value)(s':Shared):Prop
 |mk (v:V) (σ':St) (H':Hp) (f1:db X pins σ' H' s') (f2:qd v u) (f3:Q v H'):RP X pins Q u s'
def SP(X:Cx)(a:List$ Addr × Obj)(D:Dj)(f:Flow)(b:Shared):Prop:=
 match f with
 | .next=>NP X a D.nx b
 | .brk=>NP X a D.bk b
 | .cont=>NP X a D.ct b
 | .ret u=>RP X a D.rt u b
def PE(X:Cx)(e:Qa)(t:TE):Prop:=
 ∀ (a:List$ Addr × Obj) (s:Shared) (σ:St) (H:Hp) (Q:VK),db X a σ H s->t σ H Q->wpAny (model X.prog X.w) X.A (Lb e X.env) (EP X a σ Q) X.xe s
def PT(X:Cx)(e:Qa)(t:TT):Prop:=
 ∀ (a:List$ Addr × Obj) (s:Shared) (σ:St) (H:Hp) (Q:Bool->Hp->Prop),db X a σ H s->t σ H Q->wpAny (model X.prog X.w) X.A (Nz e X.env$ Lb e X.env) (TP X a σ Q) X.xe s
def PW(X:Cx)(e:Qa)(t:TT):Prop:=
 ∀ (a:Ql Value) (pins:List$ Addr × Obj) (s:Shared) (σ:St) (H:Hp) (Q:Bool->Hp->Prop),db X pins σ H s->t σ H Q->wpAny (model X.prog X.w) X.A (Nz e X.env a) (TP X pins σ Q) X.xe s
def PW.pt(h:PW X e t):PT X e t:=h _
def PA(X:Cx)(b:List Qa)(t:TA):Prop:=
 ∀ (a:Zd) (pins:List$ Addr × Obj) (s:Shared) (σ:St) (H:Hp) (Q:lv->Hp->Prop),db X pins σ H s->t σ H Q->wpAny (model X.prog X.w) X.A (spliced$ pc a$ va b X.env) (AP X pins σ Q) X.xe s
def PS(X:Cx)(st:Stmt)(t:TS):Prop:=
 ∀ (a:List$ Addr × Obj) (s:Shared) (σ:St) (H:Hp) (D:Dj),db X a σ H s->t D σ H->wpAny (model X.prog X.w) X.A (exec st X.env) (SP X a D) X.xe s
def Eu(X:Cx)(st:List Stmt)(t:TS):Prop:=
 ∀ (a:List$ Addr × Obj) (s:Shared) (σ:St) (H:Hp) (D:Dj),db X a σ H s->t D σ H->wpAny (model X.prog X.w) X.A (execs st X.env) (SP X a D) X.xe s
def Fd{t:Ql c}{Q b}(h:wpAny M A t Q E s)(d:∀ a s,Q a s->b a s):wpAny M A t b E s:=dc h d λe e x=>x
section
variable{X:Cx}
def bin(p:PE X a k)(q:PE X b l){R:V->V->Hp->Prop}(I:db X c e H s)(h:k e H λx j=>l e j λy d=>R x y d) {Q} {f:Value->Value->Ql m}
  (r:∀ v u s2 x y d,db X c e d s2->qd x v->qd y u->R x y d->wpAny (model X.prog X.w) X.A (f v u) Q X.xe s2) :
  wpAny (model X.prog X.w) X.A (Lb a X.env) (λv g=>wpAny (model X.prog X.w) X.A (Lb b X.env) (λu i=>wpAny (model X.prog X.w) X.A (f v u) Q X.xe i) X.xe g) X.xe s:=by
 refine Fd (p c s e H _ I h) λv s1 ſ=>?_;obtain⟨x,j,n,B,t⟩:=ſ;refine Fd (q c s1 e j _ n t) λu s2 ſ=>?_;obtain⟨y,d,o,C,z⟩:=ſ;exact r v u s2 x y d o B C z
noncomputable def OP(i:Nat):TE:=λa H Q=>∃ v,a[i]?=BD (BD v)/\Q v H
noncomputable def tC(v:V):TE:=λa H Q=>Q v H
def GQ(n:X.N[i]?=BD x)(t:OD X.env.scope x)(g:(x == ("__debug__" : Str))=İ:=by decide)(f:(x == ("__classdict__" : Str))=İ:=by decide):PE X (.Name x j)$ OP i:=by
 intro d s w H Q I h;obtain⟨v,e,h⟩:=h;obtain⟨m,q,o⟩:=I.loc;obtain⟨u,r,l⟩:=o i x v n e t;have Mf:EP X d w Q u s:=⟨v,H,I,r,h⟩
 rcases l with⟨b,p⟩|⟨b,c,k,a⟩
 ·exact Cz (Wv I.ok.kind b q p Mf) g
 ·rcases b with b|b
  ·exact Cz (zx I.ok.kind b k a Mf) g
  ·exact Cz (wpAny_loadName_free I.ok.kind b k a Mf f) g
def Z2{i j pos}:PE X (.Constant (.int i) j pos)$ tC$ .int i:=λa a a H a I h=>wpAny_Constant_int ⟨.int i,H,I.tok _,⟨_,rfl⟩,h⟩
def ź{b j pos}:PE X (.Constant (.bool b) j pos)$ tC$ .bl b:=λa a a H a I h=>Constant_bool ⟨.bl b,H,I,rfl,h⟩
def W6{j pos}:PE X (.Constant .none j pos)$ tC .ic:=λa a a H a I h=>Constant_none ⟨.ic,H,I,rfl,h⟩
def yjc{x j pos}:PE X (.Constant (.str x) j pos)$ tC$ .str x:=λa a a H a I h=>Calls.Constant_str ⟨.str x,H,I.tok _,⟨_,rfl⟩,h⟩
def Gl(X:Cx)(x:Str):Prop:=X.env.kindOf x=BD .globalImplicit
def xB(I:db X a f H s)(d:Gl X x)(e:X.mg x=BD u)(h:Q u s)
  (c:(x == ("__debug__" : Str))=İ:=by decide):wpAny (model X.prog X.w) X.A (Lb (.Name x b) X.env) Q E s:=
 Yl I.ok.kind d (Calls.loadGlobal_global (by rw[I.ok.glob];exact I.mod.glob.keeps I.bk) e h) c
def vv(I:db X a k H s)(f:Gl X x)(g:X.mg x=Α)(j:bootBuiltins x=BD u)(h:Q u s)
  (i:x ≠ "__name__":=by decide) (e:(x == ("__debug__" : Str))=İ:=by decide):wpAny (model X.prog X.w) X.A (Lb (.Name x b) X.env) Q E s:=by
 obtain⟨l,c,d⟩:=I.mod.blt;exact Yl I.ok.kind f (Calls.loadGlobal_builtin (by rw[I.ok.glob];exact I.mod.glob.keeps I.bk) g (by rw[I.ok.blt];exact c.keeps I.bk) ((d x i).trans j) h) e
def sL(c:Gl X x)(d:X.mg x=BD u)(r:qd v u)(b:(x == ("__debug__" : Str))=İ:=by decide):PE X (.Name x a)$ tC v:=
 λe e e H e I h=>xB I c d ⟨v,H,I,r,h⟩ b
def C2(c:Gl X x)(d:X.mg x=Α)(f:bootBuiltins x=BD u)(r:qd v u)(e:x ≠ "__name__":=by decide)(b:(x == ("__debug__" : Str))=İ:=by decide):PE X (.Name x a)$ tC v:=
 λg g g H g I h=>vv I c d f ⟨v,H,I,r,h⟩ e b
variable{a b:Qa}{ta tb:TE}{pos:Zd}
def PC(X:Cx)(f:Wn)(a b:Qa)(t:TE):Prop:=
 ∀ (c:List$ Addr × Obj) (s:Shared) (σ:St) (H:Hp) (Q:VK),db X c σ H s->t σ H Q->
  wpAny (model X.prog X.w) X.A (Lb a X.env) (λv d=>wpAny (model X.prog X.w) X.A (Lb b X.env) (λu e=>wpAny (model X.prog X.w) X.A (Pb f v u) (EP X c σ Q) X.xe e) X.xe d) X.xe s
def ı b{a}(h:a≠.In)(e:a≠.NotIn):de a b=İ:=by
 have c:(a == WO)=İ:=by cases a<;>first|rfl|exact absurd rfl h
 have d:(a == QB)=İ:=by cases a<;>first|rfl|exact absurd rfl e
 cases b<;>simp[de,c,d]
noncomputable def tB(t:TE):TT:=λb H Q=>t b H λx a=>∃ c,x=.bl c/\Q c a
def yjy(h:PC X g a b t)(f:de g b=İ:=by first|exact ı _ ⋯ ⋯|rfl):PT X (.Compare a [g] [b] pos)$ tB t:=by
 intro e s n H Q I k;refine Ju (Fd (h e s n H _ I k) λv s1 f=>Fd f λu s2 j=>Fd j λc s3 ſ=>?_) f;obtain⟨x,H1,i,m,l⟩:=ſ;obtain⟨d,rfl,q⟩:=l;cases m;exact jd ⟨H1,i,q⟩
def V3(h:PE X e t)(f:∀ a,Nz e X.env a=(do let v <-a;ah e.pos;we [v] (truthy v)):=by intro _;rfl):PT X e$ tB t:=by
 intro b s k H Q I g;refine isTrue_plain (Fd (h b s k H _ I g) λv s1 ⟨x,H1,c,j,i⟩=>?_)$ f _;obtain⟨d,rfl,q⟩:=i;cases j;exact jd ⟨H1,c,q⟩
variable{tA tB':TT}{rest:List Qa}
noncomputable def M6(t u:TT):TT:=λb H Q=>t b H λc a=>if c=G6 then u b a Q else Q İ a
noncomputable def j3(t u:TT):TT:=λb H Q=>t b H λc a=>if c=G6 then Q G6 a else u b a Q
noncomputable def qZ(t:TT):TT:=λb H Q=>t b H λc a=>Q (!c) a
def Y8(d:PT X a tA):PW X (.BoolOp .And [a] pos) tA:=by
 intro g b s f H Q I h;refine isTrue_and (Fd (d b s f H Q I h) λc s1 e=>?_);cases c with
 |true=>exact isTrue_and_nil e
 |false=>exact e
def I0(d:PT X a tA):PW X (.BoolOp .Or [a] pos) tA:=by
 intro g b s f H Q I h;refine isTrue_or (Fd (d b s f H Q I h) λc s1 e=>?_);cases c with
 |false=>exact isTrue_or_nil e
 |true=>exact e
def OZ(i:PT X a tA)(j:PW X (.BoolOp .And (b::rest) pos) tB'):PW X (.BoolOp .And (a::b::rest) pos)$ M6 tA tB':=by
 intro k d s g H Q I h;refine isTrue_and (Fd (i d s g H _ I h) λc s1 ſ=>?_);obtain⟨H1,e,f⟩:=ſ;cases c with
 |true=>exact j k d s1 g H1 Q e f
 |false=>exact⟨H1,e,f⟩
def Ű(i:PT X a tA)(j:PW X (.BoolOp .Or (b::rest) pos) tB'):PW X (.BoolOp .Or (a::b::rest) pos)$ j3 tA tB':=by
 intro k d s g H Q I h;refine isTrue_or (Fd (i d s g H _ I h) λc s1 ſ=>?_);obtain⟨H1,e,f⟩:=ſ;cases c with
 |true=>exact⟨H1,e,f⟩
 |false=>exact j k d s1 g H1 Q e f
def ģ(c:PT X a tA):PT X (.UnaryOp .Not a pos)$ qZ tA:=by
 intro b s d H Q I h;refine isTrue_not (Fd (c b s d H _ I h) λe e zZ=>?_);obtain⟨H1,i,q⟩:=zZ;exact ⟨H1,i,q⟩
noncomputable def Á(ta tb:TE):TE:=λb H Q=>ta b H λx a=>∃ c,x=.bl c/\if c=G6 then tb b a Q else Q (.bl İ) a
noncomputable def J0(ta tb:TE):TE:=λb H Q=>ta b H λx a=>∃ c,x=.bl c/\if c=G6 then Q (.bl G6) a else tb b a Q
noncomputable def L9(ta:TE):TE:=λb H Q=>ta b H λx a=>∃ c,x=.bl c/\Q (.bl$ !c) a
def Ū{op}(h:PE X a t):PE X (.BoolOp op [a] pos) t:=λb s d H Q I c=>BoolOp_one$ h b s d H Q I c
def X6(i:PE X a ta)(j:PE X (.BoolOp .And (b::rest) pos) tb):PE X (.BoolOp .And (a::b::rest) pos)$ Á ta tb:=by
 intro d s g H Q I h;refine BoolOp_and (Fd (i d s g H _ I h) λv s1 ſ=>?_);obtain⟨x,H1,f,k,e⟩:=ſ;obtain⟨c,rfl,e⟩:=e;cases k;refine jd ?_;cases c with
 |true=>exact j d s1 g H1 Q f e
 |false=>exact⟨.bl İ,H1,f,rfl,e⟩
def G5(i:PE X a ta)(j:PE X (.BoolOp .Or (b::rest) pos) tb):PE X (.BoolOp .Or (a::b::rest) pos)$ J0 ta tb:=by
 intro d s g H Q I h;refine BoolOp_or (Fd (i d s g H _ I h) λv s1 ſ=>?_);obtain⟨x,H1,f,k,e⟩:=ſ;obtain⟨c,rfl,e⟩:=e;cases k;refine jd ?_;cases c with
 |false=>exact j d s1 g H1 Q f e
 |true=>exact⟨.bl G6,H1,f,rfl,e⟩
def yja(f:PE X a ta):PE X (.UnaryOp .Not a pos)$ L9 ta:=by
 intro b s i H Q I h;refine UnaryOp_ (Fd (f b s i H _ I h) λv s1 ſ=>?_);obtain⟨x,H1,e,g,d⟩:=ſ;obtain⟨c,rfl,d⟩:=d;cases g;exact not_of$ jd ⟨.bl$ !c,H1,e,rfl,d⟩
noncomputable def F1(t:TT)(ta tb:TE):TE:=λa H Q=>t a H λc b=>if c=G6 then ta a b Q else tb a b Q
def ğ(l:PT X c tA)(j:PE X a ta)(k:PE X b tb):PE X (.IfExp c a b pos)$ F1 tA ta tb:=by
 intro e s f H Q I h;refine wpAny_IfExp (Fd (l e s f H _ I h) λd s1 ſ=>?_);obtain⟨H1,g,i⟩:=ſ;cases d with
 |true=>exact j e s1 f H1 Q g i
 |false=>exact k e s1 f H1 Q g i
end
def Ie(K:W.Frag)(H:Hp)(a:Addr)(xs:lv):Prop:=
 Rd H a (.ra xs)\/
  ∃ (o:Obj) (b:Array Value) (n:Nat),K.lookup a=BD o/\o.cls=.type "list"/\o.dict=Α/\o.data=.seq b n/\b.size<=sizeLine/\ke xs b.toList
def Ig(K:W.Frag)(H:Hp)(a:Addr)(xs:lv):Prop:=
 Rd H a (.Sa xs)\/
  ∃ (o:Obj) (b:Array Value) (n:Nat),K.lookup a=BD o/\o.cls=.type "tuple"/\o.data=.seq b n/\b.size<=sizeLine/\ke xs b.toList
noncomputable def eZ:Value->Option V
 | .none=>BD .ic
 | .bool b=>BD (.bl b)
 | .int i _=>BD (.int i)
 | .str x _=>BD (.str x)
 | .bytes b _=>BD (.XH b)
 | .float b _=>BD (.cy b)
 | .ref a=>BD (.ref a)
 | .type n=>BD (.ty n)
 |_=>Α
theorem qd.abs(r:qd x u):eZ u=BD x:=by
 cases x with
 |ic=>cases r;rfl
 |bl _=>cases r;rfl
 |int _=>obtain⟨t,rfl⟩:=r;rfl
 |str _=>obtain⟨t,rfl⟩:=r;rfl
 |XH _=>obtain⟨t,rfl⟩:=r;rfl
 |cy _=>obtain⟨t,rfl⟩:=r;rfl
 |ref _=>cases r;rfl
 |ty _=>cases r;rfl
def qd.inj(r:qd x u)(q:qd y u):x=y:=cc$ r.abs.symm.trans q.abs
theorem ke.inj{xs a:lv}{us}(h:ke xs us)(g:ke a us):xs=a:=by
 induction h generalizing a with
 |nil=>cases g;rfl
 |cons r t i=>cases g with|cons b c=>rw[r.inj b,i c]
section
variable{X:Cx}{pins:List$ Addr × Obj}{σ:St}{H:Hp}{s:Shared}{a:Addr}{xs ys:lv}
def Ie.of{K}(h:H a=BD (.ra xs)):Ie K H a xs:=.inl$ .inl h
def Ig.of{K}(h:H a=BD (.Sa xs)):Ig K H a xs:=.inl$ .inl h
def db.list(I:db X pins σ H s)(h:Ie X.K H a xs):∃ b:dl,ke xs b/\PlainL s.heap a b.toArray/\xs.length<=sizeLine:=by
 rcases h with h|⟨o,b,n,f,c,d,g,i,r⟩
 ·obtain⟨z,b,n,r,e⟩:=h.ok I.Lc;exact⟨b,r,⟨_,n,e,rfl,rfl,rfl⟩,z⟩
 ·refine⟨b.toList,r,⟨o,n,I.gi a o f,c,d,by simpa using g⟩,?_⟩;have e:=r.length
  grind
def db.tuple(I:db X pins σ H s)(h:Ig X.K H a xs):∃ b:dl,ke xs b/\IsTup s.heap a b.toArray/\xs.length<=sizeLine:=by
 rcases h with h|⟨o,b,n,d,c,f,g,r⟩
 ·obtain⟨z,b,r,p⟩:=h.ok I.Lc;exact⟨b,r,p,z⟩
 ·refine⟨b.toList,r,⟨o,I.gi a o d,c,n,by simpa using f⟩,?_⟩;have e:=r.length;simp[Kb]at e
  lia
def db.Yi(I:db X pins σ H s)(h:Ie X.K H a xs)(h':Ie X.K H a ys):xs=ys:=by
 obtain⟨b,r,⟨o,n,e,_,_,d⟩,_⟩:=I.list h;obtain⟨its',f,⟨i,g,c,_,_,d'⟩,_⟩:=I.list h';rw[e]at c;cases c;rw[d]at d';injection d' with d1 _;have:b=its':=by simpa using Cb Array.toList d1
 subst this;exact r.inj f
def db.Vq(I:db X pins σ H s)(h:Ig X.K H a xs)(h':Ig X.K H a ys):xs=ys:=by
 obtain⟨b,r,⟨o,e,_,n,d⟩,_⟩:=I.tuple h;obtain⟨its',f,⟨i,c,_,g,d'⟩,_⟩:=I.tuple h';rw[e]at c;cases c;rw[d]at d';injection d' with d1 _;have:b=its':=by simpa using Cb Array.toList d1
 subst this;exact r.inj f
end
section
variable{X:Cx}{st:Stmt}{rest:List Stmt}{t u:TS}{e:Qa}{te:TE}{pos:Zd}
noncomputable def à:TS:=λD a H=>D.nx a H
noncomputable def Ó(t u:TS):TS:=λD a H=>t { D with nx:=u D } a H
def XQ:Eu X [] à:=λb b a H b I h=>Si ⟨a,H,I,h⟩
def GX(e:PS X st t)(g:Eu X rest u):Eu X (st::rest)$ Ó t u:=by
 intro a s i H D I h;refine mE (Fd (e a s i H { D with nx:=u D } I h) λf s1 q=>?_);cases f with
 |next=>
  obtain⟨b,c,d,q⟩:=q;exact g a s1 b c D d q
 |ret v=>exact q
 |brk=>exact q
 |cont=>exact q
def Ā(b:PS X st t):Eu X [st] t:=by
 intro a s c H D I h;refine mE (Fd (b a s c H D I h) λf s1 q=>?_);cases f with
 |next=>exact Si q
 |ret v=>exact q
 |brk=>exact q
 |cont=>exact q
def db.quiet(I:db X a b H s):interactive X.env=İ:=by simp[interactive,I.ok.kind]
noncomputable def K9(te:TE):TS:=λD a H=>te a H λc b=>D.nx a b
def nZ(d:PE X e te)(f:Bg e Α pos.line X.env=pure İ:=by rfl):PS X (.Expr e pos)$ K9 te:=by
 intro a s b H D I h;exact wpAny_Expr_any (Fd (d a s b H _ I h) (by rintro v s1 ⟨x,H1,c,i,g⟩;exact ⟨b,H1,c,g⟩)) I.quiet f
noncomputable def ř(te:TE):TS:=λD a H=>te a H D.rt
def O2(d:PE X e te):PS X (.Return (BD e) pos)$ ř te:=by
 intro a s b H D I h;refine wpAny_Return_some (Fd (d a s b H _ I h) λv s1 zZ=>?_);obtain⟨x,H1,c,g,f⟩:=zZ;exact ⟨x,b,H1,c,g,f⟩
noncomputable def F4(c:TT)(t u:TS):TS:=λD a H=>c a H λb d=>if b=G6 then t D a d else u D a d
def fY(m:PT X c j)(k:Eu X a t)(l:Eu X b u):PS X (.If c a b pos)$ F4 j t u:=by
 intro e s f H D I h;refine wpAny_If (Fd (m e s f H _ I h) λd s1 ſ=>?_);obtain⟨H1,g,i⟩:=ſ;cases d with
 |true=>exact k e s1 f H1 D g i
 |false=>exact l e s1 f H1 D g i
end
abbrev TG:=V->St->Hp->(St->Hp->Prop)->Prop
abbrev qx:=lv->St->Hp->(St->Hp->Prop)->Prop
def PG(X:Cx)(a:Qa)(t:TG):Prop:=
 ∀ (b:List$ Addr × Obj) (s:Shared) (σ:St) (H:Hp) (v:V) (u:Value) (Q:St->Hp->Prop),db X b σ H s->qd v u->t v σ H Q->
  wpAny (model X.prog X.w) X.A (Sj a X.env u) (λd c=>NP X b Q c) X.xe s
def uD(X:Cx)(d:List Qa)(t:qx):Prop:=
 ∀ (a:List$ Addr × Obj) (s:Shared) (σ:St) (H:Hp) (b:lv) (us:dl) (Q:St->Hp->Prop),db X a σ H s->ke b us->t b σ H Q->
  wpAny (model X.prog X.w) X.A (assignInOrder ((ge d X.env).map (·.2)) us) (λe c=>NP X a Q c) X.xe s
abbrev NG:=V->V->V->Hp->(Hp->Prop)->Prop
def YS(X:Cx)(t:NG):Prop:=
 ∀ (a:List$ Addr × Obj) (s:Shared) (σ:St) (H:Hp) (o i v:V) (d c u:Value) (Q:Hp->Prop),db X a σ H s->qd o d->qd i c->qd v u->t o i v H Q->
  wpAny (model X.prog X.w) X.A (Xt d c u) (λf e=>∃ b,db X a σ b e/\Q b) X.xe s
abbrev HG:=V->V->Hp->VK->Prop
def ML(X:Cx)(b:Tj)(t:HG):Prop:=
 ∀ (a:List$ Addr × Obj) (s:Shared) (σ:St) (H:Hp) (x y:V) (v u:Value) (Q:VK),db X a σ H s->qd x v->qd y u->t x y H Q->
  wpAny (model X.prog X.w) X.A (uE b v u) (EP X a σ Q) X.xe s
section
variable{X:Cx}{pos:Zd}
noncomputable def aT(i:Nat):TG:=λv a H Q=>Q (a.set i$ BD v) H
def K6(c:X.N.Nodup)(e:X.N[i]?=BD x)(f:Loc X.env.scope x)(d:X.fn x=G6\/X.env.scope.names.lookup x=BD .local:=by first|exact .inl rfl|exact .inr rfl|assumption):PG X (.Name x pos)$ aT i:=by
 intro a s j H v u Q I r h;exact DB$ cH I c e f r (λg b=>⟨_,H,b,h⟩) d
noncomputable def Z8:qx:=λa b H Q=>a=[]/\Q b H
noncomputable def O9(t:TG)(u:qx):qx:=λc d H Q=>∃ v r,c=v::r/\t v d H λa b=>u r a b Q
def L6:uD X [] Z8:=by
 intro a s b H d c Q I r h;obtain⟨rfl,h⟩:=h;cases r;exact assignInOrder_nil ⟨b,H,I,h⟩
def l4(f:PG X e t)(g:uD X b u)
  (i:(ge (e::b) X.env).map (·.2)=Sj e X.env::(ge b X.env).map (·.2):=by rfl):uD X (e::b)$ O9 t u:=by
 intro a s l H o m Q I r h;obtain⟨v,n,rfl,h⟩:=h;cases r with
 |cons r k=>
  rw[i];refine assignInOrder_cons (Fd (f a s l H _ _ _ I r h) λp s1 zZ=>?_);obtain⟨c,H1,d,j⟩:=zZ;exact g a s1 c H1 _ _ Q d k j
noncomputable def ŉ(K:W.Frag)(n:Nat)(t:qx):TG:=λv b H Q=>∃ a xs,v=.ref a/\Ig K H a xs/\xs.length=n/\t xs b H Q
def T7(m:X.Wb=G6)(h:uD X d t)
  (q:(ge d X.env).length=n:=by rfl) (f:(ge d X.env).findIdx? (·.1)=Α:=by rfl):PG X (.Tuple d k pos)$ ŉ X.K n t:=by
 intro c s j H v u Q I r g;obtain⟨a,xs,rfl,w,p,g⟩:=g;cases r;obtain⟨z,i,x,A⟩:=I.tuple w;refine assign_Tuple_tuple (I.ok.hd m) x (by simp[q,<-p,i.length]) f λh' y=>?_;have l:db X c j H { s with heap:=h' }:=I.kept (t':=s.toks) λb o e=>y b o (Ba$ za e) e;exact h c _ j H xs _ Q l (by simpa using i) g
noncomputable def œ(f e:TE)(t:NG):TG:=λv a H Q=>f a H λo b=>e a b λi c=>t o i v c λd=>Q a d
def cW(q:PE X o f)(p:PE X i e)(w:YS X t)
  (n:∀ v,Sj (.Subscript o i pos) X.env v=(do
   let b <-we [v] (Lb o X.env);let c <-we [v,b] (Lb i X.env)
   ah pos
   we [v,b,c] (Xt b c v)
   release [v,b,c] []):=by intro _;rfl):PG X (.Subscript o i pos)$ œ f e t:=by
 intro a s d H v u Q I r h;rw[n];refine aa$ gc (Fd (q a s d H _ I h) λb s1 zZ=>?_);obtain⟨x,H1,k,C,z⟩:=zZ;refine aa$ gc$ Fd (p a s1 d H1 _ k z) λc s2 zZ=>?_;obtain⟨y,g,l,D,A⟩:=zZ;refine aa$ qr$ aa$ gc (Fd (w a s2 d g x y v b c u _ l C D r A) λE s3 zZ=>?_);obtain⟨j,m,B⟩:=zZ;exact wpAny_release ⟨d,j,m,B⟩
noncomputable def KW(c:TE)(g:TG):TS:=λD a H=>c a H λx b=>g x a b D.nx
def vO(j:PE X e c)(k:PG X b g)(l:Xk [b] e pos.line X.env=pure İ:=by rfl)(m:Yk [b] e X.env=pure Α:=by rfl)
  (i:(ge [b] X.env).map (·.2)=[Sj b X.env]:=by rfl):PS X (.Assign [b] e pos)$ KW c g:=by
 intro a s d H D I h;refine wpAny_Assign_stores (Fd (j a s d H _ I h) λv s1 ſ=>?_) l m;obtain⟨x,H1,f,o,n⟩:=ſ;rw[i];exact Fd (k a s1 d H1 x v _ f o n) λp s2 q=>q
def f9(g:X.N.Nodup)(l:X.N[i]?=BD x)(n:Loc X.env.scope x)(j:PE X e c)(m:Bg e (BD$ .Name x a) pos.line X.env=pure İ:=by rfl)(k:X.fn x=G6\/X.env.scope.names.lookup x=BD .local:=by first|exact .inl rfl|exact .inr rfl|assumption) :
  PS X (.Assign [.Name x a] e pos)$ KW c$ aT i:=by
 intro b s q H D I h;refine wpAny_Assign_Name (Fd (j b s q H _ I h) λv s1 ſ=>?_) m;obtain⟨y,H1,d,p,o⟩:=ſ;exact cH d g l n p (λs2 f=>⟨_,H1,f,o⟩) k
noncomputable def S1(i:Nat)(d:TE)(e:HG):TS:=λD a H=>∃ x,a[i]?=BD (BD x)/\d a H λy b=>e x y b λz c=>D.nx (a.set i$ BD z) c
def R4(M:X.N.Nodup)(t:X.N[i]?=BD x)(n:Loc X.env.scope x)(P:PE X e B)(U:ML X o C)(Q:X.fn x=G6\/X.env.scope.names.lookup x=BD .local:=by first|exact .inl rfl|exact .inr rfl|assumption) :
  PS X (.AugAssign (.Name x f) o e pos)$ S1 i B C:=by
 intro a s E H D I h;obtain⟨v,L,h⟩:=h;obtain⟨m,T,R⟩:=I.loc;have p:OD X.env.scope x:=by rcases n with k|k;exact .inl k;exact .inr$ .inl k
 obtain⟨u,r,l⟩:=R i x v t L p;refine wpAny_AugAssign_Name ?_;have q:wpAny (model X.prog X.w) X.A (Lb e X.env) (λw g=>wpAny (model X.prog X.w) X.A (uE o u w) (λr j=>wpAny (model X.prog X.w) X.A (tE X.env x r) (λz=>SP X a D .next) X.xe j) X.xe g) X.xe s:=by
  refine Fd (P a s E H _ I h) λw s1 ſ=>?_;obtain⟨y,H1,G,ό,V⟩:=ſ;refine Fd (U a s1 E H1 v y u w _ G r ό V) λz s2 ſ=>?_;obtain⟨zv,F,J,ϊ,W⟩:=ſ;exact cH J M t n ϊ (λs3 K=>⟨_,F,K,W⟩) Q
 rcases l with⟨b,S⟩|⟨b,c,ϋ,d⟩
 ·exact Wv I.ok.kind b T S q
 ·rcases b with b|b
  ·exact zx I.ok.kind b ϋ d q
  ·rcases n with k|k
   ·have:X.env.scope.names.lookup x=BD .free:=b;rw[k]at this;cases this
   ·have:X.env.scope.names.lookup x=BD .free:=b;rw[k]at this;cases this
noncomputable def fT(f:Int->Int->Int):HG:=λx y H Q=>∃ i j,x=.int i/\y=.int j/\Q (.int$ f i j) H
def BS:ML X .Add (fT λi j=>i+j):=by
 rintro a s f H x y v u Q I d e ⟨i,j,b,c,q⟩;subst b;subst c;obtain⟨t,rfl⟩:=d;obtain⟨t',rfl⟩:=e;exact iadd_int ⟨.int _,H,I.tok _,⟨_,rfl⟩,q⟩
end
structure It where
 go:Nat->Hp->Prop
 zA:Nat->Hp->V->Hp->Prop
 stop:Nat->Hp->Prop
def Ak(X:Cx)(a:List$ Addr × Obj)(H:Hp)(b:Addr):Prop:=
 H b=Α/\b≠X.env.locals/\b ∉ X.fs/\(b∈X.ex\/X.s₀.heap.objs.size<=b)/\(∀ x c,X.env.cells.lookup x=BD c->c≠b)/\∀ p∈X.pn++a,p.1≠b
def db.Nm(I:db X a i H s)(d:s.heap.objs.size<=b)(g:f b=Α):Ak X a f b:=by
 refine⟨g,Td$ La I.lt d,I.lD d,.inr$ Ya I.sz d,λx c e z=>?_,λp h z=>?_⟩
 ·obtain⟨v,q⟩:=I.cell x c e;exact absurd (La q.lt$ by simp_all)$ Ud _
 ·exact absurd (La (za (I.pin p h).1)$ by simp_all)$ Ud _
structure Vm(P:Ca)(w:Ua)(K:W.Frag)(tg:Qa)(J:It)(fp:b')(it:Addr)(tn:Nat->Heap->Prop):Prop where
 mem:it∈fp
 obj:∀ i h,tn i h->∀ b∈fp,∃ o,h.get? b=BD o/\∀ v,o.data≠.cell v
 keep:∀ i h h',tn i h->(∀ b∈fp,∀ o,h.get? b=BD o->h'.get? b=BD o)->tn i h'
 item:∀ (X:Cx),X.prog=P->X.w=w->X.K=K->X.Wb=G6->∀ (i:Nat) (pins:i') (s:Shared) (σ:St) (H:Hp) (E:Value->Shared->Prop),db X pins σ H s->(∀ b∈fp,Ak X pins H b)->tn i s.heap->J.go i H->
  wpAny (model P w) X.A (pyNext (.ref it)) (λr s1=>∃ u,r=BD u/\
   wpAny (model P w) X.A (letOwnedTupleGo tg (.ref it) u) (λa s2=>∃ x H',db X pins σ H' s2/\qd x u/\J.zA i H x H'/\tn (i+1) s2.heap/\∀ b∈fp,H' b=Α) E s1) E s
 done:∀ (X:Cx),X.prog=P->X.w=w->X.K=K->X.Wb=G6->∀ (i:Nat) (pins:i') (s:Shared) (σ:St) (H:Hp) (E:Value->Shared->Prop),db X pins σ H s->(∀ b∈fp,Ak X pins H b)->tn i s.heap->J.stop i H->
  wpAny (model P w) X.A (pyNext (.ref it)) (λr s1=>r=Α/\db X pins σ H s1) E s
 self:∀ (A:Na) (i:Nat) (s:Shared) (Q:Value->Shared->Prop) (E:Value->Shared->Prop),tn i s.heap->Q (.ref it) s->wpAny (model P w) A (pyIter (.ref it)) Q E s
abbrev TI:=St->Hp->(It->Hp->Prop)->Prop
def dX(X:Cx)(a:List$ Addr × Obj)(i:St)(h:Qa)(R:It->Hp->Prop)(d:Value)(s2:Shared):Prop:=
 ∃ (f:Addr) (e:b') (g:Nat->Heap->Prop) (J:It) (c:Hp),d=.ref f/\db X a i c s2/\Vm X.prog X.w X.K h J e f g/\g 0 s2.heap/\(∀ b∈e,Ak X a c b)/\R J c
def PI(X:Cx)(c b:Qa)(d:TI):Prop:=
 ∀ (a:List$ Addr × Obj) (s:Shared) (σ:St) (H:Hp) (R:It->Hp->Prop),db X a σ H s->d σ H R->
  wpAny (model X.prog X.w) X.A (Lb b X.env) (λv s1=>wpAny (model X.prog X.w) X.A (pyIter v) (dX X a σ c R) X.xe s1) X.xe s
def dI (g : s.heap.get? b = BD o) (e : o.cls = .type n) (f : o.data = .fields d)
    (h : ["enumerate","zip","dict_itemiterator","dict_reverseitemiterator","odict_iterator","itertools.zip_longest","itertools.pairwise"].contains n = İ) (a : Q () s) : wpAny M A (letOwnedTupleGo c (.ref b) u) Q E s := by
  cases c <;> first
    | exact ga a
    | (cases u <;> first
        | exact ga a
        | (refine aa$ ul g ?_
           rw [e, f];show wpAny M A (if (["enumerate","zip","dict_itemiterator","dict_reverseitemiterator","odict_iterator","itertools.zip_longest","itertools.pairwise"].contains n && d[0]? == BD _) = G6 then _ else _) Q E s;rw [ua ⋯];exact ga a))
noncomputable def iL(K:W.Frag)(a:Addr):It:=
 ⟨λi H=>∃ xs x,Ie K H a xs/\xs[i]?=BD x,λi H x b=>b=H/\∀ xs,Ie K H a xs->xs[i]?=BD x,λi H=>∃ xs,Ie K H a xs/\xs.length<=i⟩
noncomputable def yK(K:W.Frag)(a:Addr):It:=
 ⟨λi H=>∃ xs x,Ig K H a xs/\xs[i]?=BD x,λi H x b=>b=H/\∀ xs,Ig K H a xs->xs[i]?=BD x,λi H=>∃ xs,Ig K H a xs/\xs.length<=i⟩
noncomputable def UI(lo:Int)(n:Nat):It:=⟨λi b=>i<n,λi H x a=>a=H/\x=.int (lo+i),λi b=>n<=i⟩
def Y5{P:Ca}{w:Ua}{K:W.Frag}{T:Qa}(a j:Addr):Vm P w K T (iL K a) [j] j (λi h=>h.IsListIter j a i) where
 mem:=by simp
 obj:=λi h st b g=>by
  have e:b=j:=by simpa using g
  subst e;obtain⟨o,e,c,d⟩:=st
  simp_all
 keep:=λi h h' st k=>st.at λo e=>k j ⋯ o e
 item:=by
  intro X A C z J i f s L H E I m st B;subst A C z;obtain⟨xs,x,n,D⟩:=B;obtain⟨F,G,p,R⟩:=I.list n;obtain⟨u,V,S⟩:=G.get D;obtain⟨q,r,ϋ,t,v,y⟩:=m j ⋯;refine wpAny_pyNext_list_item st p.isList (x:=u) ⋯ λh' l sb=>?_;have M:db X f L H { s with heap:=h' }:=I.turned (λb o g e=>(sb.2 b g).trans e) q r t v y;obtain⟨o,e,c,d⟩:=id l;exact⟨u,rfl,dI (s:={ s with heap:=h' }) e c d ⋯ ⟨x,H,M,S,⟨rfl,λό Q=>by rw[I.Yi Q n];exact D⟩,l,λb g=>(m b g).1⟩⟩
 done:=by
  intro X A C z J i f s L H E I m st B;subst A C z;obtain⟨xs,n,D⟩:=B;obtain⟨F,G,p,R⟩:=I.list n;obtain⟨q,r,ϋ,t,v,y⟩:=m j ⋯;have U:=G.length;exact wpAny_pyNext_list_end (I.ok.hd J) st p.isList (by simp;lia) λh' N=>⟨rfl,I.turned (t':=s.toks) (λb o g e=>N b o g e) q r t v y⟩
 self:=λO O O O O st h=>wpAny_pyIter_listiter st h
def t6{P:Ca}{w:Ua}{K:W.Frag}{U:Qa}(a j:Addr):Vm P w K U (yK K a) [j] j (λi h=>h.IsTupleIter j a i) where
 mem:=by simp
 obj:=λi h st b g=>by
  have e:b=j:=by simpa using g
  subst e;obtain⟨o,e,c,d⟩:=st
  simp_all
 keep:=λi h h' st k=>st.at λo e=>k j ⋯ o e
 item:=by
  intro X B D A J i f s L H E I n st C;subst B D A;obtain⟨xs,x,q,F⟩:=C;obtain⟨l,G,p,S⟩:=I.tuple q;obtain⟨u,Q,T⟩:=G.get F;obtain⟨r,t,ϋ,v,y,z⟩:=n j ⋯;refine wpAny_pyNext_tuple_item st (show s.heap.IsTuple a l.toArray from p) (x:=u) (by simpa using Q) λh' m sb=>?_;have M:db X f L H { s with heap:=h' }:=I.turned (t':=s.toks) (λb o g e=>(sb.2 b g).trans e) r t v y z;obtain⟨o,e,c,d⟩:=id m;exact⟨u,rfl,dI e c d ⋯ ⟨x,H,M,T,⟨rfl,λό R=>by rw[I.Vq R q];exact F⟩,m,λb g=>(n b g).1⟩⟩
 done:=by
  intro X B D A J i f s L H E I n st C;subst B D A;obtain⟨xs,q,F⟩:=C;obtain⟨l,G,p,S⟩:=I.tuple q;obtain⟨r,t,ϋ,v,y,z⟩:=n j ⋯;have V:=G.length;exact wpAny_pyNext_tuple_end (I.ok.hd J) st (show s.heap.IsTuple a l.toArray from p) (by simp;lia) λh' N=>⟨rfl,I.turned (t':=s.toks) (λb o g e=>N b o g e) r t v y z⟩
 self:=λO O O O O st h=>wpAny_pyIter_tupleiter st h
def o7{P:Ca}{w:Ua}{K:W.Frag}{L:Qa}(c:Addr)(lo:Int)(n:Nat):Vm P w K L (UI lo n) [c] c (λi h=>IsRangeIter h c (lo+(i:Nat) * 1) ((n:Int) - (i:Nat)) 1) where
 mem:=by simp
 obj:=λi h st b d=>by
  simp_all
 keep:=λi h h' st k=>k c ⋯ _ st
 item:=by
  intro X u z r x i a s B H E I g st y;subst u z r;obtain⟨j,l,F,m,p,q⟩:=g c ⋯;refine(Walks.range (w:=X.w) (I.ok.hd x) c lo 1 n).item i s _ _ y st λv h' A G f J=>?_;obtain⟨t,rfl⟩:=G;have C:db X a B H { s with heap:=h',toks:=A }:=I.turned (λb o d e=>J b o (by simpa using d) e) j l m p q;refine⟨_,rfl,dI (s:={ s with heap:=h',toks:=A }) (n:="range_iterator") f rfl rfl ⋯ ⟨.int _,H,C,⟨t,?_⟩,⟨rfl,rfl⟩,f,λb d=>(g b d).1⟩⟩;simp
 done:=by
  intro X u z r x i a s B H E I g st y;subst u z r;obtain⟨j,l,F,m,p,q⟩:=g c ⋯;exact wpAny_pyNext_range_end (I.ok.hd x) st (by have:n<=i:=y;lia) λh' D=>⟨rfl,I.turned (t':=s.toks) (λb o d e=>D b o d e) j l m p q⟩
 self:=λv v v v v st h=>wpAny_pyIter_rangeiter st h
section
variable{X:Cx}{tg:Qa}
def zW{lo a}(I:db X c f H s)(j:-(2 ^ 62)<=lo)(k:lo<2 ^ 62)(l:-(2 ^ 62)<=a)(m:a<2 ^ 62)
  (q:R (UI lo (a - lo).toNat) H):wpAny (model X.prog X.w) X.A (pyIter$ .ref s.heap.objs.size) (dX X c f tg R) E { s with heap:=s.heap.push { cls:=.type "range",data:=.fields #[.int lo t,.int a u,.int 1 v] },toks:=g }:=by
 refine wpAny_pyIter_range (IsRange.new ..) (small_one j k l m) ?_;have d:db X c f H { s with heap:=s.heap.push { cls:=.type "range",data:=.fields #[.int lo t,.int a u,.int 1 v] },toks:=g }:=I.kept λb o e=>ja _ e;refine⟨(s.heap.push { cls:=.type "range",data:=.fields #[.int lo t,.int a u,.int 1 v] }).objs.size,[(s.heap.push { cls:=.type "range",data:=.fields #[.int lo t,.int a u,.int 1 v] }).objs.size],_,_,H,rfl,
  d.kept λb o e=>ja _ e,o7 _ lo (a - lo).toNat,?_,λb n=>?_,q⟩
 ·have h:lo+(0:Nat) * 1=lo:=by simp
  have i:((a - lo).toNat) - (0:Nat)=vE lo a 1:=by rw[rangeSize_one];split<;>lia
  rw[h,i];exact Fa _ rfl
 ·have e:b=(s.heap.push { cls:=.type "range",data:=.fields #[.int lo t,.int a u,.int 1 v] }).objs.size:=by simpa using n
  subst e;exact d.Nm (ya _)$ d.Lc.fresh$ ya _
def ĭ(b:TA):TI:=λd H R=>b d H λc a=>∃ j:Int,c=[.int j]/\-(2 ^ 62)<=j/\j<2 ^ 62/\R (UI 0 j.toNat) a
def Q7(b:TA):TI:=λd H R=>b d H λc a=>∃ i j:Int,c=[.int i,.int j]/\(-(2 ^ 62)<=i/\i<2 ^ 62/\-(2 ^ 62)<=j/\j<2 ^ 62)/\R (UI i (j - i).toNat) a
def K7(i:Gl X "range")(k:X.mg "range" = Α)(g:PA X [a] e)(l:va [a] X.env=[(İ,Lb a X.env)]:=by rfl):PI X tg (.Call (.Name "range" p) [a] [] c)$ ĭ e:=by
 intro b s u H R I h;refine Call_$ vv I i k boot_range$ Cd (Fd (g c b s u H _ I h) λus s1 ſ=>?_) l rfl;obtain⟨v,H1,f,n,d⟩:=ſ;obtain⟨j,rfl,d,m,q⟩:=d;cases n with
 |cons r o=>
  cases o;obtain⟨t,rfl⟩:=r;exact call_range_1$ zW f ⋯ ⋯ d m ⋯
def L8(n:Gl X "range")(o:X.mg "range" = Α)(m:PA X [a,b] k)(A:va [a,b] X.env=[(İ,Lb a X.env),(İ,Lb b X.env)]:=by rfl)(e:va [b] X.env=[(İ,Lb b X.env)]:=by rfl) :
  PI X tg (.Call (.Name "range" p) [a,b] [] d)$ Q7 k:=by
 intro c s z H R I h;refine Call_$ vv I n o boot_range$ Cd (Fd (m d c s z H _ I h) λus s1 ⟨B,H1,l,y,f⟩=>?_) ⋯ (by rw[e];rfl);apply b_;intro z_;obtain⟨i,j,rfl,⟨f,u,v,w⟩,q⟩:=f;apply z_;cases y with
 |cons r g=>
  cases g with
  |cons x g=>
   apply b_;intro z_;cases g;obtain⟨t,rfl⟩:=r;obtain⟨t',rfl⟩:=x;apply z_;exact call_range_2$ zW l f u v w q
noncomputable def t0(k:TI)(g:TG)(j:TS):TS:=λD a H=>k a H λJ f=>∃ W:Nat->Nat->St->Hp->Prop,(∃ m,W 0 m a f)/\∀ i m a H,W i m a H->
 (J.stop i H/\D.nx a H)\/(J.go i H/\∃ N:St->Hp->Prop,(∀ c b,N c b->∃ e,e<m/\W (i+1) e c b)/\∀ x b,J.zA i H x b->g x a b λd h=>j { D with nx:=N,ct:=N,bk:=D.nx } d h)
noncomputable def cG(a:b')(h:Heap):List$ Addr × Obj:=a.filterMap λb=>(h.get? b).map λo=>(b,o)
def IH(c:b∈a)(e:h.get? b=BD o):(b,o)∈cG a h:=yj.mpr ⟨b,c,by rw[e];rfl⟩
def E2(d:p∈cG a h):p.1∈a/\h.get? p.1=BD p.2:=by
 obtain⟨b,f,e⟩:=yj.mp d;cases q:h.get? b with
 |none=>simp_all
 |some o=>
  rw[q]at e;have c:=cc e;subst c
  simp_all
def db.pinned(I:db X a g H s)(h:∀ b∈c,Ak X a H b)(i:∀ b∈c,∃ o,s.heap.get? b=BD o/\∀ v,o.data≠.cell v):db X (a++cG c s.heap) g H s:=
 I.mi λp j=>(jc.mp j).elim (λz=>I.pin p$ Wa _ z) λz=>by
  obtain⟨f,e⟩:=E2 z;obtain⟨l,m,n,_⟩:=h p.1 f;obtain⟨o,k,d⟩:=i p.1 f
  simp_all
def db.kj(I:db X (a++pl) b H s):db X a b H s:=I.mi λp c=>I.pin p$ Wa _$ Za _ c
def gW{V}(K:gn (model X.prog X.w) X.A X.env X.xe)(hc:X.Wb=G6)(hi:PI X tg q wi)(hg:PG X tg g)(p:Eu X C tb)
  (hs:∀ x,pe q X.env x=pure x:=by intro _;rfl):PS X (.For tg q C [] V)$ t0 wi g tb:=by
 intro c s σ H D I h;refine wpAny_For (Fd (hi c s σ H _ I h) λv s1 h1=>Fd h1 λa0 s2 h2=>?_) hs;apply b_;intro z_;obtain⟨it,R,tn,J,H2,e,I2,T,ϊ,f2,W,⟨m0,w0⟩,Yy⟩:=h2;subst e;have t:∀ {B:Hp},(∀ b∈R,B b=Α)->∀ b∈R,Ak X c B b:=λhn b p=>⟨hn b p,(f2 b p).2⟩
 apply z_;refine codeAny_forLoop_any (λn s'=>∃ i y B,db X c y B s'/\tn i s'.heap/\(∀ b∈R,B b=Α)/\W i n y B) ?_ m0 ⟨0,σ,H2,I2,ϊ,λb p=>(f2 b p).1,w0⟩;rintro n s3 ⟨i,z,Q,I3,M,G,w3⟩;rcases Yy i n z Q w3 with⟨P,qn⟩|⟨go,N,hN,ϋ⟩
 ·refine Mg K (Fd (T.done X rfl rfl rfl hc i c s3 z Q X.xe I3 (t G) M P) λr s4 zZ=>?_);obtain⟨U,I4⟩:=zZ;subst U;exact Si ⟨z,Q,I4,qn⟩
 ·refine Mg K (Fd (T.item X rfl rfl rfl hc i c s3 z Q X.xe I3 (t G) M go) λr s4 ſ=>?_);apply b_;intro z_;obtain⟨u,U,h4⟩:=ſ;subst U;apply z_;refine Mg K (Fd h4 λr s5 zZ=>?_);obtain⟨x,H5,I5,r5,y5,F,S⟩:=zZ;refine Mg K$ Fd (hg _ s5 z H5 x u _ (I5.pinned (t S)$ T.obj _ _ F) r5$ ϋ x H5 y5) λr s6 zZ=>?_;obtain⟨σ6,H6,I6,q6⟩:=zZ;refine Mg K$ Fd (p _ s6 σ6 H6 _ I6 q6) λf ό E=>?_;have l:∀ {a:St} {j:Hp},db X _ a j ό->N a j->∃ m,m<n/\∃ i y B,db X c y B ό/\tn i ό.heap/\(∀ b∈R,B b=Α)/\W i m y B:=fun {a j} k L=>by
   apply b_;intro z_;obtain⟨m',hm,w7⟩:=hN a j L;apply z_;refine⟨m',hm,i+1,a,j,k.kj,T.keep _ _ _ F λb p o e=>(k.pin (b,o)$ Wa _$ Wa _$ IH p e).1,λb p=>?_,w7⟩;obtain⟨o,e,d⟩:=T.obj _ _ F b p;exact(k.pin (b,o)$ Wa _$ Wa _$ IH p e).2.1
  cases f with
  |next=>obtain⟨a,j,k,L⟩:=E;exact l k L
  |cont=>obtain⟨a,j,k,L⟩:=E;exact l k L
  |brk=>obtain⟨a,j,k,E⟩:=E;exact⟨a,j,k.kj,E⟩
  |ret v=>obtain⟨x7,a,j,k,r7,E⟩:=E;exact⟨x7,a,j,k.kj,r7,E⟩
end
abbrev R2:=V->V->Hp->VK->Prop
def yh(X:Cx)(f:Value->Value->Ql Value)(r:R2):Prop:=
 ∀ (a:List$ Addr × Obj) (s:Shared) (σ:St) (H:Hp) (x y:V) (v u:Value) (Q:VK),db X a σ H s->qd x v->qd y u->r x y H Q->
  wpAny (model X.prog X.w) X.A (f v u) (EP X a σ Q) X.xe s
def vI(X:Cx)(f:Value->Ql Value)(r:V->Hp->VK->Prop):Prop:=
 ∀ (a:List$ Addr × Obj) (s:Shared) (σ:St) (H:Hp) (x:V) (v:Value) (Q:VK),db X a σ H s->qd x v->r x H Q->
  wpAny (model X.prog X.w) X.A (f v) (EP X a σ Q) X.xe s
def Xl(X:Cx)(f:Value)(r:lv->Hp->VK->Prop):Prop:=
 ∀ (a:List$ Addr × Obj) (s:Shared) (σ:St) (H:Hp) (xs:lv) (us:dl) (Q:VK),db X a σ H s->ke xs us->r xs H Q->
  wpAny (model X.prog X.w) X.A (call f us) (EP X a σ Q) X.xe s
noncomputable def gA(r:R2)(d e:TE):TE:=λa H Q=>d a H λx b=>e a b λy c=>r x y c Q
def F9(r:V->Hp->VK->Prop)(b:TE):TE:=λc H Q=>b c H λx a=>r x a Q
def rI(C:Int->Int->Prop)(g:Int->Int->V):R2:=λx y H Q=>∃ i j,x=.int i/\y=.int j/\C i j/\Q (g i j) H
noncomputable def Cp(g:Int->Int->V):R2:=λx y H Q=>∃ i j,x=.int i/\y=.int j/\Q (g i j) H
def rU(g:Int->V):V->Hp->VK->Prop:=λx H Q=>∃ i,x=.int i/\Q (g i) H
section
variable{X:Cx}{a b c:Qa}{ta tb tc:TE}{pos:Zd}
def lM(m:PE X a ta)(n:PE X b tb){c}{R:V->V->Hp->Prop}(I:db X c e H s)
  (h:ta e H λx j=>tb e j λy d=>R x y d) {f:Value->Value->Ql Value}
  (o:∀ v u s2 x y d,db X c e d s2->qd x v->qd y u->R x y d->wpAny (model X.prog X.w) X.A (f v u) Q X.xe s2) :
  wpAny (model X.prog X.w) X.A (Lb a X.env) (λv g=>wpAny (model X.prog X.w) X.A (Lb b X.env) (λu i=>wpAny (model X.prog X.w) X.A (f v u) Q X.xe i) X.xe g) X.xe s:=by
 refine Fd (m c s e H _ I h) λv s1 zZ=>?_;obtain⟨x,j,k,r,p⟩:=zZ;refine Fd (n c s1 e j _ k p) λu s2 zZ=>?_;obtain⟨y,d,l,t,q⟩:=zZ;exact o v u s2 x y d l r t q
def Ź(j:yh X (Ae d) r)(g:PE X a ta)(i:PE X b tb):PE X (.BinOp a d b pos)$ gA r ta tb:=by
 intro c s m H Q I h;exact wpAny_BinOp (lM g i I h λv u s2 x y e f k l q=>j c s2 m e x y v u Q f k l q)
def MY{c}(g:vI X (unaryOp c) r)(f:PE X a ta):PE X (.UnaryOp c a pos)$ F9 r ta:=by
 intro b s d H Q I h;refine UnaryOp_ (Fd (f b s d H _ I h) λv s1 zZ=>?_);obtain⟨x,H1,e,j,i⟩:=zZ;exact g b s1 d H1 x v Q e j i
def DH{g:Int->Int->Int}
  (a:∀ i j t u s Q E,C i j->Q (.int (g i j) s.toks) { s with toks:=s.toks+1 }->wpAny (model X.prog X.w) X.A (f (.int i t)$ .int j u) Q E s) :
  yh X f (rI C λi j=>.int$ g i j):=by
 rintro b s h H x y v u Q I d e ⟨i,j,rfl,rfl,c,q⟩;obtain⟨t,rfl⟩:=d;obtain⟨t',rfl⟩:=e;exact a i j t t' s _ _ c ⟨.int _,H,I.tok _,⟨_,rfl⟩,q⟩
def VT{g:Int->Int->Int}
  (a:∀ i j t u s Q E,Q (.int (g i j) s.toks) { s with toks:=s.toks+1 }->wpAny (model X.prog X.w) X.A (f (.int i t)$ .int j u) Q E s) :
  yh X f (Cp λi j=>.int$ g i j):=by
 rintro b s e H x y v u Q I c d ⟨i,j,rfl,rfl,q⟩;obtain⟨t,rfl⟩:=c;obtain⟨t',rfl⟩:=d;exact a i j t t' s _ _ ⟨.int _,H,I.tok _,⟨_,rfl⟩,q⟩
def TH{g:Int->Int->Bool}
  (a:∀ i j t u s Q E,Q (.bool$ g i j) s->wpAny (model X.prog X.w) X.A (f (.int i t)$ .int j u) Q E s) :
  yh X f (Cp λi j=>.bl$ g i j):=by
 rintro b s e H x y v u Q I c d ⟨i,j,rfl,rfl,q⟩;obtain⟨t,rfl⟩:=c;obtain⟨t',rfl⟩:=d;exact a i j t t' s _ _ ⟨.bl _,H,I,rfl,q⟩
def nS(i j:Int):Prop:=0<j/\j<1073741824
def cQ(i j:Int):Prop:=0<=j/\j<=1000000/\i.natAbs<2 ^ 64
def RI(i j:Int):Prop:=(-(2 ^ 64)<i/\i<2 ^ 64)\/(-(2 ^ 64)<j/\j<2 ^ 64)
def RI.ok(h:RI i j):IntMulOk i j:=by
 rcases h with⟨a,b⟩|⟨a,b⟩
 ·exact .of_left$ pY a b
 ·exact .of_right$ pY a b
def Ò:yh X (Ae .Add) (Cp λi j=>.int$ i+j):=VT λa a a a a a a q=>add_int q
def Ü:yh X (Ae .Sub) (Cp λi j=>.int$ i - j):=VT λa a a a a a a q=>sub_int q
def Ŵ:yh X (Ae .Mult) (rI RI λi j=>.int$ i * j):=DH λb b b b b b b a q=>mul_int q a.ok
def ű:yh X (Ae .FloorDiv) (rI nS λi j=>.int$ i / j):=DH λi j d d d d d a q=>by
 have b:(0:Int)<j:=a.1;have c:j<1073741824:=a.2;exact floordiv_int ⋯ ⋯$ .inl$ PyProof.noPylong_small ⋯
def jW:yh X (Ae .Mod) (rI (λc j=>0<j) λi j=>.int$ i % j):=DH λi j c c c c c a q=>by
 have b:=a;exact mod_int' ⋯ (by rw[Int.fmod_eq_emod_of_nonneg i ⋯];exact q)
def w9:yh X (Ae .Pow) (rI cQ λi j=>.int$ i ^ j.toNat):=DH λb b b b b b b a q=>pow_int_small a.1 a.2.1 a.2.2 q
def C1{g:Int->Int}
  (a:∀ i t s Q E,Q (.int (g i) s.toks) { s with toks:=s.toks+1 }->wpAny (model X.prog X.w) X.A (f$ .int i t) Q E s) :
  vI X f (rU λi=>.int$ g i):=by
 rintro b s d H x v Q I c ⟨i,rfl,q⟩;obtain⟨t,rfl⟩:=c;exact a i t s _ _ ⟨.int _,H,I.tok _,⟨_,rfl⟩,q⟩
def T8:vI X (unaryOp .USub) (rU λi=>.int$ -i):=C1 λd d d d d q=>neg_int q
end
section
variable{X:Cx}{a b c:Qa}{ta tb tc:TE}{pos:Zd}
def qU{a}{c}{k b}(I:db X a c H s)(q:Q (.bl k) H)(e:k=b):EP X a c Q (.bool b) s:=by
 subst e;exact⟨.bl k,H,I,rfl,q⟩
def qL:yh X (Pb .Lt) (Cp λi j=>.bl$ decide$ i<j):=TH λa a a a a a a q=>lt_int q
def NI:yh X (Pb .LtE) (Cp λi j=>.bl$ decide$ i<=j):=TH λa a a a a a a q=>le_int q
def iX:yh X (Pb .Gt) (Cp λi j=>.bl$ decide$ j<i):=TH λa a a a a a a q=>gt_int q
def nN:yh X (Pb .GtE) (Cp λi j=>.bl$ decide$ j<=i):=TH λa a a a a a a q=>ge_int q
theorem MR:yh X (Pb .Is) (λx y H Q=>y=.ic/\Q (.bl$ decide$ x=.ic) H):=by
 rintro a s d H x y v u Q I b c ⟨rfl,q⟩;cases c;refine is_none_gen$ qU I q ?_;cases x<;>first
  |(cases b;rfl)
  |(obtain⟨t,rfl⟩:=b;rfl)
theorem VV:yh X (Pb .IsNot) (λx y H Q=>y=.ic/\Q (.bl$ !decide (x=.ic)) H):=by
 rintro a s d H x y v u Q I b c ⟨rfl,q⟩;cases c;refine isnot_none_gen$ qU I q ?_;cases x<;>first
  |(cases b;rfl)
  |(obtain⟨t,rfl⟩:=b;rfl)
def um b{a}(h:a≠.In:=by decide)(e:a≠.NotIn:=by decide):de a b=İ:=by
 have c:(a == WO)=İ:=by cases a<;>first|rfl|exact absurd rfl h
 have d:(a == QB)=İ:=by cases a<;>first|rfl|exact absurd rfl e
 cases b<;>simp[de,c,d]
def T6(k:yh X (Pb d) r)(g:PE X a ta)(i:PE X b tb)(j:de d b=İ):PE X (.Compare a [d] [b] pos)$ gA r ta tb:=by
 intro c s n H Q I h;exact wpAny_Compare1 (lM g i I h λv u s2 x y e f l m q=>k c s2 n e x y v u Q f l m q) j
noncomputable def D3(t:TE):TT:=λb H Q=>t b H λx a=>∃ k,x=.bl k/\Q k a
def eL(t:yh X (Pb f) r)(o:PE X a ta)(p:PE X b tb)(q:de f b=İ):PT X (.Compare a [f] [b] pos)$ D3$ gA r ta tb:=by
 intro d s g H Q I h;refine Ju (Fd (o d s g H _ I h) λv s1 ⟨x,H1,l,C,w⟩=>Fd (p d s1 g H1 _ l w) λu s2 ⟨y,i,m,D,A⟩=>
  Fd (t d s2 g i x y v u _ m C D A) λc s3 ⟨z,j,n,E,k,e,B⟩=>?_) q
 subst e;cases E;exact jd ⟨j,n,B⟩
noncomputable def G3(r f:R2)(ta tb tc:TE):TE:=λa H Q=>ta a H λx c=>tb a c λy d=>r x y d λz b=>∃ k,z=.bl k/\
 (if k=G6 then tc a b λg e=>f y g e Q else Q (.bl İ) b)
def ŭ(J:yh X (Pb l) r)(j:yh X (Pb g) p)(D:PE X a ta)(E:PE X b tb)(F:PE X c tc)
  (G:lastMarks [l,g] [b,c]=İ:=by with_unfolding_all rfl):PE X (.Compare a [l,g] [b,c] pos)$ G3 r p ta tb tc:=by
 intro f s i H Q I h;refine Compare_chain (Fd (D f s i H _ I h) λv s1 ⟨x,H1,A,N,K⟩=>chain_link (Fd (E f s1 i H1 _ A K) λu s2 ⟨y,t,B,q,L⟩=>
  Fd (J f s2 i t x y v u _ B N q L) λd s3 ⟨z,m,n,ϋ,k,e,o⟩=>?_)) G
 subst e;cases ϋ;refine jd ?_;cases k with
 |false=>exact ite_ff ⟨.bl İ,m,n,rfl,o⟩
 |true=>refine ite_tt$ chain_last (Fd (F f s3 i m _ n o) λR s4 zZ=>?_);obtain⟨S,w,C,P,M⟩:=zZ;exact j f s4 i w y S u R Q C q P M
def iK: sizeLine <2 ^ 63:=by rw[sizeLine_eq];decide
def LY:yh X (Ae .Add) (λx y H Q=>∃ i j,x=.str i/\y=.str j/\i.length+j.length<=sizeLine/\Q (.str$ i++j) H):=by
 rintro a s f H x y v u Q I c d ⟨i,j,rfl,rfl,b,q⟩;obtain⟨t,rfl⟩:=c;obtain⟨t',rfl⟩:=d;exact add_str (λt' e=>⟨.str _,H,I.tok _,⟨_,rfl⟩,q⟩) b
def bq{a}(r:ke [x] a):∃ u,a=[u]/\qd x u:=by
 cases r with
 |cons b c=>cases c;exact⟨_,rfl,b⟩
def QM{a}(r:ke [x,y] a):∃ u b,a=[u,b]/\qd x u/\qd y b:=by
 cases r with
 |cons c d=>
  cases d with
  |cons e f=>cases f;exact⟨_,_,rfl,c,e⟩
def X5(c:X.Wb=G6):Xl X (.builtin "max") (λxs H Q=>∃ i j,xs=[.int i,.int j]/\Q (.int$ if j > i then j else i) H):=by
 rintro b s g H xs e Q I r ⟨i,j,rfl,q⟩;obtain⟨u,f,rfl,⟨t,rfl⟩,⟨t',rfl⟩⟩:=QM r;refine max_two_ints (I.ok.hd c) λh' d k=>⟨_,H,I.kept k,?_,q⟩
 by_cases a:j > i
 ·rw[ka a,ka a];exact⟨_,rfl⟩
 ·rw[ua a,ua a];exact⟨_,rfl⟩
def rT(c:X.Wb=G6):Xl X (.builtin "min") (λxs H Q=>∃ i j,xs=[.int i,.int j]/\Q (.int$ if j<i then j else i) H):=by
 rintro b s g H xs e Q I r ⟨i,j,rfl,q⟩;obtain⟨u,f,rfl,⟨t,rfl⟩,⟨t',rfl⟩⟩:=QM r;refine min_two_ints (I.ok.hd c) λh' d k=>⟨_,H,I.kept k,?_,q⟩
 by_cases a:j<i
 ·rw[ka a,ka a];exact⟨_,rfl⟩
 ·rw[ua a,ua a];exact⟨_,rfl⟩
def Ħ:Xl X (.type "int") (λxs H Q=>(∃ i,xs=[.int i]/\Q (.int i) H)\/∃ k,xs=[.bl k]/\Q (.int$ if k then 1 else 0) H):=by
 intro a s c H xs b Q I r h;rcases h with⟨i,rfl,q⟩|⟨k,rfl,q⟩
 ·obtain⟨u,rfl,t,rfl⟩:=bq r;exact call_int_int ⟨.int i,H,I,⟨_,rfl⟩,q⟩
 ·obtain⟨u,rfl,rfl⟩:=bq r;exact call_int_bool ⟨.int _,H,I.tok _,⟨_,rfl⟩,q⟩
end
structure vp(h:Heap)(x dx C:Addr)(mA:Str->Option Value):Prop where
 obj:h.get? x=BD (W.instObj C dx)
 ns:h.Ns1 dx mA
 ne:dx≠x
set_option tactic.hygienic true in
def n5{h:Heap}(n:h.Ns1 d f):∃ g,h.get? d=BD g/\∀ b,W.lookIn b g=BD (f b):=by
 obtain⟨o,i,r,m,j,k,_,l⟩:=n;refine⟨o,m,λb=>?_⟩;have e:=l b;unfold nsFind findBy at e;rw[<-Array.find?_toList]at e;unfold W.lookIn;rw[j];dsimp only;split
 ·rename_i y q
  grind
 ·rename_i q
  rw[q]at e;have a:i.toList.any (·.refKey)=İ:=by
   rw[ek];intro y p;obtain⟨z,t,c⟩:=k y (Array.mem_toList_iff.mp p);simp[zaF,c]
  grind
def vp.look(I:vp h x c C d):∃ b,W.InstAt h x (W.instObj C c) C (BD b)/\∀ a,W.lookIn a b=BD (d a):=
 let ⟨b,f,e⟩:=n5 I.ns
 ⟨b,⟨I.obj,rfl,rfl,f⟩,e⟩
section
variable{prog:Ca}{w:Ua}{A:Na}{E:Value->Shared->Prop}{s:Shared}{K:W.Frag}{x dx C f:Addr}{mA:Str->Option Value}{name:Str}{v:Value}
def zwn(X:K.In s.heap)(I:vp s.heap x dx C mA)(d:W.plainGet K C name=G6)(e:W.hasDictIn K C=G6)
  (c:W.findIn K (.ref C) name=BD Α) (g:mA name=BD v) (b:W.handedIn v=G6) (h:Q v { s with toks:=s.toks+1 }) :
  wpAny (model prog w) A (getAttr (.ref x) name a) Q E s:=by
 obtain⟨i,J,f⟩:=I.look;exact W.get_value X J (W.plainGet_of d).1 (W.findObj_own e c rfl$ by simp_all) b h
def C6(X:K.In s.heap)(I:vp s.heap x dx C mA)(a:W.plainGet K C name=G6)
  (b:W.findIn K (.ref C) name=BD (BD$ .ref f)) (d:W.isFn K (.ref f)=G6) (e:mA name=Α) (h:Q (.ref f,[.ref x]) s) :
  wpAny (model prog w) A (lh (.ref x) name pl) Q E s:=by
 obtain⟨g,J,c⟩:=I.look;exact W.method_fn X J (W.plainGet_of a).1 (W.plainGet_of a).2 b (Jg.mp d) (by show (W.lookIn name g).map (·.isSome)=BD İ;rw[c,e];rfl) h
def ħ(X:K.In s.heap)(I:vp s.heap x dx C mA)
  (p:W.findIn K (.ref C) "__setattr__" = BD (BD$ .builtin "object.__setattr__")) (o:W.plainOver K C=G6) (t:W.takerIn K C name=BD Α) (n:W.hasDictIn K C=G6)
  (u:PySem.Within mA j) (q:j.length<=sizeLine)
  (h:∀ h',vp h' x dx C (λy=>if y=name then BD v else mA y)->gd dx s.heap h'->Q () { s with heap:=h',toks:=s.toks+2 }) :
  wpAny (model prog w) A (setAttr (.ref x) name v) Q E s:=by
 obtain⟨F,J,D⟩:=I.look;refine W.set_plain X J p (W.osa_open (r:=Α) X J o t λb=>?_);apply b_;intro z_;obtain⟨B,m,f⟩:=W.any_some n;have z:=I.obj;apply z_;refine aa$ ga$ aa$ aa$ wpAny_loadPart z$ aa$ W.Looks.here (W.looks_clsIn X m) ?_;rw[f];refine ga (a:=BD dx)$ aa$ ga$ aa (wpAny_nsSet1 I.ns λh' c d=>?_);apply b_;intro z_;obtain⟨oD,l,k,i,g,e⟩:=c.count (jJ name v u);apply z_;exact aa$ wpAny_lookBehind i (by rw[g];exact pastItsLine_dict$ Ya e (by rw[lb];lia))$ ga$ h _ ⟨(d.2 _$ Vd I.ne).trans I.obj,c,I.ne⟩ d
def Ō(X:K.In s.heap)(j:W.makesIn K C=G6)
  (i:W.findIn K (.ref C) "__init__" = BD (BD$ .ref f)) (e:W.typeIn K (.ref f)=BD (.type "function"))
  (h:codeAny (model prog w) (A.under$ .builtin "type.__call__" ⟨.ref C::c,b⟩) (.call (.ref f) ⟨.ref (s.heap.objs.size+1)::c,b⟩) (W.InitBack (s.heap.objs.size+1) R)
   { s with heap:=(s.heap.push W.emptyDict).push (W.instObj C s.heap.objs.size) }) :
  codeAny (model prog w) A (.call (.ref C) ⟨c,b⟩) R s:=by
 obtain⟨k,g,d,t,l⟩:=s;exact W.make_core (W.makes_of X j) (W.looks_findIn X i) (λa=>W.bind_fn X a e) (.inl rfl) h
end
noncomputable def Tl(f:Str)(v:V):List (Str × V)->List (Str × V)
 |[]=>[(f,v)]
 |(g,x)::r=>if g=f then (g,v)::r else (g,x)::Tl f v r
theorem eP(f g:Str)(v:V):∀ c:List$ Str × V,(Tl f v c).lookup g=if g=f then BD v else c.lookup g
 |[]=>by
  show List.lookup g [(f,v)]=_;by_cases h:g=f
  ·have a:(g == f)=G6:=Jg.mpr h;simp[List.lookup,a,ka h]
  simp_all
 |(k,x)::r=>by
  rw[show Tl f v _=(if k=f then (k,v)::r else (k,x)::Tl f v r)from rfl];by_cases b:k=f
  ·rw[ka b];by_cases h:g=k
   ·have a:(g == k)=G6:=Jg.mpr h;simp[List.lookup,a,ka$ h.trans b]
   ·have a:(g == k)=İ:=be.mpr h;simp[List.lookup,a,ua (λe:g=f=>h$ e.trans b.symm)]
  ·rw[ua b];by_cases h:g=k
   ·have a:(g == k)=G6:=Jg.mpr h;simp[List.lookup,a,ua (λe:g=f=>b$ h.symm.trans e)]
   ·have a:(g == k)=İ:=be.mpr h;simp only[List.lookup,a];exact(eP f g v r)
theorem KM(f:Str)(v:V):∀ a:List$ Str × V,f∈(Tl f v a).map (·.1)/\∀ g,g∈a.map (·.1)->g∈(Tl f v a).map (·.1)
 |[]=>⟨by simp[Tl],λg h=>by simp at h⟩
 |(k,x)::r=>by
  obtain⟨c,d⟩:=KM f v r;rw[show Tl f v ((k,x)::r)=(if k=f then (k,v)::r else (k,x)::Tl f v r)from rfl];by_cases b:k=f
  ·rw[ka b]
   simp_all
  ·rw[ua b];refine⟨?_,λg h=>?_⟩
   ·rw[nb];exact ma _ c
   ·rw[nb]at h ⊢;rcases Ea.mp h with e|e
    ·exact Ea.mpr$ .inl e
    ·exact ma _$ d g e
theorem mW(f:Str)(v:V):∀ a:List$ Str × V,(Tl f v a).length<=a.length+1
 |[]=>by simp[Tl]
 |(k,x)::r=>by
  have c:=mW f v r;rw[show Tl f v _=(if k=f then (k,v)::r else (k,x)::Tl f v r)from rfl];by_cases b:k=f;all_goals simp_all
def Wm.some_of(r:Wm (BD v) o):∃ u,o=BD u/\qd v u:=by
 cases o with
 |none=>exact(r).elim
 |some u=>exact⟨u,rfl,r⟩
def Wm.none_of(r:Wm Α o):o=Α:=by
 cases o with
 |none=>rfl
 |some u=>exact(r).elim
theorem K0(r:qd v u):W.handedIn u=G6:=by
 cases v with
 |ic=>cases (r);rfl
 |bl b=>cases (r);rfl
 |int i=>obtain⟨t,e⟩:=(r);cases e;rfl
 |str x=>obtain⟨t,e⟩:=(r);cases e;rfl
 |XH b=>obtain⟨t,e⟩:=(r);cases e;rfl
 |cy b=>obtain⟨t,e⟩:=(r);cases e;rfl
 |ref a=>cases (r);rfl
 |ty n=>cases (r);rfl
section
variable{P:Ca}{w:Ua}{H H':Hp}{h h':Heap}{a C dx:Addr}{fs fs':List$ Str × V}
def JF(c:zh P w H h)(e:H a=BD (.yb C dx fs)):∃ b,vp h a dx C b/\(∀ f,Wm (fs.lookup f) (b f))/\PySem.Within b (fs.map (·.1))/\fs.length<=1000/\H dx=BD (.own a):=by
 obtain⟨d,z,g,ob,b,n,r,q⟩:=(c a _ e)
 exact⟨b,⟨ob,n,g⟩,r,q,z,d⟩
end
structure jp(K:W.Frag)(C:Addr):Prop where
 pg:W.plainGet K C Str.empty=G6
 hd:W.hasDictIn K C=G6
 po:W.plainOver K C=G6
 sa:W.findIn K (.ref C) "__setattr__" = BD (BD (.builtin "object.__setattr__"))
def jp.get{K}(c:jp K C) f:W.plainGet K C f=G6:=c.pg
def Fv(K:W.Frag)(C:Addr)(f:Str):Prop:=W.findIn K (.ref C) f=BD Α
theorem Fv.OC{K}(n:Fv K C f):W.takerIn K C f=BD Α:=by
 unfold W.takerIn;rw[n];rfl
structure Wq(K:W.Frag)(C:Addr)(m:Str)(f:Addr):Prop where
 at_:W.findIn K (.ref C) m=BD (BD (.ref f))
 fn:W.isFn K (.ref f)=G6
 kp:W.keepIn K (.ref f)=G6
section
variable{X:Cx}{pins:List$ Addr × Obj}{σ:St}{H:Hp}{s:Shared}{a C dx:Addr}{fs:List$ Str × V}{f:Str}{v:V}{A:Na}{E:Value->Shared->Prop}
def tX(I:db X pins σ H s)(e:H a=BD (.yb C dx fs))(c:jp X.K C)(n:Fv X.K C f)(l:fs.lookup f=BD v)
  (h:∀ u g,db X pins σ H g->qd v u->Q u g):wpAny (model X.prog X.w) A (getAttr (.ref a) f b) Q E s:=by
 obtain⟨j,ϋ,r,_,_,_⟩:=JF I.Lc e;obtain⟨u,i,d⟩:=Wm.some_of (v:=v) (o:=j f) ⋯;exact zwn I.gi ϋ (c.get f) c.hd n i (K0 d)$ h u _ (I.tok _) d
def HH(I:db X pins σ H s)(e:H a=BD (.yb C dx fs))(c:jp X.K C)(k:Wq X.K C m g)(l:fs.lookup m=Α)
  (h:Q (.ref g,[.ref a]) s):wpAny (model X.prog X.w) A (lh (.ref a) m pl) Q E s:=by
 obtain⟨d,ϋ,r,_,_,_⟩:=JF I.Lc e;have b:=Wm.none_of (by rw[<-l];exact r m);exact C6 I.gi ϋ (c.get m) k.at_ k.fn b h
def nT(I:db X pins σ H s)(e:H a=BD (.yb C dx fs))(c:jp X.K C)(n:Fv X.K C f)(D:fs.length<1000)(B:qd y u)
  (h:∀ j,db X pins σ (Yb H a$ .yb C dx$ Tl f y fs) j->Q () j):wpAny (model X.prog X.w) A (setAttr (.ref a) f u) Q E s:=by
 obtain⟨x,ϋ,r,k,_,i⟩:=JF I.Lc e;have v:(fs.map (·.1)).length<=sizeLine:=by rw[Ia,sizeLine_eq];lia
 refine ħ I.gi ϋ c.sa c.po n.OC c.hd k v λh' d sb=>h _ ?_;have p:∃ o,h'.get? dx=BD o:=let ⟨o,_,_,l,_⟩:=d.ns;⟨o,l⟩;refine I.write (e:=dx) (by rw[e];exact True.intro) (.inr i) (λb q m z=>(sb.2 b m).trans z) p ⟨by rw[Dd ϋ.ne];exact i,?_,ϋ.ne,d.obj,_,d.ns,λg=>?_,λg t=>?_⟩
 ·have:=mW f y fs;lia
 ·show Wm ((Tl f y fs).lookup g) _;rw[eP];by_cases q:g=f
  ·rw[ka q,ka q];exact B
  all_goals simp_all
 ·by_cases q:g=f
  ·rw[q];exact(KM f y fs).1
  ·refine(KM f y fs).2 g (k g λz=>t ?_);show (if g=f then BD u else x g)=Α;rw[ua q];exact z
def db.made(I:db X pins σ H s):db X pins σ (Yb (Yb H s.heap.objs.size$ .own$ s.heap.objs.size+1) (s.heap.objs.size+1)$ .yb C s.heap.objs.size [])
  { s with heap:=(s.heap.push W.emptyDict).push (W.instObj C s.heap.objs.size) }:=by
 have a:(s.heap.push W.emptyDict).get? s.heap.objs.size=BD W.emptyDict:=Fa s.heap rfl;have d:((s.heap.push W.emptyDict).push$ W.instObj C s.heap.objs.size).get? (s.heap.objs.size+1)=BD (W.instObj C s.heap.objs.size):=by
  have:=Fa (s.heap.push W.emptyDict) (o:=W.instObj C s.heap.objs.size) rfl
  simp_all
 have f:(s.heap.push W.emptyDict).Ns s.heap.objs.size _:=⟨W.emptyDict,#[],_,a,rfl,(λe g=>absurd g ⋯),λb=>rfl⟩
 refine(I.laid (o:=.own _) (t':=s.toks) (λb u q=>ja _ q) (ya _) ⟨_,a⟩).laid (λb u q=>ja _ q) (Bk$ Yc _ _) ?_;have c:s.heap.objs.size≠s.heap.objs.size+1:=Ba$ Sb _;refine⟨by rw[Dd c,Lf],qg _,c,d,λb=>Α,(Heap.Ns1.of_empty f).at λo q=>ja _ q,λb=>True.intro,λy h=>absurd rfl h⟩
def ztp{a}(g:Ed e f a (Lb e a)=Lb e a)
  (h:wpAny (model b w) A (Lb e a) (λo c=>wpAny (model b w) A (getAttr o f G6) Q E c) E s):wpAny (model b w) A (Lb (.Attribute e f d) a) Q E s:=
 Attribute_any_ h (by rw[arm_eval_Attribute,g])
end
def E3(K:W.Frag)(e:TE)(f:Str):TE:=λg H Q=>e g H λx b=>∃ a C d c v,x=.ref a/\b a=BD (.yb C d c)/\jp K C/\Fv K C f/\c.lookup f=BD v/\Q v b
def yz2(K:W.Frag)(h tv:TE)(f:Str):TS:=λD c H=>tv c H λy g=>h c g λx d=>∃ a C e b,x=.ref a/\d a=BD (.yb C e b)/\jp K C/\Fv K C f/\b.length<1000/\
 D.nx c (Yb d a$ .yb C e$ Tl f y b)
def zT(X:Cx)(b:Tj)(rd:V->V->Hp->VK->Prop):Prop:=
 ∀ (a:List$ Addr × Obj) (s:Shared) (σ:St) (H:Hp) (x y:V) (u v:Value) (Q:VK),db X a σ H s->qd x u->qd y v->rd x y H Q->wpAny (model X.prog X.w) X.A (uE b u v) (EP X a σ Q) X.xe s
def V9(K:W.Frag)(k tv:TE)(rd:V->V->Hp->VK->Prop)(f:Str):TS:=λD d H=>k d H λx e=>∃ a C j h v,x=.ref a/\e a=BD (.yb C j h)/\jp K C/\Fv K C f/\h.lookup f=BD v/\
 tv d e λy i=>rd v y i λz g=>∃ c b,g a=BD (.yb C c b)/\b.length<1000/\D.nx d (Yb g a$ .yb C c$ Tl f z b)
section
variable{X:Cx}{o e value:Qa}{f:Str}{pos pos' tpos:Zd}{ta tv:TE}
def VY(k:PE X e ta)(j:Ed e f X.env (Lb e X.env)=Lb e X.env):PE X (.Attribute e f pos)$ E3 X.K ta f:=by
 intro b s p H Q I h;refine ztp j (Fd (k b s p H _ I h) λu s1 ſ=>?_);obtain⟨x,H1,d,o,a,C,r,t,v,ex,i,c,n,l,q⟩:=ſ;subst ex;obtain rfl:u=Mb a:=o;exact tX d i c n l λw s2 g m=>⟨v,H1,g,m,q⟩
def ý(k:PE X o ta)(p:PE X value tv)(m:Bg value (BD$ .Attribute o f pos') pos.line X.env=pure İ):PS X (.Assign [.Attribute o f pos'] value pos)$ yz2 X.K ta tv f:=by
 intro b s d H D I h;refine plainObj_wpAny_Assign_Attribute (Fd (p b s d H _ I h) λu s1 ⟨y,H1,e,w,q⟩=>Fd (k b s1 d H1 _ e q) λr s2 ⟨x,z,g,v,a,C,A,B,ex,j,c,n,l,t⟩=>?_) m;subst ex;obtain rfl:r=Mb a:=v;exact nT g j c n l w λE i=>⟨d,_,i,t⟩
def V7(E:PE X o ta)(F:PE X value tv)(g:zT X i rd):PS X (.AugAssign (.Attribute o f tpos) i value pos)$ V9 X.K ta tv rd f:=by
 intro b s d H D I h;refine wpAny_AugAssign_AttributeAny (Fd (E b s d H _ I h) λJ s1 ſ=>?_);obtain⟨x,H1,k,ϋ,a,C,T,U,v,ex,A,c,n,l,q⟩:=ſ;subst ex;obtain rfl:J=Mb a:=ϋ;refine tX k A c n l λu s2 m N=>Fd (F b s2 d H1 _ m q) λR s3 zZ=>?_;obtain⟨y,j,p,P,L⟩:=zZ;refine Fd (g b s3 d j v y u R _ p N P L) λό s4 zZ=>?_;obtain⟨z,S,r,Q,w,B,e,G,M⟩:=zZ;exact nT r e c n G Q λW t=>⟨d,_,t,M⟩
def C4:V->V->Hp->VK->Prop:=λx y H Q=>∃ i j,x=.int i/\y=.int j/\Q (.int$ i+j) H
def Z4:zT X .Add C4:=by
 rintro a s d H x y u v Q I b c ⟨i,j,rfl,rfl,q⟩;obtain⟨t,rfl⟩:=(b)
 obtain⟨t',rfl⟩:=(c)
 exact kJ ⟨.int _,H,I.tok _,⟨_,rfl⟩,q⟩
end
section
variable{X:Cx}{pins:List$ Addr × Obj}{σ:St}{H:Hp}{s:Shared}{A:Na}{E:Value->Shared->Prop}{Q:Value->Shared->Prop}{c:Value}{b:Bool}
inductive Jj(K:W.Frag)(H:Hp):V->Value->Prop where
 |ic:Jj K H .ic (.type "NoneType")
 |bl (x:Bool):Jj K H (.bl x) (.type "bool")
 |int (i:Int):Jj K H (.int i) (.type "int")
 |str (x:Str):Jj K H (.str x) (.type "str")
 |cy (x:UInt64):Jj K H (.cy x) (.type "float")
 |ra {a:Addr} {xs:lv} (e:H a=BD (.ra xs)):Jj K H (.ref a) (.type "list")
 |zd {a:Addr} {o:Obj} {xs:lv} (e:H a=BD (.zd o (.ra xs))):Jj K H (.ref a) (.type "list")
 |Sa {a:Addr} {xs:lv} (e:H a=BD (.Sa xs)):Jj K H (.ref a) (.type "tuple")
 |dK {a:Addr} {kvs:List (Bd × V)} (e:H a=BD (.dK kvs)):Jj K H (.ref a) (.type "dict")
 |dT {a:Addr} {kvs:List (TK × V)} (e:H a=BD (.dT kvs)):Jj K H (.ref a) (.type "dict")
 |yb {a C dx:Addr} {fs:List (Str × V)} (e:H a=BD (.yb C dx fs)) (cl:jp K C) (ha:W.findIn K (.ref C) "__class__" = BD (BD (.builtin "object.__class__")))
   (hn:W.specialIn K (.builtin "object.__class__") "__get__" = BD (BD (.builtin "getset_descriptor.__get__"))) (htk:W.takesIn K (.builtin "object.__class__")=BD G6)
   (hm:W.mroIn K C (.type "object")=BD G6):Jj K H (.ref a) (.ref C)
def A3(I:db X pins σ H s)(f:qd x u)(ty:Jj X.K H x t)(e:W.kitOne X.K t c=BD b)(h:∀ D,Q (.bool b) { s with toks:=D }) :
  wpAny (model X.prog X.w) A (call (.builtin "isinstance") [u,c]) Q E s:=by
 cases ty with
 |ic=>cases (f);exact W.kia_one W.kitx_none I.gi True.intro e (λz=>nomatch z) h
 |bl y=>cases (f);exact W.kia_one W.kitx_bool I.gi True.intro e (λz=>nomatch z) h
 |int i=>obtain⟨t,q⟩:=(f);cases q;exact W.kia_one W.kitx_int I.gi True.intro e (λz=>nomatch z) h
 |str y=>obtain⟨t,q⟩:=(f);cases q;exact W.kia_one W.kitx_str I.gi True.intro e (λz=>nomatch z) h
 |cy y=>obtain⟨t,q⟩:=(f);cases q;exact W.kia_one W.kitx_float I.gi True.intro e (λz=>nomatch z) h
 |@ra a xs d=>
  cases (f);obtain⟨_,_,n,_,g⟩:=(I.Lc a _ d)
  exact W.kia_one W.kitx_list I.gi ⟨_,g,rfl⟩ e (λz=>nomatch z) h
 |@zd a M xs d=>
  apply b_;intro z_;cases (f);obtain⟨_,_,_,n,_,g⟩:=(I.Lc a _ d)
  apply z_;exact W.kia_one W.kitx_list I.gi ⟨_,g,rfl⟩ e (λz=>nomatch z) h
 |@Sa a xs d=>
  apply b_;intro z_;cases (show u=Mb a from f);obtain⟨_,_,_,p⟩:=(I.Lc a _ d)
  apply z_;obtain⟨o,g,j,_⟩:=p;exact W.kia_one W.kitx_tuple I.gi ⟨o,g,j⟩ e (λz=>nomatch z) h
 |@dK a k d=>
  cases (f);obtain⟨_,_,P,_,p⟩:=(show Cj X.prog X.w H s.heap a (.dK k)from I.Lc a _ d)
  obtain⟨o,r,m,g,j,_⟩:=p;exact W.kia_one W.kitx_dict I.gi ⟨o,g,j.1⟩ e (λz=>nomatch z) h
 |@dT a k d=>
  cases (f);obtain⟨_,_,xs,_,o,r,m,g,j,_⟩:=(I.Lc a _ d)
  exact W.kia_one W.kitx_dict I.gi ⟨o,g,j.1⟩ e (λz=>nomatch z) h
 |@yb a C F G d cl v B l hm=>
  cases (show u=Mb a from f);obtain⟨L,ϋ,_⟩:=JF I.Lc d;obtain⟨N,J,_⟩:=ϋ.look;exact W.kia_one (W.kitx_own (cl.get _) cl.hd v B l hm) I.gi J e (λz=>nomatch z) h
end
structure Nd(k:Nat)(A:Na):Prop where
 hd:A.handled=Α
 dp:A.depth+3 * k+5<recursionLimit
 un:A.units+16 * k+200<cLine
def Nd.mono(r:Nd k A)(h:j<=k):Nd j A:=⟨r.hd,by have:=r.dp;lia,by have:=r.un;lia⟩
def Nd.deeper(r:Nd (k+1) A) a:Nd k$ A.deeper a:=
 ⟨r.hd,by have:=r.dp;show A.depth+1+3 * k+5<_;lia,by have:=r.un;show A.units+3+16 * k+200<_;lia⟩
def Nd.in1(r:Nd (k+1) A):Nd k A.in1:=
 ⟨r.hd,by have:=r.dp;show A.depth+3 * k+5<_;lia,by have:=r.un;show A.units+1+16 * k+200<_;lia⟩
theorem t9{A:Na}:(A.under$ .builtin "type.__call__" ⟨.ref C::b,a⟩).depth=A.depth+1:=by
 rfl
theorem V0{A:Na}:(A.under$ .builtin "type.__call__" ⟨.ref C::b,a⟩).units=A.units+1:=by
 rfl
def Nd.make(r:Nd (k+1) A) C b a:Nd k$ A.under$ .builtin "type.__call__" ⟨.ref C::b,a⟩:=
 ⟨r.hd,by have:=r.dp;rw[t9];lia,by have:=r.un;rw[V0];lia⟩
def Nd.depth(r:Nd k A):A.depth<recursionLimit:=by have:=r.dp;lia
noncomputable def E8:TA:=λa H Q=>Q [] H
noncomputable def uZ(d:TE)(e:TA):TA:=λa H Q=>d a H λx b=>e a b λxs c=>Q (x::xs) c
section
variable{X:Cx}{e:Qa}{es:List Qa}{te:TE}{t:TA}{pos:Zd}
def ku:PA X [] E8:=λa a a a H Q I h=>Calls.spliced_nil ⟨[],H,I,.nil,h⟩
def Oq(g:PE X e te)(i:PA X es t)(j:va (e::es) X.env=(İ,Lb e X.env)::va es X.env:=by rfl):PA X (e::es)$ uZ te t:=by
 intro pos a s b H Q I h;rw[j];refine Calls.spliced_cons (Fd (g a s b H _ I h) λu s1 zZ=>?_);obtain⟨x,H1,d,m,k⟩:=zZ;refine Fd (i pos a s1 b H1 _ d k) λus s2 zZ=>?_;obtain⟨xs,c,f,n,l⟩:=zZ;exact ⟨x::xs,c,f,.cons m n,l⟩
def ć(t:TA):TE:=λb H Q=>t b H λxs a=>xs.length<=sizeLine/\∀ p,a p=Α->Q (.ref p) (Yb a p$ .Sa xs)
def θ(t:TA):TE:=λb H Q=>t b H λxs a=>xs.length<=sizeLine/\∀ p,a p=Α->Q (.ref p) (Yb a p$ .ra xs)
def aZ{x1}(h:PA X es t):PE X (.Tuple es x1 pos)$ ć t:=by
 intro a s g H Q I f;refine wpAny_Tuple_spliced (Fd (h pos a s g H _ I f) λus s1 zZ=>?_);obtain⟨xs,H1,c,r,z,q⟩:=zZ;refine ⟨by rw[<-r.length];exact z,?_⟩;have d:=c.Lc.fresh$ ya _;refine⟨.ref s1.heap.objs.size,Yb H1 s1.heap.objs.size _,c.laid (λb u e=>ja _ e) (ya _) ?_,rfl,q _ d⟩;exact⟨z,us,r,⟨_,Fa _ rfl,rfl,_,rfl⟩⟩
def vU(h:PA X es t):PE X (.List es pos)$ θ t:=by
 intro a s g H Q I f;refine wpAny_List_spliced (Fd (h pos a s g H _ I f) λus s1 zZ=>?_);obtain⟨xs,H1,c,r,z,q⟩:=zZ;refine ⟨by rw[<-r.length];exact z,?_⟩;have d:=c.Lc.fresh$ ya _;refine⟨.ref s1.heap.objs.size,Yb H1 s1.heap.objs.size$ .ra xs,c.laid (λb u e=>ja _ e) (ya _) ?_,rfl,q _ d⟩;exact⟨z,us,0,r,Fa _ rfl⟩
end
abbrev Sp:=lv->Hp->VK->XK->Prop
abbrev ou:=List kg->Hp->Shared->XK->Value->Shared->Prop
structure ip(P:Ca)(w:Ua)(K:W.Frag)(mg:Str->Option Value)(base:Heap)(A:Na)(outer:List kg)(s:Shared)(H:Hp):Prop where
 frames:A.frames=BD outer
 mod:Mod K mg base
 bs:∀ b o,base.get? b=BD o->s.heap.get? b=BD o/\H b=Α
 xt:base.objs.size<=s.heap.objs.size
 Fj:s.heap.FunFrames base outer
 gx:∀ b∈sj outer,H b=Α
 Lc:zh P w H s.heap
 bare:Zg s.gens
def CE(a:List kg)(P:Ca)(w:Ua)(H:Hp)(s:Shared)(Q:VK)(u:Value)(b:Shared):Prop:=
 ∃ v c,b.os=s.os/\Zg b.gens/\Un (sj a) [] H c s.heap b.heap/\zh P w c b.heap/\qd v u/\Q v c
def CR(c:ou)(a:List kg)(P:Ca)(w:Ua)(H:Hp)(s:Shared)(Q:VK)(E:XK)(r:jn)(b:Shared):Prop:=
 match r with
 | .ok (.ret u)=>CE a P w H s Q u b
 | .ok _=>False
 | .error e=>c a H s E e b
structure Sg(P:Ca)(w:Ua)(K:W.Frag)(mg:Str->Option Value)(base:Heap)(CX:ou)(k:Nat)(f:Addr)(fd:df)(ps:ac)(sp:Sp):Prop where
 len:∀ vs H Q E,sp vs H Q E->vs.length=ps.length
 Vg:∀ (A:Na) (outer:List kg) (s:Shared) (H:Hp) (args:Args) (us:dl) (vs:lv) (Q:VK) (E:XK),Nd k A->ip P w K mg base A outer s H->Oe s fd args (ps.zip us)->ke vs us->sp vs H Q E->
  codeAny (model P w) A (.call (.ref f) args) (CR CX outer P w H s Q E) s
def Sg.mono{K}(F:Sg P w K g a d j f e ps i)(h:j<=k) :
  Sg P w K g a d k f e ps i:=⟨F.len,λA b s H c m n Q E l=>F.Vg A b s H c m n Q E$ l.mono h⟩
def Sg.imp{K}(F:Sg P w K i base e k f g ps j)
  (h:∀ b H Q E,d b H Q E->j b H Q E):Sg P w K i base e k f g ps d:=
 ⟨λb H Q E q=>F.len b H Q E$ h _ _ _ _ q,λA a s H c r b Q E n m l p o=>F.Vg A a s H c r b Q E n m l p$ h _ _ _ _ o⟩
def ip.make{K}(e:ip P w K c b A a s H) C f d :
  ip P w K c b (A.under$ .builtin "type.__call__" ⟨.ref C::f,d⟩) a s H:=⟨by first|exact e.frames|(simpa [pushEnvs]using e.frames),e.mod,e.bs,e.xt,e.Fj,e.gx,e.Lc,e.bare⟩
section
variable{X:Cx}{pins:List$ Addr × Obj}{σ:St}{H:Hp}{s s':Shared}
def db.pC(I:db X pins σ H s):ip X.prog X.w X.K X.mg X.base X.A X.stack s H:=
 ⟨I.ok.frames,I.ok.mod,I.bs,Ya I.ok.xt I.sz,I.stack,I.lj,I.Lc,I.bare⟩
def db.after(I:db X pins σ H s)(h:CE X.stack X.prog X.w H s Q u s'):EP X pins σ Q u s':=by
 obtain⟨v,f,i,a,j,c,r,q⟩:=h;obtain⟨k,g,d,t,e⟩:=s';obtain rfl:e=s.os:=i;exact⟨v,f,I.call j c a (λb z=>absurd z ⋯),r,q⟩
end
def fq(K:W.Frag)(c:df)(b:ac)(a:dl):Prop:=
 ∀ (s:Shared) (us:dl),K.In s.heap->(us++a).length=b.length->Oe s c ⟨us,[]⟩ (b.zip$ us++a)
def fq.all{K}(h:∀ a:dl,a.length=ps.length->bindArgs b ⟨a,[]⟩=pure (ps.zip a)):fq K b ps []:=λs a d c=>by
 rw[Ce]at c ⊢;exact .of_eq$ h a c
section
variable{X:Cx}{CX:ou}{k:Nat}{f C:Addr}{fd:df}{ps:ac}{sp:Sp}{dvs:lv}{ds:dl}{E:XK}{x m:Str}{p pos apos:Zd}{e o:Qa}{es:List Qa}{ta:TE}{t:TA}
structure Mk(K:W.Frag)(C f:Addr):Prop where
 makes:W.makesIn K C=G6
 init:W.findIn K (.ref C) "__init__" = BD (BD (.ref f))
 fn:W.isFn K (.ref f)=G6
 kp:W.keepIn K (.ref C)=G6
end
structure Oc(N P:ac)(sc:Scope):Prop where
 kind:sc.kind=.function
 co:sc.isCoroutine=İ
 gen:sc.isGenerator=İ
 nd:N.Nodup
 pre:N.take P.length=P
 par:∀ x∈P,sc.names.lookup x=BD .local\/sc.names.lookup x=BD .cell
 Mx:∀ y∈sc.names,y.2≠.free
theorem DR{b:Str->Option Be}{x:Str}:∀ {a:List$ Str × Value} {m:Str->Option Value},(∀ v,(x,v) ∉ a)->Cs b a m x=m x
 |[],_,_=>rfl
 |(n,v)::r,m,h=>by
  unfold Cs;rw[DR λw c=>h w$ ma _ c];split
  ·have:x≠n:=by rintro rfl;exact h v na
   simp_all
  ·rfl
theorem wR{b:Str->Option Be}{x:Str}:∀ {a:List$ Str × Value} {m:Str->Option Value},(∀ v,(x,v) ∉ a)->Ds b a m x=m x
 |[],_,_=>rfl
 |(n,v)::r,m,h=>by
  unfold Ds;rw[wR λw c=>h w$ ma _ c];split
  ·rfl
  ·have:x≠n:=by rintro rfl;exact h v na
   simp_all
theorem DU{a:Str->Option Be}{x:Str}{v:Value}:∀ {P:ac} {b:dl} {i:Nat} {m:Str->Option Value},P.Nodup->P[i]?=BD x->b[i]?=BD v->a x=BD .local->
  Cs a (P.zip b) m x=BD v
 |[],_,_,_,_,h,_,_=>by simp at h
 |_::_,[],_,_,_,_,h,_=>by simp at h
 |p::P,w::b,0,m,f,c,d,e=>by
  simp at c d;subst c;subst d;show Cs a ((p,w)::P.zip b) m p=_;unfold Cs;rw[DR λv g=>(Jd.mp f).1 (Ll g).1,ka e];simp
 |p::P,w::b,i+1,m,f,c,d,e=>by
  show Cs a _ m x=_;unfold Cs;exact DU (i:=i) (Jd.mp f).2 ⋯ ⋯ e
theorem VU{a:Str->Option Be}{x:Str}{v:Value}:∀ {P:ac} {b:dl} {i:Nat} {m:Str->Option Value},P.Nodup->P[i]?=BD x->b[i]?=BD v->a x≠BD .local->
  Ds a (P.zip b) m x=BD v
 |[],_,_,_,_,h,_,_=>by simp at h
 |_::_,[],_,_,_,_,h,_=>by simp at h
 |p::P,w::b,0,m,f,c,d,e=>by
  simp at c d;subst c;subst d;show Ds a ((p,w)::P.zip b) m p=_;unfold Ds;rw[wR λv g=>(Jd.mp f).1 (Ll g).1,ua e];simp
 |p::P,w::b,i+1,m,f,c,d,e=>by
  show Ds a ((p,w)::P.zip b) m x=_;unfold Ds;exact VU (i:=i) (Jd.mp f).2 ⋯ ⋯ e
noncomputable def Jv(N:ac)(a:lv):St:=a.map BD++List.replicate (N.length - a.length) Α
noncomputable def mo(g:ou)(P:Ca)(w:Ua)(K:W.Frag)(mg:Str->Option Value)(base:Heap)(N:ac)(b:Str)(a:Scope)(f:Addr)(d:Value)(A:Na)(outer:List kg)(s:Shared)(H:Hp)(E:XK):Cx where
 prog:=P
 w:=w
 K:=K
 mg:=mg
 base:=base
 A:=A.deeper (ag b a s.heap.objs.size f d)
 N:=N
 s₀:=s
 H₀:=H
 env:=ag b a s.heap.objs.size f d
 outer:=outer
 stack:=ag b a s.heap.objs.size f d::outer
 ex:=[]
 Wb:=G6
 fn:=λj=>G6
 pn:=[]
 xe:=λe i=>wpAny (model P w) (A.deeper$ ag b a s.heap.objs.size f d) (leaving (ag b a s.heap.objs.size f d) e) (λj c=>g outer H s E e c) (λh c=>g outer H s E h c) i
def UV{sc:Scope}(h:sc.names.lookup x=BD .cell):∃ c,(wE n sc.names []).lookup x=BD c:=by
 exact ie.mp$ W.cellsFrom_some sc.names n []$ .inl h
def m4{K}
  (S:Oc N ps a) (R:A.handled=Α) (j:ip P w K I base A d s H) (ό:t.length=ps.length) (r:ke t J)
  (x:InCallC s s.heap.objs.size (Cs (ag g a s.heap.objs.size f D).kindOf (ps.zip J) λO=>Α) (wE (s.heap.objs.size+1) a.names []) (Ds (ag g a s.heap.objs.size f D).kindOf (ps.zip J) λO=>Α) s1) :
  db (mo L P w K I base N g a f D A d s H E) [] (Jv N t) H s1:=by
 have T:ps.length<=N.length:=by have:=Cb List.length S.pre;rw[re]at this;lia
 obtain⟨F,ϊ,rfl,M⟩:=x.done;have o:∀ b:Addr,b ∉ (mo L P w K I base N g a f D A d s H E).ex:=λb z=>absurd (show b∈([]:b')from z) ⋯;refine⟨⟨j.mod,S.kind,rfl,rfl,ya _,λy z c F l=>?_,λy m=>?_,λy c O h=>?_,λO=>R,Xo j.frames,.inr ⟨rfl,rfl⟩,λb z=>absurd z$ o b,j.bs,j.xt,λb O O=>o b,λb z=>absurd z$ o b,j.Fj,j.gx⟩,
  rfl,j.bare,Un.kept M,⟨_,x.toInCall.ns,λi y v F l X=>?_⟩,λy c h=>⟨_,x.cell y c h⟩,j.Lc.fresh$ ya _,λy c h=>?_,λp B=>absurd (show p∈([]:List _)from B) ⋯,j.Lc.kept M,?_⟩
 ·exact name_of_addr x.apart (oe F)$ oe l
 ·have m:a.names.lookup y=BD .cell\/a.names.lookup y=BD .free:=m;rcases m with m|m
  ·exact UV m
  ·exact absurd rfl$ S.Mx _$ oe m
 ·exact yd$ x.above y c$ oe h
 ·have G:i<t.length:=by
   unfold Jv at l;by_cases G:i<t.length
   ·exact G
   ·rw[Hc (by simpa using G)]at l;rw[Co]at l;split at l<;>cases l
  have Q:t[i]?=BD v:=by
   unfold Jv at l;rw[ib (by simpa using G),Ja]at l
   simp_all
  obtain⟨u,ϋ,U⟩:=r.get Q;have B:ps[i]?=BD y:=by
   rw[<-S.pre,Nn ⋯];exact F
  have C:ps.Nodup:=by rw[<-S.pre];exact S.nd.sublist$ List.take_sublist _ _
  refine⟨u,U,?_⟩;rcases S.par y (Da B)with k|k
  ·exact .inl ⟨k,DU C B ϋ k⟩
  ·obtain⟨c,e⟩:=UV (n:=s.heap.objs.size+1) k;refine .inr ⟨.inl k,c,e,?_⟩;have q:=x.cell y c e
   rwa [VU C B ϋ (by show a.names.lookup y≠_;rw[k];decide)]at q
 ·exact j.Lc.fresh$ yd$ x.above y c$ oe h
 ·unfold Jv;show _=N.length;rw[Gb,Ia,List.length_replicate]
  lia
def ŧ{K:W.Frag}{dV kV D pm g ct oc}{an od} (lk:K.lookup f=BD ⟨oc,od,.func$ W.fnOf m d h i a dV kV D pm an g ct,X⟩) (R:W.codeIn K g d=G6) (S:Oc N ps a)
  (L:∀ p H Q E,sp p H Q E->p.length=ps.length)
  (z:∀ A c s H p Q E,Nd k (A.deeper$ ag d a s.heap.objs.size f g)->sp p H Q E->
   ∃ t,Eu (mo M P w K ϋ base N d a f g A c s H E) i t/\t { nx:=λO l=>Q .ic l,rt:=Q } (Jv N p) H) :
  Sg P w K ϋ base M (k+1) f (W.fnOf m d h i a dV kV D pm an g ct) ps sp:=by
 refine⟨L,λA c s H a0 us p Q E T F hb r G=>?_⟩;have KX:K.In s.heap:=F.mod.tu.keeps λb o e=>(F.bs b o e).1;have U:s.heap.NoLimit:=F.mod.nolimit.keeps λb o e=>(F.bs b o e).1;have B:∀ y∈ps.zip us,a.names.lookup y.1=BD .local\/(a.names.lookup y.1=BD .cell/\((wE (s.heap.objs.size+1) a.names []).lookup y.1).isSome=G6):=λ⟨n,v⟩ hy=>by
  rcases S.par n (Ll hy).1 with q|q
  ·exact .inl q
  ·exact .inr ⟨q,W.cellsFrom_some _ _ _$ .inl q⟩
 refine codeAny_call_function T.depth (KX _ _ lk) rfl S.co S.gen rfl (W.codeRec_of KX R)$ hb _ _ _ _ (wpAny_newFunctionEnv_cells S.kind B λa1 he s1 x=>?_);subst he;refine⟨U.keeps x.toInCall.keep,codeAny_func ?_⟩;obtain⟨t,ht,hq⟩:=z A c s H p Q E (T.deeper _) G;have I:db (mo M P w K ϋ base N d a f g A c s H E) [] (Jv N p) H s1:=m4 S T.hd F (L _ _ _ _ G) r x;refine dc (ht [] s1 _ H _ I hq) (λfl ϊ C=>?_) λe ϊ C=>C;have Mf:∀ {j:St} {l:Hp} {v:V} {u:Value},db (mo M P w K ϋ base N d a f g A c s H E) [] j l ϊ->qd v u->Q v l->CE c P w H s Q u ϊ:=
  fun {j l v u} J ό q=>⟨v,l,J.os,J.bare,J.base,J.Lc,ό,q⟩
 cases fl with
 |ret u=>
  obtain⟨v,j,l,J,ό,q⟩:=C;exact Mf J ό q
 |next=>
  obtain⟨j,l,J,q⟩:=C;exact Mf (v:=V.ic) J rfl q
 |brk=>
  obtain⟨_,_,_,q⟩:=C;exact False.elim q
 |cont=>
  obtain⟨_,_,_,q⟩:=C
  grind
section
variable{X:Cx}{x:Str}{p pos:Zd}{e:Qa}{es:List Qa}{t:TA}{id T:String}{r:lv->Hp->VK->Prop}
def oO(r:lv->Hp->VK->Prop)(t:TA):TE:=λc H Q=>t c H λb a=>r b a Q
def VG(i:Xl X (.builtin id) r)(k:Gl X x)(l:X.mg x=Α)(n:bootBuiltins x=BD (.builtin id))(g:PA X (e::es) t)(m:x ≠ "__name__":=by decide)(b:(x == ("__debug__" : Str))=İ:=by decide)
  (j:va (e::es) X.env=(İ,Lb e X.env)::va es X.env:=by rfl) (c:(pc pos$ va es X.env).any (·.1)=İ:=by rfl):PE X (.Call (.Name x p) (e::es) [] pos)$ oO r t:=by
 intro a s d H Q I h;exact Ke$ vv I k l n (lJ (Fd (g pos a s d H _ I h) (by rintro us s1 ⟨u,H1,f,q,o⟩;exact i a s1 d H1 u us Q f q o)) j c) m b
def jK(i:Xl X (.type T) r)(k:Gl X x)(l:X.mg x=Α)(n:bootBuiltins x=BD (.type T))(g:PA X (e::es) t)(m:x ≠ "__name__":=by decide)(b:(x == ("__debug__" : Str))=İ:=by decide)
  (j:va (e::es) X.env=(İ,Lb e X.env)::va es X.env:=by rfl) (c:(pc pos$ va es X.env).any (·.1)=İ:=by rfl):PE X (.Call (.Name x p) (e::es) [] pos)$ oO r t:=by
 intro a s d H Q I h;exact Ke$ vv I k l n (Cd (Fd (g pos a s d H _ I h) (by rintro us s1 ⟨u,H1,f,q,o⟩;exact i a s1 d H1 u us Q f q o)) j c) m b
end
end L2
namespace HT
section
open PySem.SeqAt
open PySem.AutoSeq1 (wpAny_loadPart')
open PySem.MeetsSeq PySem.MeetsSeq2 PySem.MeetsSeq3
end
section
variable{prog:Ca}{w:Ua}{A:Na}{E:Value->Shared->Prop}{s:Shared}
def Bv(z:IsTup s.heap t d.toArray)(x:IsTup s.heap b a.toArray)(B:d≠[])
  (v:a=[]->Q (.ref t) s) (C:a≠[]->Q (.ref s.heap.objs.size) { s with heap:=s.heap.push { cls:=.type "tuple",data:=.seq (d++a).toArray } })
  (y:d.length+a.length<=sizeLine):wpAny (model prog w) A (Ae .Add (.ref t)$ .ref b) Q E s:=by
 obtain⟨⟨cls,o,data,u⟩,j,p,n,q⟩:=id z;obtain⟨⟨m,f,k,i⟩,c,g,r,h⟩:=id x;simp only at p q g h;subst p q g h;have e:d.toArray++a.toArray=(d++a).toArray:=by simp
 by_cases l:a=[]
 ·exact Ft ⟨_,j,rfl⟩ ⟨_,c,rfl⟩ cn sr sh Xg (Ng _ _)
   (tuple_addW1 t b d.toArray a.toArray n r o f u i (by simpa using B)$ by simp[l]) ⟨j,c,v l⟩
 ·refine Ft ⟨_,j,rfl⟩ ⟨_,c,rfl⟩ cn sr sh Xg (Ng _ _)
   (tuple_addW2 t b d.toArray a.toArray n r o f u i ⋯ (by simpa using l)$ by simp_all) ⟨j,c,?_⟩
  grind
noncomputable def yf(n d:Nat):Option Int->Nat
 |none=>d
 |some v=>if v<0 then (v+(n:Int)).toNat else min v.toNat n
def ń n d(b:d<=n) o:yf n d o<=n:=by
 cases o with
 |none=>exact b
 |some v=>
  show (if v<0 then (v+(n:Int)).toNat else min v.toNat n)<=n;by_cases a:v<0
  ·rw[ka a];lia
  ·rw[ua a];exact Xv _ _
def VW v(n d:Nat):(if v<0 then max (v+(n:Int)) 0 else min v n)=((yf n d (BD v):Nat):Int):=by
 show (if v<0 then max _ 0 else min v n)=(if v<0 then (v+n).toNat else min v.toNat n)
 grind
def Ç lo a(n:Nat):bg lo a 1 n =(((yf n 0 lo:Nat):Int),(yf n n a:Int)):=by
 have b:¬ ((1:Int)<0):=by lia
 unfold bg;refine qY ?_ ?_
 ·cases lo with
  |none=>rfl
  |some v=>exact VW v n 0
 ·cases a with
  |none=>rfl
  |some v=>exact VW v n n
def PY(i j:Nat):dg i j 1=j - i:=by
 unfold dg;have a:(1:Int) > 0:=by lia
 simp[a,af,Int.ediv_one];split<;>lia
def aS(p:Uj v o)(h:Q o s):wpAny (model prog w) A (xE v) Q E s:=by
 cases p with
 |none=>exact JO h
 |int i t=>exact slicePart_int h
def mT{lo c}{n:Nat}(i:s.heap.IsSliceOf d e f .none)(pl:Uj e lo)(j:Uj f c)
  (h:Q (((yf n 0 lo:Nat):Int),1,yf n n c - yf n 0 lo) s):wpAny (model prog w) A (yE (.ref d)$ pure n) Q E s:=by
 obtain⟨k,b,g,a⟩:=id i;refine aa$ aa$ Nj b a rfl$ aa$ Nj b a rfl$ aa$ Nj b a rfl$ ga$ aa$ JO ?_;refine aa$ aS pl$ aa$ aS j$ aa$ ga ?_;show wpAny _ _ (match bg lo c 1 n with|(lo,c)=>pure (lo,_,dg lo c 1)) _ _ s;rw[Ç lo c n];show wpAny _ _ (pure _) _ _ s;rw[PY];exact ga h
def zq1(xs:Array Value)(i k:Nat):((List.range k).filterMap λ(m:Nat)=>xs[(i +(m:Int) * 1).toNat]?).toArray=((xs.toList.drop i).take k).toArray:=by
 have e:(λ(m:Nat)=>xs[(i+(m:Int) * 1).toNat]?)=λm=>xs[i+m]?:=by
  funext m;have:(i+(m:Int) * 1).toNat=i+m:=by lia
  rw[this]
 have:=pick_run xs i k;have a:((λx=>xs[x]?) ∘ λx=>i+x)=λm=>xs[i+m]?:=rfl
 simp_all
def jj{lo c}(d:IsTup s.heap t a)(k:s.heap.IsSliceOf j l n .none)(pl:Uj l lo)(v:Uj n c)
  (r:¬ (yf a.size 0 lo=0/\yf a.size a.size c=a.size))
  (h:Q (.ref s.heap.objs.size) { s with heap:=s.heap.push { cls:=.type "tuple",data:=.seq ((a.toList.drop$ yf a.size 0 lo).take$ yf a.size a.size c - yf a.size 0 lo).toArray } })
  (p:a.size<=sizeLine):wpAny (model prog w) A (Qh (.ref t)$ .ref j) Q E s:=by
 have b:sizeOk$ .seq ((a.toList.drop$ yf a.size 0 lo).take$ yf a.size a.size c - yf a.size 0 lo).toArray:=by
  show ((a.toList.drop _).take$ yf a.size a.size c - yf a.size 0 lo).toArray.size<=sizeLine;rw[Va,re,Ku,Kb]
  lia
 have x:yf a.size a.size c<=a.size:=ń _ _ (ya _) c;obtain⟨u,i,f,o⟩:=id k;have e:s.TypeIs (.ref j) "slice":=⟨u,i,f⟩
 unfold Qh;try with_reducible refine gc ?_
 first|refine aa$ ga ?_|skip
 refine aa$ EB d.typeIs ⋯ ?_;refine aa$ Pd (name:=Up "__getitem__") d.typeIs Bc
  (Mc Bc d.typeIs Ax ?_$ Dz _ _)
 show wpAny _ _ (Tf (.ref t) >>= _) _ _ s;refine aa$ rY d ?_;refine aa$ Ji e ?_;rw[ka ⋯];refine aa$ mT k pl v ?_;have g:¬ ((((yf a.size 0 lo:Nat):Int) == 0 && (1:Int) == 1 && (yf a.size a.size c - yf a.size 0 lo) == a.size)=G6):=by
  intro q;rw[Ma,Ma]at q;have y:((yf a.size 0 lo:Nat):Int)=0:=eq_of_beq q.1.1;have z:yf a.size a.size c - yf a.size 0 lo=a.size:=eq_of_beq q.2;exact r ⟨by lia,by lia⟩
 show wpAny _ _ (if (((yf a.size 0 lo:Nat):Int) == 0 && (1:Int) == 1 && (yf a.size a.size c - yf a.size 0 lo) == a.size)=G6 then _ else _) _ _ s;rw[ua g,zq1];first
  |exact aa (m:=Pe _)$ qc (ga ⟨_,rfl,ga h⟩) b
  |exact aa (m:=Pe _)$ qc (aa$ ga$ ga ⟨_,rfl,ga h⟩) b
  |exact aa$ aa (m:=Pe _)$ qc (ga$ ga ⟨_,rfl,ga h⟩) b
  |exact aa$ aa (m:=Pe _)$ qc (ga ⟨_,rfl,ga h⟩) b
end
end HT
namespace L2
open Spec
abbrev TO:=St->Hp->(Option Int->Hp->Prop)->Prop
def PO(X:Cx)(e:Option Qa)(t:TO):Prop:=
 ∀ (a:List$ Addr × Obj) (s:Shared) (σ:St) (H:Hp) (Q:Option Int->Hp->Prop),db X a σ H s->t σ H Q->
  wpAny (model X.prog X.w) X.A (evalPart e X.env) (λu c=>∃ o b,db X a σ b c/\Uj u o/\Q o b) X.xe s
noncomputable def l9:TO:=λa H Q=>Q Α H
noncomputable def T5(t:TE):TO:=λb H Q=>t b H λx a=>∃ i,x=.int i/\Q (BD i) a
def TM:∀ {b},ke (a.map V.int) b->bh b a:=by
 induction a with
 |nil=>intro b r;rw[List.map_nil]at r;cases r;exact .nil
 |cons n a c=>
  intro b r;cases r with
  |cons d e=>
   obtain⟨t,rfl⟩:=d;exact .cons n t$ c e
section
variable{X:Cx}{e:Qa}{te:TE}{lo hi:Option Qa}{tl th:TO}{pos p2:Zd}
def D7:PO X Α l9:=by
 intro a s b H Q I h;exact ga ⟨Α,H,I,.none,h⟩
def ç(h:PE X e te):PO X (BD e)$ T5 te:=by
 intro a s g H Q I c;refine Fd (h a s g H _ I c) λu s1 ſ=>?_;obtain⟨x,H1,b,f,d⟩:=ſ;obtain⟨i,rfl,q⟩:=d;obtain⟨t,rfl⟩:=f;exact⟨BD i,H1,b,.int i t,q⟩
def Cu(X:Cx)(r:V->Option Int->Option Int->Hp->VK->Prop):Prop:=
 ∀ (a:List$ Addr × Obj) (s:Shared) (σ:St) (H:Hp) (x:V) (v c d:Value) (lo hi:Option Int) (b:Addr) (Q:VK),db X a σ H s->qd x v->s.heap.IsSliceOf b c d .none->Uj c lo->Uj d hi->r x lo hi H Q->
  ∃ T e,typeLookup (.type T) "__getitem__" = pure (BD$ .builtin e)/\s.TypeIs v T/\wpAny (model X.prog X.w) X.A (Qh v$ .ref b) (EP X a σ Q) X.xe s
def Cu.or(h:Cu X r)(h':Cu X d):Cu X (λx lo hi H Q=>r x lo hi H Q\/d x lo hi H Q):=by
 intro a s j H x v g i lo hi f Q I e b pl c q;rcases q with q|q
 ·exact h a s j H x v g i lo hi f Q I e b pl c q
 ·exact h' a s j H x v g i lo hi f Q I e b pl c q
def l6(r:V->Option Int->Option Int->Hp->VK->Prop)(te:TE)(tl th:TO):TE:=λa H Q=>te a H λx b=>tl a b λl c=>th a c λu d=>r x l u d Q
theorem Q5(y:Cu X r)(p:PE X e te)(w:PO X lo tl)(A:PO X hi th):PE X (.Subscript e (.Slice lo hi Α p2) pos)$ l6 r te tl th:=by
 intro a s c H Q I h;refine Ez (Fd (p a s c H _ I h) λv s1 ſ=>?_);obtain⟨x,H1,j,E,B⟩:=ſ;refine wpAny_Slice (Fd (w a s1 c H1 _ j B) λd s2 zZ=>?_);obtain⟨l,i,k,pl,C⟩:=zZ;refine Fd (A a s2 c i _ k C) λf s3 zZ=>?_;obtain⟨u,g,m,pu,D⟩:=zZ;refine ga ?_;have n:db X a c g { s3 with heap:=s3.heap.push { cls:=.type "slice",data:=.fields #[d,f,.none] } }:=m.kept λb ob q=>ja _ q;obtain⟨T,F,o,z,t⟩:=y a { s3 with heap:=s3.heap.push { cls:=.type "slice",data:=.fields #[d,f,.none] } } c g x v d f l u s3.heap.objs.size Q n E (FB ..) pl pu D;exact tail_any (ops:=[.ref s3.heap.objs.size,v]) z o t (by with_unfolding_all rfl)
def Tz(xs:lv)(lo hi:Option Int):lv:=(xs.drop$ HT.yf xs.length 0 lo).take$ HT.yf xs.length xs.length hi - HT.yf xs.length 0 lo
def LV xs lo hi:(Tz xs lo hi).length<=xs.length:=by
 unfold Tz;rw[re,Ku]
 lia
def GV(K:W.Frag):V->Option Int->Option Int->Hp->VK->Prop:=λx lo hi H Q=>∃ a xs,x=.ref a/\Ig K H a xs/\
 ¬ (HT.yf xs.length 0 lo=0/\HT.yf xs.length xs.length hi=xs.length)/\∀ p,H p=Α->Q (.ref p) (Yb H p$ .Sa$ Tz xs lo hi)
def kZ:Cu X$ GV X.K:=by
 rintro f s p H x v n o lo hi m Q I l g pl k ⟨a,xs,rfl,i,h,q⟩;cases l;obtain⟨d,r,e,j⟩:=I.tuple i;have c:d.toArray.size=xs.length:=by rw[Va];exact r.length.symm
 refine⟨"tuple",_,Bc.lookup,e.typeIs,(HT.jj e g pl k (by rw[c];exact h) ?_$ by simp_all)⟩;rw[c];refine⟨.ref s.heap.objs.size,_,I.laid (λb ob q=>ja _ q) (ya _) ?_,rfl,q _$ I.Lc.fresh$ ya _⟩;exact⟨Ya (LV xs lo hi) j,_,(r.drop _).take _,IsTup.new _ _⟩
def ö(K:W.Frag):R2:=λx y H Q=>∃ a b xs c,x=.ref a/\y=.ref b/\Ig K H a xs/\Ig K H b c/\xs≠[]/\xs.length+c.length<=sizeLine/\
 (c=[]->Q (.ref a) H)/\(c≠[]->∀ p,H p=Α->Q (.ref p) (Yb H p$ .Sa$ xs++c))
def ke.Qm(r:ke xs a):a=[] ↔ xs=[]:=by
 cases r with
 |nil=>simp
 |cons _ _=>simp
def B1:yh X (Ae .Add)$ ö X.K:=by
 rintro g s t H x y v u Q I o p ⟨a,b,xs,r,rfl,rfl,h,i,j,e,m,n⟩;cases o;cases p;obtain⟨k,d,l,_⟩:=I.tuple h;obtain⟨f,c,p2,_⟩:=I.tuple i;refine HT.Bv l p2 (λz=>j$ d.Qm.mp z) (λz=>⟨.ref a,H,I,rfl,m$ c.Qm.mp z⟩) (λz=>⟨.ref s.heap.objs.size,_,I.laid (λb ob q=>ja _ q) (ya _) ?_,rfl,n (λw=>z$ c.Qm.mpr w) _$ I.Lc.fresh$ ya _⟩) (by rw[<-d.length,<-c.length];exact e);exact⟨by rw[Gb];exact e,_,d.append c,IsTup.new _ _⟩
end
noncomputable def Fy(n:Nat)(i:Int):Option Nat:=if 0<=i then (if i<n then BD i.toNat else Α)else if -(n:Int)<=i then BD (i+n).toNat else Α
def So{a:Type}(xs:List a)(i:Int):Option a:=(Fy xs.length i).bind λj=>xs[j]?
def W0(h:Fy n i=BD j):Es i n=BD j/\j<n/\- n <=i/\i<n:=by
 unfold Fy at h;by_cases b:0<=i
 ·rw[ka b]at h;by_cases a:i<n
  ·rw[ka a]at h;have e:=cc h;exact⟨by rw[seqIndex_of b a,e],by lia,by lia,a⟩
  ·rw[ua a]at h;cases h
 ·rw[ua b]at h;by_cases a:-(n:Int)<=i
  ·rw[ka a]at h;have e:(i+n).toNat=j:=cc h;exact⟨by rw[seqIndex_neg ⋯ a,e],by lia,a,by lia⟩
  all_goals simp_all
def ER{xs}{v:a}(h:So xs i=BD v):∃ j,Es i xs.length=BD j/\xs[j]?=BD v/\j<xs.length/\-(xs.length:Int)<=i/\i<xs.length:=by
 unfold So at h;cases e:Fy xs.length i with
 |none=>simp_all
 |some j=>
  rw[e]at h;obtain⟨b,c,d,f⟩:=W0 e;exact⟨j,b,h,c,d,f⟩
def Qo{xs}{j:Nat}{v:a}(h:xs[j]?=BD v):So xs j =BD v:=by
 have b:=(da.mp h).1;have e:Fy xs.length j=BD j:=by
  unfold Fy
  simp_all
 unfold So;rw[e];exact h
def DT(b:Qa):Prop:=∀ o i,Yn b İ o i=operate [o,i] (Qh o i)
def mv(X:Cx)(r:R2):Prop:=
 ∀ (b a:Qa) (pins:List$ Addr × Obj) (s:Shared) (σ:St) (H:Hp) (x y:V) (v u:Value) (Q:VK),db X pins σ H s->qd x v->qd y u->r x y H Q->
  Yn a İ v u=operate [v,u] (Qh v u)->wpAny (model X.prog X.w) X.A (subscriptTail b a v u) (EP X pins σ Q) X.xe s
def Jw(X:Cx)(b:String)(r:V->lv->Hp->VK->Prop):Prop:=
 ∀ (a:List$ Addr × Obj) (s:Shared) (σ:St) (H:Hp) (x:V) (xs:lv) (v:Value) (us:dl) (Q:VK),db X a σ H s->qd x v->ke xs us->r x xs H Q->
  wpAny (model X.prog X.w) X.A (call (.builtin b)$ v::us) (EP X a σ Q) X.xe s
section
variable{X:Cx}{a b:Qa}{ta tb:TE}{pos:Zd}
def mv.or(h:mv X r)(h':mv X e):mv X (λx y H Q=>r x y H Q\/e x y H Q):=by
 intro b a c s i H x y v u Q I f g q d;rcases q with q|q
 ·exact h b a c s i H x y v u Q I f g q d
 ·exact h' b a c s i H x y v u Q I f g q d
def γ(i:mv X r)(f:PE X a ta)(g:PE X b tb)(j:DT b):PE X (.Subscript a b pos)$ gA r ta tb:=by
 intro c s m H Q I h;exact Ez (lM f g I h λv u s2 x y d e k l q=>i a b c s2 m d x y v u Q e k l q$ j _ _)
noncomputable def wM(K:W.Frag):R2:=λx y H Q=>∃ p xs i v,x=.ref p/\y=.int i/\Ie K H p xs/\So xs i=BD v/\Q v H
noncomputable def OJ(K:W.Frag):R2:=λx y H Q=>∃ p xs i v,x=.ref p/\y=.int i/\Ig K H p xs/\So xs i=BD v/\Q v H
def Ĳ:mv X$ wM X.K:=by
 intro f e a s l H x y v u Q I D E h k;apply b_;intro z_;obtain⟨p,xs,i,z,rfl,rfl,C,A,q⟩:=h;cases D;obtain⟨t,rfl⟩:=E;obtain⟨c,r,pl,N⟩:=I.list C;obtain⟨j,b,m,J,n,o⟩:=ER A;obtain⟨w,G,d⟩:=r.get m;have L:=r.length;have M:=iK;have Mf:EP X a l Q w s:=⟨z,H,I,d,q⟩
 apply z_;by_cases g:0<=i
 ·have B:i.toNat=j:=by
   rw[seqIndex_of g o]at b;exact cc b
  exact item_listR pl.isList g ⋯ ⋯ Mf k
 ·have B:(i+(c.toArray.size:Int)).toNat=j:=by
   rw[seqIndex_neg ⋯ n]at b
   simp_all
  exact Ht pl.isList.typeIs GB.lookup
   (wpAny_getItem_list_neg (Q:=λr F=>r=w/\EP X a l Q r F) pl.isList ⋯ ⋯ ⋯ ⋯ ⟨rfl,Mf⟩) k
def S5:mv X$ OJ X.K:=by
 intro d c a s A H x y v u Q I n o h l;obtain⟨p,xs,i,z,rfl,rfl,k,g,q⟩:=h;cases n;obtain⟨t,rfl⟩:=o;obtain⟨m,r,pl,G⟩:=I.tuple k;obtain⟨j,e,f,C,D,E⟩:=ER g;obtain⟨w,B,b⟩:=r.get f;have F:=iK;have Mf:EP X a A Q w s:=⟨z,H,I,b,q⟩
 exact Ht pl.typeIs slot_tuple_getitem.lookup
  (getItem_tuple pl ⋯ ⋯ (by rw[Va,<-r.length];exact e) ⋯ ⟨rfl,Mf⟩) l
def yZ lo a n:(Eg lo a Α n).1=((HT.yf n 0 lo:Nat):Int)/\(Eg lo a Α n).2.1=((HT.yf n n a:Nat):Int)/\(Eg lo a Α n).2.2=1:=by
 refine⟨?_,?_,rfl⟩
 ·cases lo with
  |none=>simp[Eg,HT.yf]
  |some i=>
   simp only[Eg,HT.yf,ms,show (1:Int) > 0 by decide,af];by_cases h:i<0
   ·simp only[h,af]<;>lia
   ·simp only[h,On]<;>lia
 ·cases a with
  |none=>simp[Eg,HT.yf]
  |some i=>
   simp[Eg,HT.yf,ms,show (1:Int) > 0 by decide,af];by_cases h:i<0
   ·simp only[h,af]<;>lia
   ·simp only[h,On]<;>lia
theorem mZ(a:dl) lo b:slicePick a.toArray lo b Α=((a.drop$ HT.yf a.length 0 lo).take$ HT.yf a.length a.length b - HT.yf a.length 0 lo).toArray:=by
 obtain⟨c,d,e⟩:=yZ lo b a.toArray.size;unfold slicePick;rw[c,d,e];simp only[sliceRange_one,pick_run]<;>rfl
def TU(K:W.Frag):V->Option Int->Option Int->Hp->VK->Prop:=λx lo b H Q=>∃ a xs,x=.ref a/\Ie K H a xs/\∀ p,H p=Α->Q (.ref p) (Yb H p$ .ra$ Tz xs lo b)
def ybd:Cu X$ TU X.K:=by
 rintro e s p H x v n o lo f m Q I l g pl k ⟨a,xs,rfl,h,q⟩;cases l;obtain⟨j,r,d,i⟩:=I.list h;have c:=r.length;refine⟨"list",_,GB.lookup,d.isList.typeIs,(wpAny_getItem_list_slice d.isList g pl k .none ⋯ ?_$ by simp_all)⟩;rw[mZ,<-c];refine⟨.ref s.heap.objs.size,_,I.laid (λb ob q=>ja _ q) (ya _) ?_,rfl,q _$ I.Lc.fresh$ ya _⟩;exact⟨Ya (LV xs lo f) i,_,0,(r.drop _).take _,Fa _ rfl⟩
noncomputable def ki:V->Bool
 | .ic=>G6
 | .bl _=>G6
 | .int _=>G6
 | .str _=>G6
 |_=>İ
noncomputable def zk:V->V->Bool
 | .ic,.ic=>G6
 | .bl a,.bl b=>a == b
 | .bl a,.int b=>(if a then 1 else 0) == b
 | .int a,.bl b=>a == (if b then 1 else 0)
 | .int a,.int b=>a == b
 | .str a,.str b=>a == b
 |_,_=>İ
def pO(f:qd y u)(c:qd x v)(g:ki y=G6)(e:ki x=G6):Pc A s u v$ zk y x:=by
 cases y with
 |ic=>
  cases f;cases x with
  |ic=>cases c;exact zj _
  |bl b=>cases c;exact sY b
  |int b=>obtain⟨t,rfl⟩:=c;exact tY b t
  |str b=>obtain⟨t,rfl⟩:=c;exact uY b t
  |_=>exact absurd (show İ=G6 from e) zb
 |bl a=>
  cases f;cases x with
  |ic=>cases c;exact vY a
  |bl b=>cases c;exact wY a b
  |int b=>obtain⟨t,rfl⟩:=c;exact xY a b t
  |str b=>obtain⟨t,rfl⟩:=c;exact yY a b t
  |_=>exact absurd (show İ=G6 from e) zb
 |int a=>
  obtain⟨d,rfl⟩:=f;cases x with
  |ic=>cases c;exact zY a d
  |bl b=>cases c;exact AY a d b
  |int b=>obtain⟨t,rfl⟩:=c;exact BY a d b t
  |str b=>obtain⟨t,rfl⟩:=c;exact Ln a d b t
  |_=>exact absurd (show İ=G6 from e) zb
 |str a=>
  obtain⟨d,rfl⟩:=f;cases x with
  |ic=>cases c;exact CY a d
  |bl b=>cases c;exact DY a d b
  |int b=>obtain⟨t,rfl⟩:=c;exact Mn a d b t
  |str b=>obtain⟨t,rfl⟩:=c;exact EY a d b t
  |_=>exact absurd (show İ=G6 from e) zb
 |_=>exact absurd (show İ=G6 from g) zb
def WD(x:V)(u:Value):Bool:=match u with
 | .none=>zk .ic x
 | .bool b=>zk (.bl b) x
 | .int i _=>zk (.int i) x
 | .str z _=>zk (.str z) x
 |_=>İ
def bR(r:qd y u)(f:ki y=G6):WD x u=zk y x:=by
 cases y with
 |ic=>cases r;rfl
 |bl b=>cases r;rfl
 |int i=>obtain⟨t,rfl⟩:=r;rfl
 |str z=>obtain⟨t,rfl⟩:=r;rfl
 |_=>trivial
theorem bL{x:V}:∀ {xs:lv} {us:dl},ke xs us->xs.all ki=G6->us.any (WD x)=xs.any λy=>zk y x
 |_,_,.nil,_=>rfl
 |y::xs,u::us,.cons r t,f=>by
  rw[Ee,Ma]at f;rw[jh,jh,bR r f.1,bL t f.2]
theorem nK{A:Na}{s:Shared}{x:V}{v:Value}(c:qd x v)(b:ki x=G6):∀ {xs:lv} {us:dl},ke xs us->xs.all ki=G6->∀ u∈us,Pc A s u v (WD x u)
 |_,_,.nil,_=>λu a=>by cases a
 |y::xs,u::us,.cons r t,f=>λd a=>by
  rw[Ee,Ma]at f;rcases Ea.mp a with rfl|a
  ·rw[bR r f.1];exact pO r c f.1 b
  ·exact nK c b t f.2 d a
def XA(x:V)(xs:lv):Bool:=xs.any λy=>zk y x
def VJ(K:W.Frag)(a:Bool):R2:=λx y H Q=>∃ p xs,y=.ref p/\(Ie K H p xs\/Ig K H p xs)/\ki x=G6/\xs.all ki=G6/\Q (.bl$ if a then !XA x xs else XA x xs) H
def eN:yh X (Pb .In)$ VJ X.K İ:=by
 rintro f s j H x y v u Q I g i ⟨p,xs,rfl,b,d,c,q⟩;cases i;rcases b with b|b
 ·obtain⟨a,r,pl,h⟩:=I.list b;refine Lu _ pl.isList (λw e=>nK g d r c w (by simpa using e)) ⟨.bl _,H,I,rfl,?_⟩;rw[show a.toArray.any _=a.any (WD x) by simp,bL r c];exact q
 ·obtain⟨a,r,pl,h⟩:=I.tuple b;refine Jt _ pl (λw e=>nK g d r c w ⋯) ⟨.bl _,H,I,rfl,?_⟩;rw[show a.toArray.any _=a.any (WD x) by simp,bL r c];exact q
def zc0:Xl X (.builtin "len") (λxs H Q=>∃ p b,xs=[.ref p]/\(Ie X.K H p b\/Ig X.K H p b)/\Q (.int b.length) H):=by
 intro f s l H xs k Q I r h;obtain⟨p,b,rfl,c,q⟩:=h;obtain⟨u,rfl,i⟩:=bq r;cases i;have j:=iK;rcases c with c|c
 ·obtain⟨d,e,pl,g⟩:=I.list c;have a:=e.length;exact Calls.call_len_list pl.isList (by simp only[Va]<;>lia) ⟨.int b.length,H,I.tok _,⟨s.toks+1,by rw[Va,a]⟩,q⟩
 ·obtain⟨d,e,pl,g⟩:=I.tuple c;have a:=e.length;exact len_tuple pl (by simp only[Va]<;>lia) ⟨.int b.length,H,I.tok _,⟨s.toks+1,by rw[Va,a]⟩,q⟩
def LZ:Xl X (.type "list") (λxs H Q=>∃ p f,xs=[.ref p]/\(Ie X.K H p f\/Ig X.K H p f)/\∀ l,H l=Α->Q (.ref l) (Yb H l$ .ra f)):=by
 rintro k s y H xs z Q I r ⟨p,f,rfl,h,q⟩;obtain⟨u,rfl,rfl⟩:=bq r;have Mf:∀ a,ke f a->f.length<=sizeLine->∀ h' c,(∀ b x,s.heap.get? b=BD x->h'.get? b=BD x)->
   h'.get? s.heap.objs.size=BD { cls:=.type "list",dict:=Α,data:=.seq a.toArray c,slots:=#[] }->EP X k y Q _ { s with heap:=h' }:=λa d i h' c j e=>
  ⟨.ref s.heap.objs.size,_,I.laid j (ya _) (show Cj X.prog X.w _ h' _ (.ra f)from⟨i,a,c,d,e⟩),rfl,q _$ I.Lc.fresh$ ya _⟩
 rcases h with h|h
 ·obtain⟨a,d,pl,i⟩:=I.list h;have g:=d.length;obtain⟨o,v,m,n,t⟩:=pl.isList;exact FY p (.inl rfl) v m t (λh' c j e=>Mf a d i h' c j e) (by simp<;>lia)
 ·obtain⟨a,d,pl,i⟩:=I.tuple h;have g:=d.length;obtain⟨o,v,m,n,t⟩:=pl;exact FY p (.inr rfl) v m t (λh' c j e=>Mf a d i h' c j e) ⋯
def S2:Xl X (.type "tuple") (λxs H Q=>∃ p d,xs=[.ref p]/\((Ie X.K H p d/\∀ l,H l=Α->Q (.ref l) (Yb H l$ .Sa d))\/(Ig X.K H p d/\Q (.ref p) H))):=by
 intro a s m H xs v Q I r h;obtain⟨p,d,rfl,h⟩:=h;obtain⟨u,rfl,rfl⟩:=bq r;rcases h with⟨f,q⟩|⟨f,q⟩
 ·obtain⟨c,g,pl,k⟩:=I.list f;have j:=g.length;refine call_tuple_list pl.isList (λh' t=>?_) ⋯;have i:db X a m H { s with heap:=h' }:=I.kept t;have n:db X a m _ { s with heap:=h'.push { cls:=.type "tuple",data:=.seq c.toArray } }:=
   i.laid (λb o e=>ja _ e) (ya _) (show Cj X.prog X.w _ _ _ (.Sa d)from⟨k,c,g,IsTup.new _ _⟩)
  exact⟨.ref h'.objs.size,_,n,rfl,q _$ i.Lc.fresh$ ya _⟩
 ·obtain⟨c,g,pl,k⟩:=I.tuple f;exact call_tuple_same pl ⟨.ref p,H,I,rfl,q⟩
def OU(K:W.Frag)(T:String)(x:V)(H:Hp):Prop:=match x with
 | .str _=>T = "str"
 | .int _=>T = "int"
 | .ref p=>(T = "list"/\∃ xs,Ie K H p xs)\/(T = "tuple"/\∃ o,K.lookup p=BD o/\o.cls=.type "tuple"/\o.dict=Α)\/
   (T = "dict"/\((∃ a,H p=BD (.dK a))\/∃ a,H p=BD (.dT a)))\/(T = "set"/\∃ S n,H p=BD (.set S n))
 |_=>False
def Θ(I:db X d m H s)(r:qd x v)(ty:OU X.K T x H) :
  s.TypeIs v T/\∀ a,v=.ref a->∃ ob,s.heap.get? a=BD ob/\ob.dict=Α:=by
 cases x with
 |str z=>
  obtain⟨t,rfl⟩:=r;cases (ty);exact⟨typeIs_str s z t,λq e=>nomatch e⟩
 |int i=>
  apply b_;intro z_;obtain⟨t,rfl⟩:=r;cases (show T = "int" from ty);apply z_;exact⟨typeIs_int s i t,λq e=>nomatch e⟩
 |ref p=>
  cases r;rcases ty with⟨rfl,xs,k⟩|⟨rfl,o,b,j,g⟩|⟨rfl,b⟩|⟨rfl,S,n,b⟩
  ·obtain⟨l,_,pl,_⟩:=I.list k;refine⟨pl.isList.typeIs,λa e=>?_⟩;cases e;obtain⟨o,n,e,c,g,_⟩:=pl;exact⟨o,e,g⟩
  ·refine⟨⟨o,I.gi p o b,j⟩,λa e=>?_⟩;cases e;exact⟨o,I.gi _ o b,g⟩
  ·have z:∃ o,s.heap.get? p=BD o/\o.ExactDict:=by
    rcases b with⟨h,b⟩|⟨h,b⟩
    ·obtain⟨_,_,_,_,o,_,_,e,ex,_⟩:=I.Lc p _ b;exact⟨o,e,ex⟩
    ·obtain⟨_,_,_,_,o,_,_,e,ex,_⟩:=I.Lc p _ b
     simp_all
   obtain⟨o,e,ex⟩:=z;refine⟨⟨o,e,ex.1⟩,λa f=>?_⟩;cases f;exact⟨o,e,ex.2.1⟩
  ·obtain⟨o,_,_,_,e,ex,_⟩:=I.Lc p _ b;refine⟨⟨o,e,ex.1⟩,λa f=>?_⟩;cases f;exact⟨o,e,ex.2.1⟩
 |_=>exact False.elim ty
def ì(K:W.Frag)(T:String)(r:V->lv->Hp->VK->Prop)(d:TE)(t:TA):TE:=λb H Q=>d b H λx a=>OU K T x a/\t b a λxs c=>r x xs c Q
variable{o e:Qa}{es:List Qa}{to:TE}{t:TA}{name:Str}{apos cpos:Zd}{T id:String}{r:V->lv->Hp->VK->Prop}
def Ø(B:xl T)(f:XO T name id)(i:kn (.builtin id)=pure (.type "method_descriptor"))(y:Jw X id r)(z:PE X o to)(w:PA X (e::es) t)
  (b:Ed o name X.env (Lb o X.env)=Lb o X.env:=by rfl)
  (d:((pc cpos$ va (e::es) X.env).all (λx=>!x.1) && (Fg cpos$ Ge [] X.env).all (λx=>x.1.isSome)
   && decide ((e::es).length+([]:List Mi).length+(if ([]:List Mi).isEmpty then 0 else 1)<30))=G6:=by rfl)
  (c:(apos.endLine == cpos.line)=G6:=by rfl) (A:va (e::es) X.env=(İ,Lb e X.env)::va es X.env:=by rfl) (g:(pc cpos$ va es X.env).any (·.1)=İ:=by rfl) :
  PE X (.Call (.Attribute o name apos) (e::es) [] cpos)$ ì X.K T r to t:=by
 intro a s j H Q I h;refine Kt b d c rfl (Fd (z a s j H _ I h) λv s1 ſ=>?_);obtain⟨x,H1,k,m,ty,C⟩:=ſ;obtain⟨q,u⟩:=Θ k m ty;refine⟨T,id,B,f,i,q,u,?_⟩;have l:=w cpos a s1 j H1 _ k C;rw[A]at l ⊢;refine Hh (by trivial)$ ri (Fd l λus s2 zZ=>?_);obtain⟨F,n,p,E,D⟩:=zZ;exact y a s2 j n x F v us Q p m E D
end
def uM(X:Cx)(b:String)(r:V->lv->Hp->VK->Prop):Prop:=
 ∀ (a:List$ Addr × Obj) (s:Shared) (σ:St) (H:Hp) (x:V) (xs:lv) (v:Value) (us:dl) (Q:VK),db X a σ H s->qd x v->ke xs us->r x xs H Q->
  wpAny (model X.prog X.w) X.A (call (.builtin b)$ v::us) (EP X a σ Q) X.xe s
theorem ke.one{x:V}{us}(h:ke [x] us):∃ u,us=[u]/\qd x u:=by
 cases h with|cons r h=>cases h;exact⟨_,rfl,r⟩
theorem ke.two{x y:V}{us}(h:ke [x,y] us):∃ u v,us=[u,v]/\qd x u/\qd y v:=by
 cases h with|cons r h=>cases h with|cons q h=>cases h;exact⟨_,_,rfl,r,q⟩
theorem ke.eraseIdx:∀ {xs:lv} {us:dl} (i:Nat),ke xs us->ke (xs.eraseIdx i) (us.eraseIdx i)
 |_,_,_,.nil=>.nil
 |_,_,0,.cons _ t=>t
 |_,_,i+1,.cons r t=>.cons r (ke.eraseIdx i t)
theorem AS{a:Type}:∀ (l:List a) (i:Nat),(l.eraseIdx i).length<=l.length
 |[],_=>ya _
 |_::_,0=>rg _
 |_::r,i+1=>Yv (AS r i)
section
variable{X:Cx}{pins:List$ Addr × Obj}{σ:St}{H:Hp}{s:Shared}{l b:Addr}{xs ys zs:lv}
def db.Ny{a its':dl}(I:db X pins σ H s)(b:H l=BD (.ra xs))
  (e:s.heap.get? l=BD { cls:=.type "list",data:=.seq a.toArray n }) (d:f a.toArray=its'.toArray) (h:ke ys its') (i:ys.length<=sizeLine) :
  db X pins σ (Yb H l$ .ra ys) { s with heap:=s.heap.update l (xf f),toks:=t' }:=by
 have q:=zaA e f;rw[d]at q;refine I.write (by rw[b];exact trivial) (.inl rfl) (λj u c g=>(Cf s.heap _$ Vd c).trans g) ⟨_,q⟩ ?_;exact⟨i,its',_,h,q⟩
def db.Uy(I:db X pins σ H s)(b:ke ys a)(c:ys.length<=sizeLine) :
  db X pins σ (Yb H s.heap.objs.size$ .ra ys) { s with heap:=s.heap.push { cls:=.type "list",data:=.seq a.toArray },toks:=t' }:=
 I.laid (λd d q=>ja _ q) (ya _) ⟨c,a,0,b,Fa _ rfl⟩
def db.fresh(I:db X pins σ H s):H s.heap.objs.size=Α:=I.Lc.fresh$ ya _
def db.Cq(I:db X pins σ H s)(b:H l=BD (.ra xs)):xs.length<=sizeLine/\∃ (a:dl) (n:Nat),ke xs a/\xs.length=a.length/\s.heap.get? l=BD { cls:=.type "list",data:=.seq a.toArray n }:=by
 obtain⟨z,a,n,r,e⟩:=I.Lc l _ b;exact⟨z,a,n,r,r.length,e⟩
def K4(h:n<=sizeLine):xg n=İ:=by
 unfold xg
 simp_all
end
section
variable{X:Cx}
def rL:V->lv->Hp->VK->Prop:=λx a H Q=>∃ l xs y,x=.ref l/\a=[y]/\H l=BD (.ra xs)/\xs.length<sizeLine/\Q .ic (Yb H l$ .ra$ xs++[y])
def jO:uM X "list.append" rL:=by
 rintro c s m H x k v j Q I g f ⟨l,xs,y,rfl,rfl,b,i,q⟩;cases g;obtain⟨u,rfl,d⟩:=f.one;obtain⟨z,a,n,r,h,e⟩:=I.Cq b;refine Fz F.slot_list_append ⟨_,e,rfl⟩ F.entry_list_append (F.args_list_append_2 _ _) (PySem.list_append l a.toArray n u$ by rw[Va];lia) ⟨e,⟨.ic,_,I.Ny (its':=a++[u]) b e ⋯ (r.append$ .cons d .nil) ?_,rfl,q⟩⟩;rw[Gb,List.length_singleton]
 lia
def zQ:V->lv->Hp->VK->Prop:=λx c H Q=>∃ l b xs a,x=.ref l/\c=[.ref b]/\H l=BD (.ra xs)/\H b=BD (.ra a)/\xs.length+a.length<=sizeLine/\Q .ic (Yb H l$ .ra$ xs++a)
def vX:uM X "list.extend" zQ:=by
 rintro h s E H x B v A Q I t p ⟨l,b,xs,D,rfl,rfl,g,j,y,q⟩;cases t;obtain⟨u,rfl,rfl⟩:=p.one;obtain⟨z,c,n,r,w,e⟩:=I.Cq g;obtain⟨C,a,m,o,k,i⟩:=I.Cq j;have f:c.toArray.size+a.toArray.size<=sizeLine:=by rw[Va,Va];lia
 have d:¬ (!c.toArray.isEmpty && xg (c.toArray.size+a.toArray.size))=G6:=by
  rw[K4 f,Cm];trivial
 refine Fz F.slot_list_extend ⟨_,e,rfl⟩ F.entry_list_extend (F.args_list_extend_2 _ _)
  (AutoSeq1.list_extend_list_list_0 l c.toArray n b a.toArray m d (by rw[Va];lia)$ by lia) ⟨e,i,?_⟩
 refine⟨.ic,_,I.Ny (its':=c++a) g e ⋯ (r.append o) ?_,rfl,q⟩;rw[Gb]
 lia
def UR:V->lv->Hp->VK->Prop:=λx a H Q=>∃ l xs i k y,x=.ref l/\a=[.int i]/\H l=BD (.ra xs)/\-(2 ^ 63)<=i/\i<2 ^ 63/\Es i xs.length=BD k/\xs[k]?=BD y/\Q y (Yb H l$ .ra$ xs.eraseIdx k)
def mH:uM X "list.pop" UR:=by
 rintro d s E H x D v C Q I o m ⟨l,xs,i,k,y,rfl,rfl,c,f,g,p,h,q⟩;cases o;obtain⟨u,rfl,j⟩:=m.one;obtain⟨t,rfl⟩:=j;obtain⟨z,a,n,r,A,e⟩:=I.Cq c;obtain⟨w,B,b⟩:=r.get h;refine Fz F.slot_list_pop ⟨_,e,rfl⟩ F.entry_list_pop (F.args_list_pop_2 _ _)
  (MeetsSeq.list_pop_at l a.toArray n i t k w (fitsIndex_both f g) ⋯ ⋯$ by simp_all) ⟨e,?_⟩
 refine⟨y,_,I.Ny c e ?_ (r.eraseIdx k) ?_,b,q⟩
 ·show a.toArray.eraseIdxIfInBounds k=(a.eraseIdx k).toArray
  simp_all
 ·have:=AS xs k
  lia
def J8:R2:=λx y H Q=>∃ l b xs a,x=.ref l/\y=.ref b/\H l=BD (.ra xs)/\H b=BD (.ra a)/\xs.length+a.length<=sizeLine/\∀ p,H p=Α->Q (.ref p) (Yb H p$ .ra$ xs++a)
def yiq:yh X (Ae .Add) J8:=by
 rintro d s C H x y v u Q I m o ⟨l,b,xs,B,rfl,rfl,i,h,t,q⟩;cases m;cases o;obtain⟨z,c,n,r,p,e⟩:=I.Cq i;obtain⟨A,a,w,k,j,f⟩:=I.Cq h;refine PySem.P.add_list e f ?_ ⋯;have g:c.toArray++a.toArray=(c++a).toArray:=by simp
 rw[g];exact⟨.ref _,_,I.Uy (r.append k) ⋯,rfl,q _ I.fresh⟩
end
section
variable{prog:Ca}{w:Ua}{A:Na}{E:Value->Shared->Prop}{s:Shared}
set_option maxRecDepth 100000 in
end
end L2
namespace Att
open W Calls
def Ë:∀ c d,WellAll P h d (c.map xJ)->bh d c:=by
 intro c;induction c with
 |nil=>
  intro d w;cases w;exact .nil
 |cons n c e=>
  intro d w;cases w with
  |cons a b=>
   cases a;exact .cons _ _$ e _ b
def P4{l:OpenLaw}(u:l.most=BD n)
  (b:l.row.toRowW.claim.pre args=G6) (k:WellAll P h e args) :
  ∃ a o c,e=[Mb a]/\args=[WData.list$ c.map xJ]/\h.get? a=BD { cls:=.type "list",data:=.seq o.toArray }/\bh o c/\c.length<=n:=by
 have j:=(pre_splitW b).1;have m:l.pre.holds [] { args:=args }=G6:=(pre_splitW b).2;obtain⟨d,r,rfl,p,q⟩:=hasAllW_cons j;obtain rfl:=hasAllW_nil q;obtain⟨xs,rfl,s⟩:=hasW_list p;obtain⟨c,rfl⟩:=items_int s;have g:c.length<=n:=by
  unfold OpenLaw.pre at m;have i:(WTm.not$ .lt (.lit$ .int (n:Int))$ .len$ .arg 0).holds [] { args:=[.list$ c.map .int] }=G6:=by
   have i:=(holds_andW m).1
   rwa [u]at i
  have t:=condW_of i$ w_not$ w_lt w_lit$ w_len_list$ w_arg rfl;rw[Ia]at t
  grind
 cases k with
 |cons w x=>
  cases x;cases w with
  |list v f=>exact⟨_,_,c,rfl,rfl,v,Ë c _ f,g⟩
theorem jZ(l:OpenLaw) a:l.row.toRowW.claim.post a (.bool G6) a=G6:=
 postW_of
  (show WShape.has [] (.bool G6) .bool=G6 by first|rfl|decide|simp)
  (w_eq_bool (w_res rfl) w_lit) rfl
def ko{l:OpenLaw}
  (S:l.most=BD n) (y:d.params.defaults=[])
  (j:∀ w e b t B fa o C s g a i u,
   Ground q c [] D w e t B b.heap->E w b.heap->
   b.heap.get? fa=BD o->o.data=.func (docDef d.name d.params d.body d.scope C s g)->b.heap.CodeRec s d.name->t d.name=BD (.ref fa)->
   b.heap.get? a=BD { cls:=.type "list",data:=.seq i.toArray }->bh i u->u.length<=n->b.gens=#[]->
   codeAny (model l.prog w) jm (.call (.ref fa) ⟨[.ref a],[]⟩) (λr v=>r=.ok (.ret$ .bool G6)/\OldK b.heap v.heap/\v.os=b.os/\Zg v.gens) b) :
  WalkO q c D E l.row.toRowW d [] (λf i=>PySem.call f i):=by
 intro w e b t B G ό fa o C s g K kV T ϋ x H z P F J W p I V A Q;obtain rfl:K=.none:=Dflts.none H y;obtain rfl:kV=.none:=Dflts.noKw H;obtain⟨a,i,u,rfl,rfl,m,h,k⟩:=P4 S p A;refine enter_call (lf (j w e b t B fa o C s g a i u G ό T (fd_plain ϋ) x z m h k P) λr v U=>?_);obtain⟨rfl,L,M,N⟩:=U;exact⟨.inl ⟨.bool G6,.bool G6,[],rfl,λO=>rfl,.bool G6,jZ l _,λO=>⟨List.Pairwise.nil,λO R=>(nomatch R)⟩⟩,L,M,N⟩
end Att
namespace L2
open Spec
theorem ZD:∀ {a:dl} {ns:gV},bh a ns->ke (ns.map V.int) a
 |_,_,.nil=>.nil
 |_,_,.cons n t h=>.cons ⟨t,rfl⟩ (ZD h)
noncomputable abbrev GW{K:W.Frag}{h:Heap}(_:K.In h):W.Frag:=K
noncomputable def Qk(s:Stmt):Arguments:=match s with
 | .FunctionDef _ a _ _ _ _ _ _ _ _=>a
 |_=>{ posonlyargs:=[],args:=[],vararg:=Α,kwonlyargs:=[],kw_defaults:=[],kwarg:=Α,defaults:=[] }
noncomputable def uj(s:Stmt):List Stmt:=match s with
 | .FunctionDef _ _ b _ _ _ _ _ _ _=>b
 |_=>[]
noncomputable def zf(s:Stmt):Scope:=match s with
 | .FunctionDef _ _ _ _ _ _ sc _ _ _=>sc
 |_=>{ kind:=.function,names:=[],isGenerator:=İ,isCoroutine:=İ }
noncomputable abbrev E0:XK:=λa a a=>False
inductive zC(K:W.Frag)(x qual:Str)(st:Stmt)(f:Addr)(fd:df):Prop
 |mk (oc:Value) (od:Option Addr) (kV doc pm:Value) (an:Option Addr) (cdv ct:Value) (osl:Array (Option Value)) (f1:fd=W.fnOf x qual (Qk st) (uj st) (zf st) .none kV doc pm an cdv ct) (f2:K.lookup f=BD ⟨oc,od,.func fd,osl⟩) (f3:W.codeIn K cdv qual=G6):zC K x qual st f fd
structure pH(K:W.Frag)(x qual:Str)(st:Stmt)(f:Addr)(fd:df):Prop where
 ex:zC K x qual st f fd
 kp:W.keepIn K (.ref f)=G6
section
variable{P:Ca}{w:Ua}{K:W.Frag}{mg:Str->Option Value}{base:Heap}
def HU{st}{kV d h b ct}(l:K.lookup f=BD ⟨i,j,.func$ W.fnOf x a (Qk st) (uj st) (zf st) .none kV d h g b ct,e⟩)
  (c:W.codeIn K b a=G6) (k:W.keepIn K (.ref f)=G6):pH K x a st f$ W.fnOf x a (Qk st) (uj st) (zf st) .none kV d h g b ct:=⟨⟨i,j,kV,d,h,g,b,ct,e,rfl,l,c⟩,k⟩
end
def LP(h:n<=1000):n<sizeLine:=Oj h ⋯
section
variable{X:Cx}
def pv i(c:X.N[i]?=BD x:=by rfl)(e:OD X.env.scope x:=by first|exact Or.inl rfl|exact Or.inr$ Or.inl rfl|exact Or.inr$ Or.inr rfl)(d:(x == ("__debug__" : Str))=İ:=by decide)
  (a:(x == ("__classdict__" : Str))=İ:=by decide):PE X (.Name x b)$ OP i:=GQ c e d a
end
end L2
namespace L4
open Spec L2
def DQ(a:c):∃ b,b=a:=⟨a,rfl⟩
def ee{b:Type}(a:b):b:=Classical.choose$ DQ a
@[simp] theorem vq(a:b):ee a=a:=zaB$ DQ a
inductive D where
 |ic|bl (b:Bool)|int (i:Int)|str (x:Str)|Sa (xs:List D)|Rg (ns:gV)|ref (n:Nat)
 |ra (xs:List D)|Pa (ks:List Bd) (xs:List D)|obj (c:Nat) (ns:ac) (xs:List D)|Gq (c:Nat)|gt (ss:ac)
abbrev B':=List D
inductive Ob where
 |ra (xs:B')
 |Pa (kvs:List (Bd × D))
 |yb (c:Nat) (fs:List (Str × D))
 |Qc (kvs:List (Bd × D))
 |nc (ks:List TK)
abbrev Ha:=List Ob
abbrev St:=L2.St
abbrev Ev:=List$ Option D
structure Xn where
 cls:Nat
inductive dh(α:Type) where
 |ok (a:α) (σ:Ha)
 |ex (x:Xn) (σ:Ha)
 |Fb
abbrev M(a:Type):=Ha->dh a
noncomputable def ret{b:Type}(a:b):M b:=λc=>.ok a c
noncomputable def Fb{a:Type}:M a:=λb=>.Fb
noncomputable def dh.bind{c d:Type}(o:dh c)(k:c->M d):dh d:=match o with
 | .ok a b=>k a b
 | .ex x b=>.ex x b
 | .Fb=>.Fb
def Rc{a b:Type}(m:M a)(k:a->M b):M b:=λc=>(m c).bind k
inductive Fl where
 |nx (ρ:Ev)|rt (d:D)|bk (ρ:Ev)|ct (ρ:Ev)|xc (ρ:Ev) (x:Xn)
structure Tab where
 P:Addr
 line:Int
 col:Int
 qual:Str
structure Tx where
 Pm:List Tab
 bm:Addr
structure Tb where
 K:W.Frag
 ca:Nat->Addr
 tx:Tx
def Xs(q:Str)(c:Addr):Heap->Prop:=λh=>∃ o a t,h.get? c=BD o/\o.data=.fields a/\a[1]?=BD (.str q t)
def aQ(a:Addr):Heap->Prop:=λh=>∃ o,h.get? a=BD o/\o.cls=.type "module"/\o.dict=BD builtinsNs/\o.data=.plain
def rq(T:Tb)(a:b')(H:Hp):Prop:=∀ t∈T.tx.Pm,(T.tx.bm ∉ a/\∃ b,H T.tx.bm=BD (.zd b$ .ext$ aQ T.tx.bm))/\t.P ∉ a/\∃ ps,H t.P=BD (.rk ps)/\(ps=#[]\/∃ c,ps=#[Fc t.line,Fc t.col,.ref c]/\c ∉ a/\H c=BD (.ext$ Xs t.qual c))
def rq.grow(h:rq T d H)(k:∀ b u,H b=BD u->a b=BD u):rq T d a:=λt m=>by
 obtain⟨⟨f,o,g⟩,i,ps,j,l⟩:=h t m;exact⟨⟨f,o,k _ _ g⟩,i,ps,k _ _ j,l.imp id (by rintro ⟨c,e,n,z⟩;exact ⟨c,e,n,k _ _ z⟩)⟩
def rq.sub(h:rq T a H)(k:∀ b∈d,b∈a):rq T d H:=λt m=>by
 obtain⟨⟨f,g⟩,i,ps,j,l⟩:=h t m;exact⟨⟨λz=>f$ k _ z,g⟩,λz=>i$ k _ z,ps,j,l.imp id (by rintro ⟨c,e,n,z⟩;exact ⟨c,e,λy=>n$ k _ y,z⟩)⟩
def rq.more(h:rq T a H)(o:H p=Α):rq T (a++[p]) H:=λt l=>by
 obtain⟨⟨i,m,f⟩,j,ps,g,k⟩:=h t l;have d:∀ {b:Addr} {u:HO},H b=BD u->b ∉ a->b ∉ a++[p]:=fun {b u} e n z=>(jc.mp z).elim n λy=>by
  simp_all
 exact⟨⟨d f i,m,f⟩,d g j,ps,g,k.imp id (by rintro ⟨c,e,n,z⟩;exact ⟨c,e,d z n,z⟩)⟩
def rq.out(h:rq T g H)(r:∀ b,b≠a->i b=H b)(q:a∈g\/∃ f,H a=BD (.dK f)):rq T g i:=λt s=>by
 obtain⟨⟨k,v,m⟩,l,ps,o,p⟩:=h t s;have j:∀ {b:Addr} {u:HO},H b=BD u->b ∉ g->(∀ f,u≠.dK f)->i b=BD u:=fun {b u} e n d=>by
  rw[r b (λz=>by
   subst z;rcases q with y|⟨f,y⟩
   ·exact n y
   ·rw[e]at y;cases y;exact d f rfl)]
  exact e
 exact⟨⟨k,v,j m k (λw z=>by cases z)⟩,l,ps,j o l (λw z=>by cases z),p.imp id (by rintro ⟨c,e,n,z⟩;exact ⟨c,e,n,j z n (λw y=>by cases y)⟩)⟩
noncomputable def Tb.cv(T:Tb)(x:Xn):Value:=.ref$ T.ca x.cls
noncomputable def fC(c:Nat):Option Nat:=if c<100 then Α else BD (c / 100 - 1)
def xF(C:Addr)(c:Option Addr)(a:Addr):Heap->Prop:=λh=>∃ o,h.get? a=BD o/\o.cls=.ref C/\∀ b,c=BD b->o.dict=BD b/\∃ d,o.data=.fields d
def ZE(b:Addr)(n:Nat):Heap->Prop:=λh=>∃ o,h.get? b=BD o/\∃ a c t,o.data=.dict a c/\StrKeys a/\nsFind a "pot" = BD (.int n t)
def gG(K:W.Frag)(H:Hp)(a:Addr)(c:gV):Prop:=
 (∃ o,H a=BD (.zd o$ .ra$ c.map V.int))\/
  ∃ (o:Obj) (b:Array Value) (n:Nat),K.lookup a=BD o/\o.cls=.type "list"/\o.dict=Α/\o.data=.seq b n/\b.size<=sizeLine/\ke (c.map V.int) b.toList
def gG.seq{K}(h:gG K H a b):Ie K H a$ b.map V.int:=by
 rcases h with⟨o,h⟩|h
 ·exact .inl$ .inr ⟨o,h⟩
 ·exact .inr h
def mB(K:W.Frag)(a:Addr)(c:ac):Prop:=∃ (o:Obj) (b:Array Value) (n:Nat),K.lookup a=BD o/\o.cls=.type "tuple"/\o.data=.seq b n/\b.size<=sizeLine/\ke (c.map V.str) b.toList
mutual
def Oa(T:Tb)(d:b')(H:Hp):D->V->Prop
 | .ic,v=>v=.ic
 | .bl b,v=>v=.bl b
 | .int i,v=>v=.int i
 | .str x,v=>v=.str x
 | .Sa ds,v=>∃ p f,v=.ref p/\H p=BD (.Sa f)/\ub T d H ds f
 | .Rg ns,v=>∃ a,v=.ref a/\gG T.K H a ns
 | .ref n,v=>∃ a,v=.ref a/\d[n]?=BD a
 | .ra ds,v=>∃ a f,v=.ref a/\a ∉ d/\H a=BD (.ra f)/\ub T d H ds f
 | .Pa ks ds,v=>∃ a e,v=.ref a/\a ∉ d/\Rd H a (.dK e)/\e.map (·.1)=ks/\ub T d H ds (e.map (·.2))
 | .obj c ns ds,v=>∃ a k h,v=.ref a/\a ∉ d/\H a=BD (.yb (T.ca c) k h)/\h.map (·.1)=ns/\ub T d H ds (h.map (·.2))
 | .Gq c,v=>∃ a j,v=.ref a/\a ∉ d/\H a=BD (.ext$ xF (T.ca c) j a)/\∀ n,fC c=BD n->∃ g,j=BD g/\g ∉ d/\H g=BD (.ext$ ZE g n)
 | .gt ss,v=>∃ a,v=.ref a/\mB T.K a ss
def ub(T:Tb)(b:b')(H:Hp):B'->lv->Prop
 |[],a=>a=[]
 |d::ds,a=>∃ v r,a=v::r/\Oa T b H d v/\ub T b H ds r
end
def Kp(o b:HO):Prop:=b=o\/(∃ d a,o=.dK a/\b=.zd d (.dK a))\/∃ e c,o=.rk e/\b=.rk c
def Kp.trans(x:Kp a b)(y:Kp b c):Kp a c:=by
 rcases x with rfl|⟨g,d,rfl,rfl⟩|⟨ps,e,rfl,rfl⟩
 ·exact y
 ·rcases y with rfl|⟨_,_,z,_⟩|⟨_,_,z,_⟩
  ·exact .inr$ .inl ⟨g,d,rfl,rfl⟩
  all_goals simp_all
 ·rcases y with rfl|⟨_,_,z,_⟩|⟨_,f,_,rfl⟩
  ·exact .inr$ .inr ⟨ps,e,rfl,rfl⟩
  ·cases z
  ·exact .inr$ .inr ⟨ps,f,rfl,rfl⟩
structure Ld(μ:b')(H:Hp)(μ':b')(H':Hp):Prop where
 pre:∃ r,μ'=μ++r
 Sa:∀ p xs,H p=BD (.Sa xs)->H' p=BD (.Sa xs)
 zd:∀ p o u,H p=BD (.zd o u)->H' p=BD (.zd o u)
 keep:∀ p o,H p=BD o->p ∉ μ->(∃ o',H' p=BD o'/\Kp o o')/\p ∉ μ'
def Ld.refl a H:Ld a H a H:=⟨⟨[],by simp⟩,λb b h=>h,λb b b h=>h,λb b h n=>⟨⟨_,h,.inl rfl⟩,n⟩⟩
def Ld.trans(a:Ld g H c e)(b:Ld c e d f):Ld g H d f:=by
 obtain⟨⟨r,rfl⟩,A,k,s⟩:=a;obtain⟨⟨z,rfl⟩,B,l,t⟩:=b;exact⟨⟨r++z,by simp⟩,λp xs h=>B p xs$ A p xs h,λp o u h=>l p o u$ k p o u h,λp o h n=>let ⟨⟨x,m,i⟩,v⟩:=s p o h n;let ⟨⟨y,q,j⟩,w⟩:=t p x m v;⟨⟨y,q,i.trans j⟩,w⟩⟩
def Ld.xh(e:Ld f H b d) p o(h:H p=BD o)(n:p ∉ f)(i:(∀ a,o≠.dK a)/\∀ ps,o≠.rk ps:=by exact⟨(λl z=>by cases z),(λl z=>by cases z)⟩):d p=BD o/\p ∉ b:=by
 obtain⟨⟨k,g,c⟩,j⟩:=e.keep p o h n;rcases c with rfl|⟨_,a,z,_⟩|⟨ps,_,z,_⟩;all_goals simp_all
def Ld.rd(e:Ld k H b f) p a(h:Rd H p$ .dK a)(n:p ∉ k):Rd f p (.dK a)/\p ∉ b:=by
 rcases h with h|⟨d,h⟩
 ·obtain⟨⟨l,g,c⟩,j⟩:=e.keep p _ h n;rcases c with rfl|⟨d,i,z,rfl⟩|⟨_,_,z,_⟩
  ·exact⟨.inl g,j⟩
  ·cases z;exact⟨.inr ⟨d,g⟩,j⟩
  ·cases z
 ·exact⟨.inr ⟨d,e.zd _ _ _ h⟩,(e.keep p _ h n).2⟩
def Ld.get(e:Ld c H b d){n:Nat}(h:c[n]?=BD a):b[n]?=BD a:=by
 obtain⟨⟨r,rfl⟩,_,_⟩:=e;rw[ib (da.mp h).1];exact h
mutual
theorem Oa.mono{T:Tb}{w m:b'}{H s:Hp}(e:Ld w H m s):∀ (d:D) (v:V),Oa T w H d v->Oa T m s d v
 | .ic,v,h=>by simpa [Oa]using h
 | .bl b,v,h=>by simpa [Oa]using h
 | .int i,v,h=>by simpa [Oa]using h
 | .str x,v,h=>by simpa [Oa]using h
 | .Sa ds,v,h=>by
  rw[Oa]at h ⊢;obtain⟨p,k,g,f,j⟩:=h;exact⟨p,k,g,e.Sa _ _ f,ub.mono e ds k j⟩
 | .Rg ns,v,h=>by
  rw[Oa]at h ⊢;obtain⟨a,g,f⟩:=h;refine⟨a,g,?_⟩;rcases f with⟨o,f⟩|f
  ·exact .inl ⟨o,e.zd _ _ _ f⟩
  ·exact .inr f
 | .ref n,v,h=>by
  rw[Oa]at h ⊢;obtain⟨a,g,f⟩:=h;exact⟨a,g,e.get f⟩
 | .ra ds,v,h=>by
  rw[Oa]at h ⊢;obtain⟨a,k,g,f,j,l⟩:=h;exact⟨a,k,g,(e.xh _ _ j f).2,(e.xh _ _ j f).1,ub.mono e ds k l⟩
 | .Pa ks ds,v,h=>by
  rw[Oa]at h ⊢;obtain⟨a,k,g,f,j,r,l⟩:=h;exact⟨a,k,g,(e.rd _ _ j f).2,(e.rd _ _ j f).1,r,ub.mono e ds _ l⟩
 | .obj c ns ds,v,h=>by
  rw[Oa]at h ⊢;obtain⟨a,A,k,g,f,j,r,l⟩:=h;exact⟨a,A,k,g,(e.xh _ _ j f).2,(e.xh _ _ j f).1,r,ub.mono e ds _ l⟩
 | .Gq c,v,h=>by
  rw[Oa]at h ⊢;obtain⟨a,z,g,f,j,l⟩:=h;exact⟨a,z,g,(e.xh _ _ j f).2,(e.xh _ _ j f).1,λn q=>let ⟨y,B,t,u⟩:=l n q;⟨y,B,(e.xh _ _ u t).2,(e.xh _ _ u t).1⟩⟩
 | .gt ss,v,h=>by rw[Oa]at h ⊢;exact h
theorem ub.mono{T:Tb}{g a:b'}{H f:Hp}(e:Ld g H a f):∀ (b:B') (c:lv),ub T g H b c->ub T a f b c
 |[],c,h=>by simpa [ub]using h
 |d::b,c,h=>by
  rw[ub]at h ⊢;obtain⟨v,r,i,j,k⟩:=h;exact⟨v,r,i,Oa.mono e d v j,ub.mono e b r k⟩
end
def ub.nil:ub T a H [] []:=by rw[ub]
def ub.cons{T}{b}{H}{d}{v}{c}{a}(e:Oa T b H d v)(f:ub T b H c a):ub T b H (d::c)$ v::a:=by
 rw[ub];exact⟨v,a,rfl,e,f⟩
theorem ub.length:∀ {b:B'} {a:lv},ub T e H b a->b.length=a.length
 |[],a,h=>by rw[ub]at h;subst h;rfl
 |d::b,a,h=>by
  obtain⟨v,r,rfl,_,c⟩:=h;simp[ub.length c]
theorem ub.get:∀ {b:B'} {a:lv} {i:Nat} {d:D},ub T f H b a->b[i]?=BD d->∃ v,a[i]?=BD v/\Oa T f H d v
 |[],a,i,d,h,e=>by simp at e
 |d::b,a,0,x,h,e=>by
  obtain⟨v,r,rfl,g,c⟩:=h
  simp_all
 |d::b,a,i+1,x,h,e=>by
  obtain⟨v,r,rfl,g,c⟩:=h;simpa using ub.get c ⋯
theorem ub.append:∀ {e a:B'} {c b:lv},ub T g H e c->ub T g H a b->ub T g H (e++a) (c++b)
 |[],a,c,b,h,f=>by rw[ub]at h;subst h;simpa using f
 |d::e,a,c,b,h,f=>by
  obtain⟨v,r,rfl,i,j⟩:=h;exact ub.cons i$ ub.append j f
theorem ub.drop:∀ {b:B'} {a:lv} (n:Nat),ub T c H b a->ub T c H (b.drop n) (a.drop n)
 |b,a,0,h=>by simpa using h
 |[],a,n+1,h=>by rw[ub]at h;subst h;simpa using ub.nil
 |x::b,a,n+1,h=>by
  obtain⟨w,r,rfl,e,d⟩:=h;simpa using ub.drop n d
theorem ub.take:∀ {b:B'} {a:lv} (n:Nat),ub T c H b a->ub T c H (b.take n) (a.take n)
 |b,a,0,h=>by simpa using ub.nil
 |[],a,n+1,h=>by rw[ub]at h;subst h;simpa using ub.nil
 |x::b,a,n+1,h=>by
  obtain⟨w,r,rfl,d,e⟩:=h;exact ub.cons d$ ub.take n e
def Mq(T:Tb)(a:b')(H:Hp):List (Str × D)->List (Str × V)->Prop:=Paired λp q=>p.1=q.1/\Oa T a H p.2 q.2
def Di(T:Tb)(a:b')(H:Hp):List (Bd × D)->List (Bd × V)->Prop:=Paired λp q=>p.1=q.1/\Oa T a H p.2 q.2
def Um(T:Tb)(e:b')(H:Hp)(a:Addr):Ob->Prop
 | .ra ds=>∃ b,H a=BD (.ra b)/\ub T e H ds b
 | .Pa d=>∃ b,H a=BD (.dK b)/\Di T e H d b
 | .yb c g=>∃ f b,H a=BD (.yb (T.ca c) f b)/\Mq T e H g b
 | .Qc d=>∃ h b,H a=BD (.zd h$ .dK b)/\Di T e H d b
 | .nc ks=>∃ b,H a=BD (.dT b)/\b.map (·.1)=ks
structure vd(T:Tb)(μ:b')(H:Hp)(σ:Ha):Prop where
 len:μ.length=σ.length
 nd:μ.Nodup
 obs:∀ (n:Nat) (o:Ob),σ[n]?=BD o->∃ a,μ[n]?=BD a/\Um T μ H a o
 tb:rq T μ H
def Wg(T:Tb)(b:b')(H:Hp)(a:Ev)(st:St):Prop:=a.length=st.length/\∀ (i:Nat) (d:D),a[i]?=BD (BD d)->∃ v,st[i]?=BD (BD v)/\Oa T b H d v
def Wg.mono{st}(e:Ld c H a b)(h:Wg T c H f st):Wg T a b f st:=
 ⟨h.1,λi d q=>let ⟨v,g,j⟩:=h.2 i d q;⟨v,g,Oa.mono e d v j⟩⟩
set_option tactic.hygienic true in
def Wg.set{st}(h:Wg T a H c st) i(r:Oa T a H d v):Wg T a H (c.set i$ BD d)$ st.set i$ BD v:=by
 refine⟨by simpa using h.1,λj x q=>?_⟩;rw[je]at q;by_cases b:i=j
 ·subst b;rw[ka rfl]at q;split at q
  ·rename_i e
   cases q;exact⟨v,by rw[je,ka rfl,ka (by rw[<-h.1];exact e)],r⟩
  ·cases q
 ·rw[ua b]at q;obtain⟨w,f,g⟩:=h.2 j x q
  simp_all
def Ŋ(e:Addr)(b d:Value)(h:Heap):Prop:=∃ c a,h.get? e=BD c/\c.cls=b/\c.data=.fields a/\1<a.size/\a[0]?=BD d/\a[1]?=BD .none
def ym(B:Heap)(l:List kg)(e:Addr)(a b:Value)(h:Heap):Prop:=B.StaysIn h/\B.get? e=Α/\h.FunFrames B l/\((∃ c,h.TracedAtW B e a b c)\/Ŋ e a b h)
def K2(o:Obj)(n:Nat):Prop:=∃ a b t,o.data=.dict a b/\StrKeys a/\nsFind a "pot" = BD (.int n t)
def AD(d:Option Nat)(e:Addr)(B h f:Heap)(c:Hp):Prop:=∀ n,d=BD n->∃ a oD b,h.get? e=BD b/\b.dict=BD a/\B.get? a=BD oD/\K2 oD n/\c a=Α/\f.get? a=Α
inductive bC(outer:List kg)(H:Hp)(s:Shared)(cls:Value)(fd:Option Nat)(H':Hp)(e:Value)(s':Shared):Prop
 |mk (ea:Addr) (a0:Value) (B:Heap) (f1:e=.ref ea) (f2:ym B outer ea cls a0 s'.heap) (f3:H' ea=Α) (f4:s.heap.get? ea=Α) (f5:(∀ b o,H' b=BD o->∃ ob,B.get? b=BD ob)) (f6:(∀ b o,s.heap.get? b=BD o->H b=Α->b ∉ sj outer->B.get? b=BD o)) (f7:(∀ b o,s.heap.get? b=BD o->b ∉ sj outer->∃ o',B.get? b=BD o')) (f8:AD fd ea B s'.heap s.heap H'):bC outer H s cls fd H' e s'
structure uy(P:Ca)(w:Ua)(outer:List kg)(H:Hp)(s:Shared)(cls:Value)(fd:Option Nat)(H':Hp)(e:Value)(s':Shared):Prop where
 ex:bC outer H s cls fd H' e s'
 os:s'.os=s.os
 bare:Zg s'.gens
 un:Un (sj outer) [] H H' s.heap s'.heap
 Lc:zh P w H' s'.heap
noncomputable def qk(P:Ca)(w:Ua):ou:=λa H s E e f=>∃ b d c,uy P w a H s b d c e f/\E b d c
structure RA(X:Cx)(st:St)(cls:Value)(fd:Option Nat)(H':Hp):Prop where
 GF:∀ (pins:i') (H:Hp) (s:Shared) (e:Value) (s':Shared),db X pins st H s->uy X.prog X.w X.stack H s cls fd H' e s'->X.xe e s'
noncomputable abbrev XE(X:Cx)(d:St):XK:=λa c b=>RA X d a c b
def Xb{d e:Type}(T:Tb)(E:XK)(R:b'->Hp->d->e->Prop)(f:b')(H:Hp)(o:dh d)(Q:e->Hp->Prop):Prop:=match o with
 | .ok a σ=>∀ b g c,Ld f H b c->vd T b c σ->R b c a g->Q g c
 | .ex x σ=>∀ b c,Ld f H b c->vd T b c σ->E (T.cv x) (fC x.cls) c
 | .Fb=>False
def Xb.mono{R}{o:dh j}{Q:k->Hp->Prop}(e:Ld l H c i)(h:Xb T E R l H o Q):Xb T E R c i o Q:=by
 cases o with
 |ok a σ=>exact λb g d f r q=>h b g d (e.trans f) r q
 |ex x σ=>exact λb d f r=>h b d (e.trans f) r
 |Fb=>exact h
def Xb.imp{R}{o:dh e}{Q d:f->Hp->Prop}(h:Xb T E R i H o Q)(k:∀ g b,Q g b->d g b):Xb T E R i H o d:=by
 cases o with
 |ok a σ=>exact λc g b j r q=>k _ _$ h c g b j r q
 |ex x σ=>exact h
 |Fb=>exact h
def Xb.bind{R:b'->Hp->j->u->Prop}{p}{m}{k:j->M t}{Q:v->Hp->Prop}{o}
  (h:Xb T E p l H (Rc m k i) Q) (f:∀ a b c g d,m i=.ok a b->Ld l H c d->vd T c d b->R c d a g->Xb T E p c d (k a b) Q->o g d):Xb T E R l H (m i) o:=by
 unfold Rc at h;cases e:m i with
 |ok a b=>
  rw[e]at h;exact λn g w s r q=>f a b n g w e s r q$ h.mono s
 |ex x b=>rw[e]at h;exact h
 |Fb=>rw[e]at h;exact h
def Xb.here{R}{d:c}{g:b}{Q}(h:Xb T E R a H (.ok d e) Q)(r:vd T a H e)(p:R a H d g):Q g H:=h a g H (Ld.refl _ _) r p
inductive KA(T:Tb)(st:St)(H:Hp)(P:b'->Ev->Ha->Prop):Prop
 |mk (μ:b') (ρ:Ev) (σ:Ha) (e:Wg T μ H ρ st) (r:vd T μ H σ) (p:P μ ρ σ):KA T st H P
section
variable(T:Tb)(X:Cx)
def tF(f:Ev->M D):TE:=λa H Q=>KA T a H λb c d=>Xb T (XE X a) (Oa T) b H (f c d) Q
def fM:b'->Hp->Bool->Bool->Prop:=λc c a b=>b=a
def tT(f:Ev->M Bool):TT:=λa H Q=>KA T a H λb c d=>Xb T (XE X a) fM b H (f c d) Q
def tL(f:Ev->M (B')):TA:=λa H Q=>KA T a H λb c d=>Xb T (XE X a) (ub T) b H (f c d) Q
inductive Po where
 |nx (st:St)|rt (v:V)|bk (st:St)|ct (st:St)|xc (st:St) (cls:Value) (fd:Option Nat)
def xn(T:Tb)(b:b')(H:Hp):Fl->Po->Prop
 | .nx a,.nx st=>Wg T b H a st
 | .rt d,.rt v=>Oa T b H d v
 | .bk a,.bk st=>Wg T b H a st
 | .ct a,.ct st=>Wg T b H a st
 | .xc a x,.xc st cls fd=>Wg T b H a st/\cls=T.cv x/\fd=fC x.cls
 |_,_=>False
def io(X:Cx)(D:Dj):Po->Hp->Prop
 | .nx st,H=>D.nx st H
 | .rt v,H=>D.rt v H
 | .bk st,H=>D.bk st H
 | .ct st,H=>D.ct st H
 | .xc st cls fd,H=>RA X st cls fd H
noncomputable abbrev EN:XK:=λa a a=>False
def tS(g:Ev->M Fl):TS:=λD a H=>KA T a H λb c d=>Xb T EN (xn T) b H (g c d)$ io X D
end
noncomputable def xs{c:Type}(d:Ev)(m:M c)(k:c->M Fl):M Fl:=λe=>match m e with
 | .ok a b=>k a b
 | .ex x b=>.ok (.xc d x) b
 | .Fb=>.Fb
def Xb.xs{D}{R}{st}{m:M p}{k}{s:t->Hp->Prop}(v:Wg T l H u st)
  (h:Xb T EN (xn T) l H (L4.xs u m k n)$ io X D) (f:∀ a b c g i,m n=.ok a b->Ld l H c i->vd T c i b->R c i a g->Xb T EN (xn T) c i (k a b) (io X D)->s g i):Xb T (XE X st) R l H (m n) s:=by
 unfold L4.xs at h;cases e:m n with
 |ok a b=>
  rw[e]at h;exact λd g o j r q=>f a b d g o e j r q$ h.mono j
 |ex x b=>
  rw[e]at h;intro d o j r;exact h d (.xc st _ _) o j r ⟨v.mono j,rfl,rfl⟩
 |Fb=>rw[e]at h;exact h
abbrev FE(T:Tb)(X:Cx)(e:Qa)(f:Ev->M D):Prop:=PE X e$ tF T X f
abbrev FT(T:Tb)(X:Cx)(e:Qa)(f:Ev->M Bool):Prop:=PT X e$ tT T X f
abbrev FW(T:Tb)(X:Cx)(e:Qa)(f:Ev->M Bool):Prop:=PW X e$ tT T X f
abbrev FA(T:Tb)(X:Cx)(a:List Qa)(f:Ev->M (B')):Prop:=PA X a$ tL T X f
abbrev FS(T:Tb)(X:Cx)(a:Stmt)(g:Ev->M Fl):Prop:=PS X a$ tS T X g
abbrev dk(T:Tb)(X:Cx)(a:List Stmt)(g:Ev->M Fl):Prop:=Eu X a$ tS T X g
noncomputable def lg:Nat:=1000
def gy(h:n<=lg):n<=sizeLine:=yd$ LP h
def mS(h:n<lg):n<sizeLine:=LP$ yd h
def CO{l:List g}(h:l.Nodup){i j:Nat}{a:g}(k:l[i]?=BD a)(m:l[j]?=BD a):i=j:=by
 obtain⟨c,d⟩:=da.mp k;obtain⟨e,f⟩:=da.mp m;have b:=dn.mp h;rcases Mu i j with z|z|z
 ·exact absurd (d.trans f.symm)$ b i j c e z
 ·exact z
 ·exact absurd (f.trans d.symm)$ b j i e c z
section
variable{T:Tb}{μ μ':b'}{H H':Hp}{σ:Ha}
def FM(e:Ld μ H μ' H'){xs}{b}(h:Paired (λ p q =>p.1=q.1/\Oa T μ H p.2 q.2) xs b) :
  Paired (λ(p:a × D) (q:a × V)=>p.1=q.1/\Oa T μ' H' p.2 q.2) xs b:=L2.Paired.wo h λp q z=>⟨z.1,Oa.mono e _ _ z.2⟩
theorem Um.mono(e:Ld μ H μ' H')(d:H' a=H a):∀ {o:Ob},Um T μ H a o->Um T μ' H' a o
 | .ra ds,⟨b,h,r⟩=>⟨b,d.trans h,ub.mono e _ _ r⟩
 | .Pa f,⟨b,h,r⟩=>⟨b,d.trans h,FM e r⟩
 | .yb c j,⟨g,b,h,r⟩=>⟨g,b,d.trans h,FM e r⟩
 | .Qc f,⟨i,b,h,r⟩=>⟨i,b,d.trans h,FM e r⟩
 | .nc ks,⟨b,h,r⟩=>⟨b,d.trans h,r⟩
theorem Um.some:∀ {o:Ob},Um T μ H a o->∃ u,H a=Option.some u/\(∀ xs,u≠.Sa xs)
 | .ra ds,⟨b,h,r⟩=>⟨_,h,(λi z=>by cases z)⟩
 | .Pa d,⟨b,h,r⟩=>⟨_,h,(λi z=>by cases z)⟩
 | .yb c f,⟨e,b,h,r⟩=>⟨_,h,(λi z=>by cases z)⟩
 | .Qc d,⟨g,b,h,r⟩=>⟨_,h,(λi z=>by cases z)⟩
 | .nc ks,⟨b,h,r⟩=>⟨_,h,(λi z=>by cases z)⟩
theorem Um.yC:∀ {o:Ob},(∀ b,o≠.Qc b)->Um T μ H a o->∃ u,H a=Option.some u/\(∀ xs,u≠.Sa xs)/\(∀ e w,u≠.zd e w)
 | .ra ds,_,⟨d,h,r⟩=>⟨_,h,(λi z=>by cases z),(λi i z=>by cases z)⟩
 | .Pa b,_,⟨d,h,r⟩=>⟨_,h,(λi z=>by cases z),(λi i z=>by cases z)⟩
 | .yb c g,_,⟨f,d,h,r⟩=>⟨_,h,(λi z=>by cases z),(λi i z=>by cases z)⟩
 | .Qc b,n,_=>absurd rfl (n b)
 | .nc ks,_,⟨d,h,r⟩=>⟨_,h,(λi z=>by cases z),(λi i z=>by cases z)⟩
def vd.keep(r:vd T μ H σ)(e:Ld μ H μ H')(k:∀ a∈μ,H' a=H a)(t:rq T μ H'):vd T μ H' σ:=
 ⟨r.len,r.nd,λn o h=>let ⟨a,b,c⟩:=r.obs n o h;⟨a,b,c.mono e$ k a$ Da b⟩,t⟩
def vd.mem(r:vd T μ H σ)(h:a∈μ):∃ u,H a=BD u/\(∀ xs,u≠.Sa xs):=by
 obtain⟨n,c⟩:=wq h;have e:n<σ.length:=by rw[<-r.len];exact(da.mp c).1
 obtain⟨a',b,d⟩:=r.obs n σ[n] ⋯;rw[c]at b;cases b;exact d.some
def Ij(a:H p=Α):Ld μ H μ$ Yb H p o:=
 ⟨⟨[],by simp⟩,λq xs h=>by rw[Dd$ Xm h a];exact h,λq b u h=>by rw[Dd$ Xm h a];exact h,λq b h n=>⟨⟨b,by rw[Dd$ Xm h a];exact h,.inl rfl⟩,n⟩⟩
def vd.fresh(r:vd T μ H σ)(c:H p=Α):vd T μ (Yb H p o) σ:=
 r.keep (Ij c) (λa d=>by obtain⟨u,h,_⟩:=r.mem d;rw[Dd$ Xm h c]) (r.tb.grow λb u h=>by rw[Dd$ Xm h c];exact h)
def Bu(a:H p=Α):Ld μ H (μ++[p])$ Yb H p o:=
 ⟨⟨[p],rfl⟩,(Ij (μ:=μ) a).Sa,(Ij (μ:=μ) a).zd,λq b h n=>⟨((Ij a).keep q b h n).1,λz=>(jc.mp z).elim n λz=>Xm h a ⋯⟩⟩
def vd.push(r:vd T μ H σ)(c:H p=Α)(s:Um T (μ++[p]) (Yb H p o) p ob):vd T (μ++[p]) (Yb H p o)$ σ++[ob]:=by
 refine⟨by simp[r.len],?_,λn x h=>?_,(r.tb.more c).grow λb u h=>by rw[Dd$ Xm h c];exact h⟩
 ·rw[Nc];refine⟨r.nd,by simp,λa l b m e=>?_⟩;have i:b=p:=by simpa using m
  subst i;subst e;obtain⟨u,h,_⟩:=r.mem l
  simp_all
 ·by_cases f:n<σ.length
  ·rw[ib f]at h;obtain⟨a,k,d⟩:=r.obs n x h;obtain⟨u,q,_⟩:=d.some;exact⟨a,by rw[ib (by rw[r.len];exact f)];exact k,d.mono (Bu c)$ Dd$ Xm q c⟩
  ·rw[Hc ⋯]at h;have g:n - σ.length=0:=by
    have:=(da.mp h).1;simp at this;lia
   rw[g]at h;simp at h;subst h;have j:n=μ.length:=by rw[r.len];lia
   subst j
   grind
def ZA(r:vd T μ H σ):Oa T (μ++[p]) (Yb H p o) (.ref σ.length)$ .ref p:=by
 rw[Oa];exact⟨p,rfl,by rw[<-r.len];simp⟩
def At(f:a∈μ)(c:H a=BD u)(d:∀ xs,u≠.Sa xs)(e:∀ b w,u≠.zd b w):Ld μ H μ$ Yb H a o:=
 ⟨⟨[],by simp⟩,λq xs h=>by rw[Dd$ zL h c (λz=>d xs z.symm)];exact h,λq b w h=>by rw[Dd$ zL h c (λz=>e b w z.symm)];exact h,λq b h n=>⟨⟨b,by rw[Dd (λz=>n ⋯)];exact h,.inl rfl⟩,n⟩⟩
def vd.write(r:vd T μ H σ)(d:μ[n]?=BD a)(t:Um T μ (Yb H a o) a ob)(q:∀ c,σ[n]?≠BD (.Qc c):=by intro c z;simp_all [jf]):Ld μ H μ (Yb H a o)/\vd T μ (Yb H a o) (σ.set n ob):=by
 obtain⟨u,p,f,g⟩:∃ u,H a=BD u/\(∀ xs,u≠.Sa xs)/\(∀ ob w,u≠.zd ob w):=by
  have s:n<σ.length:=by rw[<-r.len];exact(da.mp d).1
  obtain⟨a',f,g⟩:=r.obs n σ[n] ⋯;rw[d]at f;cases f;exact g.yC λc z=>q c ⋯
 have e:Ld μ H μ$ Yb H a o:=At (Da d) p f g;refine⟨e,by simp[r.len],r.nd,λm x h=>?_,r.tb.out (λb l=>Dd l)$ .inl$ Da d⟩;rw[je]at h;by_cases i:n=m
 ·subst i
  simp_all
 ·rw[ua i]at h;obtain⟨b,j,k⟩:=r.obs m x h;refine⟨b,j,k.mono e (Dd λz=>i ?_)⟩;subst z;exact CO r.nd d j
def vd.at(r:vd T μ H σ)(h:Oa T μ H (.ref n) v)(e:σ[n]?=BD o):∃ a,v=.ref a/\μ[n]?=BD a/\Um T μ H a o:=by
 obtain⟨a,rfl,d⟩:=h;obtain⟨a',b,c⟩:=r.obs n o e
 simp_all
end
noncomputable def Aa(i:Nat):Ev->M D:=λa b=>match a[i]? with
 |some (BD d)=>.ok d b
 |_=>.Fb
noncomputable def eC(d:D):Ev->M D:=λa=>ret d
noncomputable def KN(o:D->D->M D)(m:M D)(x:D):M D:=Rc m$ o x
def qb(o:D->D->M D)(a b:Ev->M D):Ev->M D:=λc=>Rc (a c)$ KN o$ b c
noncomputable def Re(o:D->M D)(a:Ev->M D):Ev->M D:=λb=>Rc (a b) o
noncomputable def kB(d:D):M Bool:=match d with
 | .bl b=>ret b
 |_=>Fb
noncomputable def dj{a:Type}(p q:M a)(c:Bool):M a:=if c=G6 then p else q
noncomputable def ON(c:Bool):M Bool:=ret$ !c
def Nw{a:Type}(k:Bool->M a)(d:D):M a:=Rc (kB d) k
def eT(f:Ev->M D):Ev->M Bool:=λa=>Rc (f a) kB
noncomputable def rO(a b:Ev->M Bool):Ev->M Bool:=λc=>Rc (a c)$ dj (b c)$ ret İ
noncomputable def Qr(a b:Ev->M Bool):Ev->M Bool:=λc=>Rc (a c)$ dj (ret G6)$ b c
def Dq(a:Ev->M Bool):Ev->M Bool:=λb=>Rc (a b) ON
noncomputable def IM(a b:Ev->M D):Ev->M D:=λc=>Rc (a c)$ Nw$ dj (b c)$ ret$ .bl İ
noncomputable def RU(a b:Ev->M D):Ev->M D:=λc=>Rc (a c)$ Nw$ dj (ret$ .bl G6)$ b c
noncomputable def MJ(c:Bool):M D:=ret$ .bl$ !c
def EU(a:Ev->M D):Ev->M D:=λb=>Rc (a b)$ Nw MJ
noncomputable def wu(t:Ev->M Bool)(a b:Ev->M D):Ev->M D:=λc=>Rc (t c)$ dj (a c)$ b c
noncomputable def Bb:Ev->M (B'):=λa=>ret []
noncomputable def yM(x:D)(xs:B'):M$ B':=ret$ x::xs
def OK(m:M$ B')(x:D):M$ B':=Rc m$ yM x
def Ra(e:Ev->M D)(r:Ev->M (B')):Ev->M (B'):=λa=>Rc (e a)$ OK$ r a
def Ru(a:B'):M D:=if a.length<=lg then ret (.Sa a)else Fb
def Eh(a:Ev->M (B')):Ev->M D:=λb=>Rc (a b) Ru
noncomputable def uB(b:B'):M D:=λa=>.ok (.ref a.length)$ a++[.ra b]
def XG(a:B'):M D:=if a.length<=lg then uB a else Fb
def nv(a:Ev->M (B')):Ev->M D:=λb=>Rc (a b) XG
def Av(a:B'):M D:=if a.length<=lg then ret (.ra a)else Fb
def ci(a:Ev->M (B')):Ev->M D:=λb=>Rc (a b) Av
def Zj(T:Tb)(r:R2)(o:D->D->M D):Prop:=∀ (E:XK) a H b x y v u Q,vd T a H b->Oa T a H x v->Oa T a H y u->Xb T E (Oa T) a H (o x y b) Q->r v u H Q
def MW(T:Tb)(r:V->Hp->VK->Prop)(o:D->M D):Prop:=∀ (E:XK) a H b x v Q,vd T a H b->Oa T a H x v->Xb T E (Oa T) a H (o x b) Q->r v H Q
def No(T:Tb)(r:lv->Hp->VK->Prop)(o:B'->M D):Prop:=∀ (E:XK) a H c xs b Q,vd T a H c->ub T a H xs b->Xb T E (Oa T) a H (o xs c) Q->r b H Q
end L4
open L4.D renaming int->Z,ref->O,ra->ύ,Sa->Ϗ,bl->ϒ,str->ϔ,ic->Ϛ,Pa->ϩ,Rg->ϯ,obj->ϻ
open L4.dh renaming ok->Y,Fb->Ϙ
open L4.Ob renaming Pa->ώ,ra->ϐ,yb->ϓ,nc->ϡ,Qc->ϧ
open Or renaming inl->ϑ,inr->ϖ
open PySem.W renaming Frag->ϕ,fnOf->Ϯ,kla_obj->ϴ,exmOne->ϵ,callWith_K->Ϲ
open L2.V renaming ref->ϗ,int->Ϣ,bl->Ϭ
open L4.Fl renaming nx->ϙ,rt->ϭ
open PySem.Expr renaming Name->ϛ,Attribute->Ϝ,Call->ϟ,Subscript->ϥ,Tuple->ϲ,ListComp->Ϸ,BoolOp->ϸ
open L2.HO renaming dK->ϝ,zd->Ϩ,ext->ϫ,ra->ϱ
open PySem.Paired renaming cons->Ϟ,nil->Ϡ
open PySem.Value renaming builtin->ϣ
open PySem.ScopeKind renaming function->Ϥ
open PySem.Data renaming seq->Ϧ,fields->Ϫ
open L4.Ld renaming refl->ϰ
open False renaming elim->ϳ
open L4.Po renaming nx->Ϻ
variable{T:L4.Tb}{X:L2.Cx}
namespace L4
open Spec L2
section
variable{a b c:Qa}{fa fb:Ev->M D}{ta tb:Ev->M Bool}{pos:Zd}
def Kf i(h:X.N[i]?=BD x:=by rfl)(m:OD X.env.scope x:=by first|exact Or.inl rfl|exact Or.inr$ Or.inl rfl|exact Or.inr$ Or.inr rfl)(j:(x == ("__debug__" : Str))=İ:=by decide)
  (c:(x == ("__classdict__" : Str))=İ:=by decide):FE T X (ϛ x pos)$ Aa i:=by
 rintro b s st H Q I ⟨n,ρ,p,k,l,a⟩;refine GQ h m j c b s st H Q I ?_;unfold Aa at a;cases e:ρ[i]? with
 |none=>rw[e]at a;exact a.elim
 |some o=>
  cases o with
  |none=>rw[e]at a;exact a.elim
  |some d=>
   rw[e]at a;obtain⟨v,f,g⟩:=k.2 i d e;exact⟨v,f,a.here l g⟩
def iB(h:PE X e$ tC v)(r:∀ b H,Oa T b H d v):FE T X e$ eC d:=by
 rintro a s g H Q I ⟨b,j,k,i,f,c⟩;exact h a s g H Q I$ Xb.here c f$ r _ _
def qD{j}:FE T X (.Constant (.int i) j pos)$ eC$ Z i:=iB Z2 λa a=>by rw[Oa]
def G1{j}:FE T X (.Constant (.bool i) j pos)$ eC$ ϒ i:=iB ź λa a=>by rw[Oa]
def Q8{j}:FE T X (.Constant .none j pos)$ eC Ϛ:=iB W6 λa a=>by rw[Oa]
def jG{j}:FE T X (.Constant (.str i) j pos)$ eC$ ϔ i:=iB yjc λa a=>by rw[Oa]
def î(b:Gl X x)(c:X.mg x=BD u)(r:qd (Ϣ i) u)(a:(x == ("__debug__" : Str))=İ:=by decide):FE T X (ϛ x pos)$ eC$ Z i:=iB (sL b c r a) λd d=>by rw[Oa]
def two(n:Zj T r o)(h:tF T X (qb o fa fb) f H Q):gA r (tF T X fa) (tF T X fb) f H Q:=by
 obtain⟨A,g,B,e,m,l⟩:=h;exact⟨A,g,B,e,m,l.bind λx c a v C D j w p s=>⟨a,g,c,e.mono j,w,s.bind λy d b u i D k z q t=>n _ b i d x y v u Q z (Oa.mono k _ _ p) q t⟩⟩
def px(g:yh X (Ae d) r)(i:Zj T r o)(e:FE T X a fa)(f:FE T X b fb):FE T X (.BinOp a d b pos)$ qb o fa fb:=
 λc s j H Q I h=>Ź g e f c s j H Q I$ two i h
def Dp(i:yh X (Pb d) r)(j:Zj T r o)(e:FE T X a fa)(f:FE T X b fb)(g:de d b=İ):FE T X (.Compare a [d] [b] pos)$ qb o fa fb:=
 λc s k H Q I h=>T6 i e f g c s k H Q I$ two j h
def uO(f:mv X r)(i:Zj T r o)(d:FE T X a fa)(e:FE T X b fb)(g:DT b):FE T X (ϥ a b pos)$ qb o fa fb:=
 λc s j H Q I h=>γ f d e g c s j H Q I$ two i h
def É(j:vI X (unaryOp e) r)(m:MW T r o)(g:FE T X a fa):FE T X (.UnaryOp e a pos)$ Re o fa:=by
 intro b s t H Q I h;refine MY j g b s t H Q I ?_;obtain⟨u,w,y,i,l,k⟩:=h;exact⟨u,w,y,i,l,k.bind λx d c v f A z q n p=>m _ c f d x v Q q n p⟩
def sH{a}{b}{k:Bool->M e}{Q:f->Hp->Prop}(r:Oa T a H d v)(h:Xb T E b a H (Rc (kB d) k g) Q):∃ c,d=ϒ c/\v=Ϭ c/\Xb T E b a H (k c g) Q:=by
 cases d with
 |bl c=>rw[Oa]at r;exact⟨c,rfl,r,h⟩
 |_=>exact h.elim
def CN{b}{a}(r:Oa T a H d v)(h:Xb T E fM a H (kB d b) Q):∃ c,v=Ϭ c/\Xb T E fM a H (Y c b) Q:=by
 cases d with
 |bl c=>rw[Oa]at r;exact⟨c,r,h⟩
 |_=>exact h.elim
def Tq(m:yh X (Pb e) r)(t:Zj T r o)(g:FE T X a fa)(i:FE T X b fb)(l:de e b=İ):FT T X (.Compare a [e] [b] pos)$ eT$ qb o fa fb:=by
 intro c s st H Q I h;refine eL m g i l c s st H Q I$ two t ?_;obtain⟨y,A,B,j,p,n⟩:=h;refine⟨y,A,B,j,p,n.bind λd C z v E d F x u w=>?_⟩;obtain⟨k,f,q⟩:=CN u w;exact⟨k,f,q.here x rfl⟩
def kH(h:FE T X e f)(i:∀ a,Nz e X.env a=(do let v <-a;ah e.pos;we [v] (truthy v)):=by intro _;rfl):FT T X e$ eT f:=by
 intro b s st H Q I m;refine V3 h i b s st H Q I ?_;obtain⟨r,u,w,g,l,j⟩:=m;refine⟨r,u,w,g,l,j.bind λd x t v y d z p n o=>?_⟩;obtain⟨k,c,q⟩:=CN n o;exact⟨k,c,q.here p rfl⟩
def UN(h:FT T X a ta):FT T X (.UnaryOp .Not a pos)$ Dq ta:=by
 intro b s l H Q I g;refine ģ h b s l H Q I ?_;obtain⟨m,o,p,d,f,e⟩:=g;exact⟨m,o,p,d,f,e.bind λc q n v r c t k i j=>by cases i;exact j.here k rfl⟩
variable{rest:List Qa}
def AZ(h:FT T X a ta):FW T X (ϸ .And [a] pos) ta:=Y8 h
def J7(h:FT T X a ta):FW T X (ϸ .Or [a] pos) ta:=I0 h
theorem X2(h:FT T X a ta)(m:FW T X (ϸ .And (b::rest) pos) tb):FW T X (ϸ .And (a::b::rest) pos)$ rO ta tb:=by
 intro t e s r H Q I p;refine OZ h m t e s r H Q I ?_;obtain⟨u,k,w,i,o,n⟩:=p;refine⟨u,k,w,i,o,n.bind λc g f v x y l j q d=>?_⟩;cases q;cases c with
 |true=>unfold dj at d;rw[ka rfl]at d ⊢;exact⟨f,k,g,i.mono l,j,d⟩
 |false=>unfold dj at d;rw[ua zb]at d ⊢;exact d.here j rfl
def o8(h:FT T X a ta)(m:FW T X (ϸ .Or (b::rest) pos) tb):FW T X (ϸ .Or (a::b::rest) pos)$ Qr ta tb:=by
 intro t e s r H Q I p;refine Ű h m t e s r H Q I ?_;obtain⟨u,k,w,i,o,n⟩:=p;refine⟨u,k,w,i,o,n.bind λc g f v x y l j q d=>?_⟩;cases q;cases c with
 |true=>unfold dj at d;rw[ka rfl]at d ⊢;exact d.here j rfl
 |false=>unfold dj at d;rw[ua zb]at d ⊢;exact⟨f,k,g,i.mono l,j,d⟩
def CJ{op}(h:FE T X a fa):FE T X (ϸ op [a] pos) fa:=Ū h
def XM(h:FE T X a fa)(n:FE T X (ϸ .And (b::rest) pos) fb):FE T X (ϸ .And (a::b::rest) pos)$ IM fa fb:=by
 intro e s w H Q I r;refine X6 h n e s w H Q I ?_;obtain⟨x,k,y,i,p,o⟩:=r;refine⟨x,k,y,i,p,o.bind λd g f v z d l j t u=>?_⟩;obtain⟨c,rfl,m,q⟩:=sH t u;refine⟨c,m,?_⟩;cases c with
 |true=>unfold dj at q;rw[ka rfl]at q ⊢;exact⟨f,k,g,i.mono l,j,q⟩
 |false=>unfold dj at q;rw[ua zb]at q ⊢;exact Xb.here q j (by rw[Oa])
def P8(h:FE T X a fa)(n:FE T X (ϸ .Or (b::rest) pos) fb):FE T X (ϸ .Or (a::b::rest) pos)$ RU fa fb:=by
 intro e s w H Q I r;refine G5 h n e s w H Q I ?_;obtain⟨x,k,y,i,p,o⟩:=r;refine⟨x,k,y,i,p,o.bind λd g f v z d l j t u=>?_⟩;obtain⟨c,rfl,m,q⟩:=sH t u;refine⟨c,m,?_⟩;cases c with
 |true=>unfold dj at q;rw[ka rfl]at q ⊢;exact Xb.here q j (by rw[Oa])
 |false=>unfold dj at q;rw[ua zb]at q ⊢;exact⟨f,k,g,i.mono l,j,q⟩
def U6(h:FE T X a fa):FE T X (.UnaryOp .Not a pos)$ EU fa:=by
 intro b s n H Q I j;refine yja h b s n H Q I ?_;obtain⟨o,r,t,f,i,g⟩:=j;refine⟨o,r,t,f,i,g.bind λd u p v w d x m k l=>?_⟩;obtain⟨c,rfl,e,q⟩:=sH k l;exact⟨c,e,Xb.here q m (by rw[Oa])⟩
def ě(o:FT T X c ta)(m:FE T X a fa)(n:FE T X b fb):FE T X (.IfExp c a b pos)$ wu ta fa fb:=by
 intro f s u H Q I r;refine ğ o m n f s u H Q I ?_;obtain⟨w,j,x,i,q,p⟩:=r;refine⟨w,j,x,i,q,p.bind λd h g v y z k l t e=>?_⟩;cases t;cases d with
 |true=>unfold dj at e;rw[ka rfl]at e ⊢;exact⟨g,j,h,i.mono k,l,e⟩
 |false=>unfold dj at e;rw[ua zb]at e ⊢;exact⟨g,j,h,i.mono k,l,e⟩
variable{e:Qa}{es:List Qa}{fe:Ev->M D}{fs:Ev->M (B')}
def Rm:FA T X [] Bb:=by
 intro pos a s e H Q I d;refine ku pos a s e H Q I ?_;obtain⟨g,h,i,f,c,b⟩:=d;exact Xb.here b c ub.nil
def Oi(k:FE T X e fe)(b:FA T X es fs)(m:va (e::es) X.env=(İ,Lb e X.env)::va es X.env:=by rfl):FA T X (e::es)$ Ra fe fs:=by
 intro pos a s w H Q I n;refine Oq k b m pos a s w H Q I ?_;obtain⟨x,h,z,g,b,l⟩:=n;exact⟨x,h,z,g,b,l.bind λd f c v B d i t o q=>⟨c,h,f,g.mono i,t,q.bind λD A y E C d j u p r=>Xb.here r u$ ub.cons (Oa.mono j _ _ o) p⟩⟩
def OA{a}{e}{c}(h:Xb T E (Oa T) a H (Y (Ϗ d) e) Q)(r:vd T a H e)(q:ub T a H d c)(b:H p=Α):Q (ϗ p)$ Yb H p$ .Sa c:=
 h a _ _ (Ij b) (r.fresh b) (by rw[Oa];exact⟨p,c,rfl,Lf,ub.mono (Ij b) _ _ q⟩)
def ZB{c}{e}{b}(h:Xb T E (Oa T) c H (uB d e) Q)(r:vd T c H e)(q:ub T c H d b)(a:H p=Α):Q (ϗ p)$ Yb H p$ ϱ b:=
 h _ _ _ (Bu a) (r.push a ⟨b,Lf,ub.mono (Bu a) _ _ q⟩)$ ZA r
def PR{x1}(h:FA T X es fs):FE T X (ϲ es x1 pos)$ Eh fs:=by
 intro a s l H Q I j;refine aZ h a s l H Q I ?_;obtain⟨m,o,q,g,i,d⟩:=j;refine⟨m,o,q,g,i,d.bind λf r n v t p u k e b=>?_⟩;unfold Ru at b;by_cases c:f.length<=lg
 ·rw[ka c]at b;exact⟨by rw[<-e.length];exact gy c,λp d=>OA b k e d⟩
 ·rw[ua c]at b;exact b.elim
def yfh(h:FA T X es fs):FE T X (.List es pos)$ nv fs:=by
 intro a s l H Q I j;refine vU h a s l H Q I ?_;obtain⟨m,o,q,g,i,d⟩:=j;refine⟨m,o,q,g,i,d.bind λf r n v t p u k e b=>?_⟩;unfold XG at b;by_cases c:f.length<=lg
 ·rw[ka c]at b;exact⟨by rw[<-e.length];exact gy c,λp d=>ZB b k e d⟩
 ·rw[ua c]at b;exact b.elim
def KH{b}{c}(h:Xb T E (Oa T) b H (Y (ύ d) f) Q)(r:vd T b H f)(q:ub T b H d c)(a:H p=Α):Q (ϗ p)$ Yb H p$ ϱ c:=
 h b _ _ (Ij a) (r.fresh a) (by rw[Oa];exact⟨p,c,rfl,λg=>(by obtain⟨u,e,_⟩:=r.mem g;rw[a]at e;cases e),Lf,ub.mono (Ij a) _ _ q⟩)
def ę(h:FA T X es fs):FE T X (.List es pos)$ ci fs:=by
 intro a s l H Q I j;refine vU h a s l H Q I ?_;obtain⟨m,o,q,g,i,d⟩:=j;refine⟨m,o,q,g,i,d.bind λf r n v t p u k e b=>?_⟩;unfold Av at b;by_cases c:f.length<=lg
 ·rw[ka c]at b;exact⟨by rw[<-e.length];exact gy c,λp d=>KH b k e d⟩
 ·rw[ua c]at b;exact b.elim
end
noncomputable def oI(g:Int->Int->Int):D->D->M D
 | Z i,Z j=>ret (Z$ g i j)
 |_,_=>Fb
noncomputable def oB(g:Int->Int->Bool):D->D->M D
 | Z i,Z j=>ret (ϒ$ g i j)
 |_,_=>Fb
noncomputable def sw(C:Int->Int->Bool)(g:Int->Int->Int):D->D->M D
 | Z i,Z j=>if C i j=G6 then ret (Z$ g i j)else Fb
 |_,_=>Fb
def dt(i j:Int):Bool:=ee$ (decide (-(2 ^ 64)<i) && decide (i<2 ^ 64)) || (decide (-(2 ^ 64)<j) && decide (j<2 ^ 64))
def sK(_ j:Int):Bool:=ee$ decide (0<j) && decide (j<1073741824)
def mL(_ j:Int):Bool:=ee$ decide$ 0<j
def uu(i j:Int):Bool:=ee$ decide (0<=j) && decide (j<=1000000) && decide (i.natAbs<2 ^ 64)
abbrev VD:=oI (λi j=>i - j)
abbrev qz:=sw dt (λi j=>i * j)
abbrev Wr:=sw sK (λi j=>i / j)
abbrev Fi:=sw mL (λi j=>i % j)
abbrev Ap:=sw uu (λi j=>i ^ j.toNat)
abbrev oLt:=oB (λi j=>decide$ i<j)
abbrev oLe:=oB (λi j=>decide$ i<=j)
abbrev uX:=oB (λi j=>decide$ j<i)
abbrev pU:=oB (λi j=>decide$ j<=i)
noncomputable def US:D->M D
 | Z i=>ret (Z$ -i)
 |_=>Fb
noncomputable def rD(T:Tb)(o:D->D->M D):R2:=λv u H Q=>∃ (E:XK) (a:b') (σ:Ha) (x y:D),vd T a H σ/\Oa T a H x v/\Oa T a H y u/\Xb T E (Oa T) a H (o x y σ) Q
def nu:Zj T (rD T o) o:=λE a H b x y v u Q r p q h=>⟨E,a,b,x,y,r,p,q,h⟩
def En(h:Oa T a H (Z i) v):v=Ϣ i:=by simpa [Oa]using h
def P3:Zj T (Cp λi j=>Ϣ$ g i j)$ oI g:=by
 intro E a H b x y v u Q r p q h;cases x with
 |int i=>
  cases y with
  |int j=>exact⟨i,j,En p,En q,Xb.here h r (by rw[Oa])⟩
  |_=>exact h.elim
 |_=>exact h.elim
def jH:Zj T (Cp λi j=>Ϭ$ g i j)$ oB g:=by
 intro E a H b x y v u Q r p q h;cases x with
 |int i=>
  cases y with
  |int j=>exact⟨i,j,En p,En q,Xb.here h r (by rw[Oa])⟩
  |_=>exact h.elim
 |_=>exact h.elim
def QE(d:∀ i j,C i j=G6->b i j):Zj T (rI b λi j=>Ϣ$ g i j)$ sw C g:=by
 intro E f H k x y v u Q r p q h;cases x with
 |int i=>
  cases y with
  |int j=>
   by_cases a:C i j=G6
   ·have c:Xb T E (Oa T) f H (ret (Z$ g i j) k) Q:=by
     have e:sw C g (Z i) (Z j)=ret (Z$ g i j):=by show (if C i j=G6 then _ else _)=_;rw[ka a]
     simp_all
    exact⟨i,j,En p,En q,d i j a,Xb.here c r (by rw[Oa])⟩
   ·have e:sw C g (Z i) (Z j)=Fb:=by show (if C i j=G6 then _ else _)=_;rw[ua a]
    rw[e]at h;exact h.elim
  |_=>exact h.elim
 |_=>exact h.elim
def N9:Zj T (Cp λi j=>Ϣ$ i - j) VD:=P3
def ybo:Zj T (rI RI λi j=>Ϣ$ i * j) qz:=QE λi j h=>by
 simp[dt]at h;exact h
def þ:Zj T (rI nS λi j=>Ϣ$ i / j) Wr:=QE λi j h=>by
 simp[sK]at h;exact h
def eS:Zj T (rI (λa j=>0<j) λi j=>Ϣ$ i % j) Fi:=QE λi j h=>by
 simp[mL]at h;exact h
def U4:Zj T (rI cQ λi j=>Ϣ$ i ^ j.toNat) Ap:=QE λi j h=>by
 simp[uu]at h;exact⟨h.1.1,h.1.2,h.2⟩
def BK:Zj T (Cp λi j=>Ϭ$ decide$ i<j) oLt:=jH
def aJ:Zj T (Cp λi j=>Ϭ$ decide$ i<=j) oLe:=jH
def cY:Zj T (Cp λi j=>Ϭ$ decide$ j<i) uX:=jH
def vM:Zj T (Cp λi j=>Ϭ$ decide$ j<=i) pU:=jH
def F6:MW T (rU λi=>Ϣ$ -i) US:=by
 intro E a H b x v Q r p h;cases x with
 |int i=>exact⟨i,En p,Xb.here h r (by rw[Oa])⟩
 |_=>exact h.elim
noncomputable def sc:D->Option V
 | Ϛ=>BD .ic
 | ϒ b=>BD (Ϭ b)
 | Z i=>BD (Ϣ i)
 | ϔ x=>BD (.str x)
 |_=>Α
noncomputable def jf(a:Ha)(n:Nat):Option$ B':=match a[n]? with
 |some (ϐ xs)=>BD xs
 |_=>Α
theorem JH{xs}(h:jf a n=BD xs):a[n]?=BD (ϐ xs):=by
 unfold jf at h;cases e:a[n]? with
 |none=>simp_all
 |some o=>rw[e]at h;cases o<;>simp at h;subst h;rfl
inductive Kd where
 |s (v:V)|t (xs:B')|l (xs:B')|o
def kd(a:Ha):D->Kd
 | Ϛ=>.s .ic
 | ϒ b=>.s (Ϭ b)
 | Z i=>.s (Ϣ i)
 | ϔ x=>.s (.str x)
 | Ϗ xs=>.t xs
 | ύ xs=>.l xs
 | O n=>match jf a n with
  |some xs=>.l xs
  |none=>.o
 |_=>.o
noncomputable def Gk(f:D->D->Option Bool):B'->B'->Option Bool
 |[],[]=>BD G6
 |[],_::_=>BD İ
 |_::_,[]=>BD İ
 |x::xs,y::a=>match f x y,Gk f xs a with
  |some b,BD c=>BD (b && c)
  |_,_=>Α
def Vo(f:D->D->Option Bool):Kd->Kd->Option Bool
 | .s a,.s b=>BD (zk a b)
 | .t xs,.t c=>Gk f xs c
 | .l xs,.l c=>Gk f xs c
 | .s _,.t _=>BD İ
 | .t _,.s _=>BD İ
 | .s _,.l _=>BD İ
 | .l _,.s _=>BD İ
 | .t _,.l _=>BD İ
 | .l _,.t _=>BD İ
 |_,_=>Α
def xi(a:Ha):Nat->D->D->Option Bool
 |0,x,y=>Vo (λb b=>Α) (kd a x) (kd a y)
 |n+1,x,y=>Vo (xi a n) (kd a x) (kd a y)
noncomputable def lr(f:D->D->Option Bool)(xs c:B')(j:Nat):Bool:=match xs[j]?,c[j]? with
 |some a,BD b=>(f a b).getD İ
 |_,_=>İ
theorem ES(f:D->D->Option Bool):∀ (xs d:B') (b:Bool),Gk f xs d=BD b->
  (∀ (j:Nat) (a c:D),xs[j]?=BD a->d[j]?=BD c->∃ k,f a c=BD k)/\b=((List.range$ min xs.length d.length).all (lr f xs d) && xs.length == d.length)
 |[],[],b,h=>by simp[Gk]at h;subst h;simp
 |[],y::d,b,h=>by simp[Gk]at h;subst h;simp
 |x::xs,[],b,h=>by simp[Gk]at h;subst h;simp
 |x::xs,y::d,b,h=>by
  unfold Gk at h;cases e:f x y with
  |none=>simp_all
  |some i=>
   cases g:Gk f xs d with
   |none=>rw[e,g]at h;cases h
   |some l=>
    rw[e,g]at h;cases h;obtain⟨r,s⟩:=ES f xs d l g;refine⟨λj a c t u=>?_,?_⟩
    ·cases j with
     |zero=>simp_all
     |succ j=>exact r j a c (by simpa using t) (by assumption)
    ·have m:min (x::xs).length (y::d).length=min xs.length d.length+1:=by simp
     have n:∀ j,lr f (x::xs) (y::d) (j+1)=lr f xs d j:=λj=>by simp[lr]
     have o:lr f (x::xs) (y::d) 0=i:=by simp[lr,e]
     rw[m,Yo,Ee,HB,o,s];have p:(lr f _ _ ∘ Nat.succ)=lr f xs d:=funext λj=>n j;have q:((x::xs).length == (y::d).length)=(xs.length == d.length):=by simp
     rw[p,q,Bx]
section
variable{T:Tb}{μ:b'}{H:Hp}{σ:Ha}
def vd.ra(r:vd T μ H σ){n}{v}{xs}(h:Oa T μ H (O n) v)(e:jf σ n=BD xs):∃ a b,v=ϗ a/\μ[n]?=BD a/\H a=BD (ϱ b)/\ub T μ H xs b:=by
 obtain⟨a,rfl,c,b,d,f⟩:=r.at h (JH e);exact⟨a,b,rfl,c,d,f⟩
def aF(h:Oa T μ H d v)(e:sc d=BD a):v=a:=by
 cases d<;>simp[sc]at e<;>subst e<;>simpa [Oa]using h
theorem uQ(e:sc d=BD a):ki a=G6:=by
 cases d<;>simp[sc]at e<;>subst e<;>rfl
def Ä(h:ki a=G6):zk a a=G6:=by cases a<;>simp[ki,zk]at h ⊢
def ax(r:vd T μ H σ){d:D}{v:V}(h:Oa T μ H d v):match kd σ d with
  | .s a=>v=a/\ki a=G6
  | .t xs=>∃ p c,v=ϗ p/\H p=BD (.Sa c)/\ub T μ H xs c
  | .l xs=>∃ p c,v=ϗ p/\H p=BD (ϱ c)/\ub T μ H xs c
  | .o=>True:=by
 cases d with
 |ic=>exact⟨by simpa [Oa]using h,rfl⟩
 |bl b=>exact⟨by simpa [Oa]using h,rfl⟩
 |int b=>exact⟨by simpa [Oa]using h,rfl⟩
 |str b=>exact⟨by simpa [Oa]using h,rfl⟩
 |Sa xs=>rw[Oa]at h;exact h
 |ra xs=>rw[Oa]at h;obtain⟨a,c,f,_,g,i⟩:=h;exact⟨a,c,f,g,i⟩
 |ref n=>
  unfold kd;dsimp only;cases e:jf σ n with
  |none=>trivial
  |some xs=>obtain⟨a,c,f,_,g,i⟩:=r.ra h e;exact⟨a,c,f,g,i⟩
 |_=>trivial
theorem yL{f:D->D->Option Bool}(j:∀ (x y:D) (v:V) (b:Bool),Oa T μ H x v->Oa T μ H y v->f x y=BD b->b=G6):∀ (xs a:B') (e:lv) (b:Bool),ub T μ H xs e->ub T μ H a e->Gk f xs a=BD b->b=G6
 |[],a,e,b,d,c,h=>by
  rw[ub]at d;subst d;cases a with
  |nil=>simp[Gk]at h;exact h
  |cons y a=>rw[ub]at c;obtain⟨_,_,z,_⟩:=c;cases z
 |x::xs,a,e,b,d,c,h=>by
  rw[ub]at d;obtain⟨v,r,rfl,m,o⟩:=d;cases a with
  |nil=>rw[ub]at c;cases c
  |cons y a=>
   rw[ub]at c;obtain⟨s,q,z,n,p⟩:=c;cases z;unfold Gk at h;cases g:f x y with
   |none=>simp_all
   |some k=>
    cases i:Gk f xs a with
    |none=>simp_all
    |some l=>
     rw[g,i]at h;cases h;rw[j x y v k m n g,yL j xs a r l o p i];rfl
def uN(r:vd T μ H σ)(z:∀ x y v b,Oa T μ H x v->Oa T μ H y v->f x y=BD b->b=G6)(A:Oa T μ H x v)(B:Oa T μ H y v)(h:Vo f (kd σ x) (kd σ y)=BD b):b=G6:=by
 have k:=ax r A;have d:=ax r B;generalize kd σ x=C at h k;generalize kd σ y=n at h d;cases C with
 |s a=>
  obtain⟨rfl,fa⟩:=k;cases n with
  |s c=>obtain⟨rfl,_⟩:=d;cases h;exact Ä fa
  |t xs=>obtain⟨p,i,rfl,_⟩:=d;simp[ki]at fa
  |l xs=>obtain⟨p,i,rfl,_⟩:=d;simp[ki]at fa
  |o=>cases h
 |t xs=>
  obtain⟨p,i,rfl,m,u⟩:=k;cases n with
  |s c=>obtain⟨e,fa⟩:=d;rw[<-e]at fa;simp[ki]at fa
  |t j=>
   obtain⟨q,E,e,g,w⟩:=d;cases e;rw[m]at g;cases g;exact yL z xs j i b u w h
  |l j=>simp_all
  |o=>cases h
 |l xs=>
  obtain⟨p,i,rfl,m,u⟩:=k;cases n with
  |s c=>obtain⟨e,fa⟩:=d;rw[<-e]at fa;simp[ki]at fa
  |t j=>simp_all
  |l j=>
   obtain⟨q,E,e,g,w⟩:=d;cases e;rw[m]at g;cases g;exact yL z xs j i b u w h
  |o=>cases h
 |o=>cases h
theorem sV(r:vd T μ H σ):∀ (n:Nat) (x y:D) (v:V) (b:Bool),Oa T μ H x v->Oa T μ H y v->xi σ n x y=BD b->b=G6
 |0,x,y,v,b,a,c,h=>uN r (λg g g g g g z=>by cases z) a c h
 |n+1,x,y,v,b,a,c,h=>uN r (λx y v b d e f=>sV r n x y v b d e f) a c h
end
section
variable{pins:List$ Addr × Obj}{st:St}{μ:b'}{H:Hp}{s:Shared}{σ:Ha}
def VH(fa:ki a=G6)(r:qd a u)(c:s.heap.IsTuple p e)(d:A.units<cLine):Pc A s u (Mb p) İ/\Pc A s (Mb p) u İ/\Gg A s u (Mb p) İ/\Gg A s (Mb p) u İ/\Cg A s u (Mb p) G6/\Cg A s (Mb p) u G6:=by
 cases a with
 |ic=>cases r;exact⟨.none_tuple c d,.tuple_none c d,.none_tuple c d,.tuple_none c d,.none_tuple c d,.tuple_none c d⟩
 |bl b=>cases r;exact⟨.bool_tuple b c d,.tuple_bool b c d,.bool_tuple b c d,.tuple_bool b c d,.bool_tuple b c d,.tuple_bool b c d⟩
 |int b=>obtain⟨t,rfl⟩:=r;exact⟨.int_tuple b t c d,.tuple_int b t c d,.int_tuple b t c d,.tuple_int b t c d,.int_tuple b t c d,.tuple_int b t c d⟩
 |str b=>obtain⟨t,rfl⟩:=r;exact⟨.str_tuple b t c d,.tuple_str b t c d,.str_tuple b t c d,.tuple_str b t c d,.str_tuple b t c d,.tuple_str b t c d⟩
 |_=>simp[ki]at fa
def xW(fa:ki a=G6)(r:qd a u)(c:s.heap.IsList p e)(d:A.units<cLine):Gg A s u (Mb p) İ/\Gg A s (Mb p) u İ/\Cg A s u (Mb p) G6/\Cg A s (Mb p) u G6:=by
 cases a with
 |ic=>cases r;exact⟨.none_list c d,.list_none c d,.none_list c d,.list_none c d⟩
 |bl b=>cases r;exact⟨.bool_list b c d,.list_bool b c d,.bool_list b c d,.list_bool b c d⟩
 |int b=>obtain⟨t,rfl⟩:=r;exact⟨.int_list b t c d,.list_int b t c d,.int_list b t c d,.list_int b t c d⟩
 |str b=>obtain⟨t,rfl⟩:=r;exact⟨.str_list b t c d,.list_str b t c d,.str_list b t c d,.list_str b t c d⟩
 |_=>simp[ki]at fa
def Û(fa:ki a=G6)(r:qd a u)(c:s.heap.IsList p e)(d:A.units<cLine):Pc A s u (Mb p) İ:=by
 cases a with
 |ic=>cases r;exact .none_list c d
 |bl b=>cases r;exact .bool_list b c d
 |int b=>obtain⟨t,rfl⟩:=r;exact .int_list b t c d
 |str b=>obtain⟨t,rfl⟩:=r;exact .str_list b t c d
 |_=>trivial
def Z7(fa:ki a=G6)(r:qd a u)(c:s.heap.IsList p e)(d:A.units<cLine):Pc A s (Mb p) u İ:=by
 cases a with
 |ic=>cases r;exact .list_none c d
 |bl b=>cases r;exact .list_bool b c d
 |int b=>obtain⟨t,rfl⟩:=r;exact .list_int b t c d
 |str b=>obtain⟨t,rfl⟩:=r;exact .list_str b t c d
 |_=>trivial
def Ł(f:qd a u)(d:qd b w)(fa:ki a=G6)(e:ki b=G6):Gg A s u w (zk a b)/\Cg A s u w (!zk a b):=by
 cases a with
 |ic=>
  cases f;cases b with
  |ic=>cases d;exact⟨.none_none,.none_none⟩
  |bl y=>cases d;exact⟨.none_bool y,.none_bool y⟩
  |int y=>obtain⟨t,rfl⟩:=d;exact⟨.none_int y t,.none_int y t⟩
  |str y=>obtain⟨t,rfl⟩:=d;exact⟨.none_str y t,.none_str y t⟩
  |_=>simp[ki]at e
 |bl x=>
  cases f;cases b with
  |ic=>cases d;exact⟨.bool_none x,.bool_none x⟩
  |bl y=>cases d;exact⟨.bool_bool x y,.bool_bool x y⟩
  |int y=>obtain⟨t,rfl⟩:=d;exact⟨.bool_int x y t,.bool_int x y t⟩
  |str y=>obtain⟨t,rfl⟩:=d;exact⟨.bool_str x y t,.bool_str x y t⟩
  |_=>simp[ki]at e
 |int x=>
  obtain⟨c,rfl⟩:=f;cases b with
  |ic=>cases d;exact⟨.int_none x c,.int_none x c⟩
  |bl y=>cases d;exact⟨.int_bool x c y,.int_bool x c y⟩
  |int y=>obtain⟨t,rfl⟩:=d;exact⟨.int_int x c y t,.int_int x c y t⟩
  |str y=>obtain⟨t,rfl⟩:=d;exact⟨.int_str x c y t,.int_str x c y t⟩
  |_=>simp[ki]at e
 |str x=>
  obtain⟨c,rfl⟩:=f;cases b with
  |ic=>cases d;exact⟨.str_none x c,.str_none x c⟩
  |bl y=>cases d;exact⟨.str_bool x c y,.str_bool x c y⟩
  |int y=>obtain⟨t,rfl⟩:=d;exact⟨.str_int x c y t,.str_int x c y t⟩
  |str y=>obtain⟨t,rfl⟩:=d;exact⟨.str_str x c y t,.str_str x c y t⟩
  |_=>simp[ki]at e
 |_=>simp[ki]at fa
def cJ{xs}{i:Nat}(r:ke xs a)(h:a[i]?=BD u):∃ x,xs[i]?=BD x/\qd x u:=by
 have e:=r.length;have d:=(da.mp h).1;obtain⟨f,b,c⟩:=r.get (i:=i) (x:=xs[i]'⋯) ⋯
 simp_all
def AL{i:Nat}(r:ub T μ H a b)(h:b[i]?=BD v):∃ d,a[i]?=BD d/\Oa T μ H d v:=by
 have g:=r.length;have f:=(da.mp h).1;obtain⟨j,c,e⟩:=r.get (i:=i) (d:=a[i]'⋯) ⋯
 simp_all
def iM(J:∀ x y v w z C b,Oa T μ H x v->Oa T μ H y w->qd v z->qd w C->f x y=BD b->Pc A s z C b)
  {xs c} (r:ub T μ H xs B) (t:ub T μ H c E) (p:ke B a) (q:ke E d) (h:Gk f xs c=BD b) :
  (∀ j (n:j<a.toArray.size) (o:j<d.toArray.size),Pc A s a.toArray[j] d.toArray[j] (lr f xs c j))/\b=((List.range$ min a.toArray.size d.toArray.size).all (lr f xs c) && a.toArray.size == d.toArray.size):=by
 obtain⟨n,o⟩:=ES f xs c b h;refine⟨λj M N=>?_,?_⟩
 ·obtain⟨v,F,L⟩:=cJ (i:=j) (u:=a.toArray[j]) p ⋯;obtain⟨w,G,e⟩:=cJ (i:=j) (u:=d.toArray[j]) q ⋯;obtain⟨x,g,K⟩:=AL r F;obtain⟨y,l,p4⟩:=AL t G;obtain⟨k,m⟩:=n j x y g l;have I:lr f xs c j=k:=by simp[lr,g,l,m]
  rw[I];exact J x y v w _ _ k K p4 L e m
 ·simp;rw[o,r.length,t.length,p.length,q.length]
abbrev uU(A:Na)(s:Shared)(v w:Value)(b:Bool):Prop:=Gg A s v w b/\Cg A s v w (!b)
def OL(I:db X pins st H s)(r:vd T μ H σ)(hu:A.units+1<cLine)
  (hf:∀ x y v w ϋ P b,Oa T μ H x v->Oa T μ H y w->qd v ϋ->qd w P->f x y=BD b->Pc A.in1 s ϋ P b) (hx:Oa T μ H x v) (hy:Oa T μ H y w) (N:qd v ϋ) (d:qd w P) (h:Vo f (kd σ x) (kd σ y)=BD b):uU A s ϋ P b:=by
 have g:A.units<cLine:=by lia
 have S:=ax r hx;have m:=ax r hy;generalize kd σ x=k1 at h S;generalize kd σ y=W at h m;cases k1 with
 |o=>cases h
 |s a=>
  obtain⟨rfl,fa⟩:=S;cases W with
  |o=>cases h
  |s c=>obtain⟨rfl,K⟩:=m;cases h;exact Ł N d fa K
  |t C=>
   obtain⟨q,Q,rfl,j,z⟩:=m;cases h;cases d;obtain⟨k,_,u,_⟩:=L2.db.tuple I (Ig.of j);obtain⟨_,_,E,F,G,J⟩:=VH fa N u g;exact⟨E,G⟩
  |l C=>
   obtain⟨q,Q,rfl,j,z⟩:=m;cases h;cases d;obtain⟨k,_,pl,_⟩:=L2.db.list I (Ie.of j);obtain⟨E,F,G,J⟩:=xW fa N pl.isList g;exact⟨E,G⟩
 |t xs=>
  obtain⟨p,vs,rfl,U,r1⟩:=S;cases N;obtain⟨k,ό,M,_⟩:=L2.db.tuple I (Ig.of U);cases W with
  |o=>cases h
  |s c=>
   obtain⟨rfl,K⟩:=m;cases h;obtain⟨_,_,E,F,G,J⟩:=VH K d M g;exact⟨F,J⟩
  |t C=>
   obtain⟨q,Q,rfl,j,z⟩:=m;cases d;obtain⟨i,ϊ,u,_⟩:=L2.db.tuple I (Ig.of j);obtain⟨L,R⟩:=iM hf r1 z ό ϊ h;rw[R];exact⟨.tuples M u ⋯ L,.tuples M u ⋯ L⟩
  |l C=>
   obtain⟨q,Q,rfl,j,z⟩:=m;cases h;cases d;obtain⟨i,_,pl,_⟩:=L2.db.list I (Ie.of j);exact⟨.tuple_list M pl.isList g,.tuple_list M pl.isList g⟩
 |l xs=>
  obtain⟨p,vs,rfl,U,r1⟩:=S;cases N;obtain⟨k,ό,pl,_⟩:=L2.db.list I (Ie.of U);cases W with
  |o=>cases h
  |s c=>
   obtain⟨rfl,K⟩:=m;cases h;obtain⟨E,F,G,J⟩:=xW K d pl.isList g;exact⟨F,J⟩
  |t C=>
   obtain⟨q,Q,rfl,j,z⟩:=m;cases h;cases d;obtain⟨i,_,u,_⟩:=L2.db.tuple I (Ig.of j);exact⟨.list_tuple pl.isList u g,.list_tuple pl.isList u g⟩
  |l C=>
   obtain⟨q,Q,rfl,j,z⟩:=m;cases d;obtain⟨i,ϊ,n,_⟩:=L2.db.list I (Ie.of j);obtain⟨L,R⟩:=iM hf r1 z ό ϊ h;by_cases B:k.toArray.size=i.toArray.size
   ·have e:b=(List.range k.toArray.size).all (lr f xs C):=by rw[R,<-B];simp
    rw[e];exact⟨.lists pl.isList n.isList B ⋯ L,.lists pl.isList n.isList B ⋯ L⟩
   ·have e:b=İ:=by rw[R,be.mpr B,Cm]
    rw[e];exact⟨.lists_lengths pl.isList n.isList (by simpa using B) ⋯,.lists_lengths pl.isList n.isList (by simpa using B) ⋯⟩
def BR(I:db X pins st H s)(r:vd T μ H σ)(W:A.units+1<cLine)
  (Q:∀ x y v w E F b,Oa T μ H x v->Oa T μ H y w->qd v E->qd w F->f x y=BD b->Pc A.in1 s E F b)
  (U:∀ x y v b,Oa T μ H x v->Oa T μ H y v->f x y=BD b->b=G6) (G:Oa T μ H x v) (J:Oa T μ H y w) (m:qd v E) (d:qd w F) (h:Vo f (kd σ x) (kd σ y)=BD b):Pc A s E F b:=by
 have j:A.units<cLine:=by lia
 have K:=(OL I r W Q G J m d h).1;by_cases i:v=w
 ·subst i;have P:=uN r U G J h;have k:=ax r G;have g:=ax r J;generalize kd σ x=N at h k;generalize kd σ y=C at h g;cases N with
  |o=>cases h
  |s a=>
   obtain⟨rfl,fa⟩:=k;cases C with
   |o=>cases h
   |s c=>obtain⟨rfl,n⟩:=g;cases h;exact pO m d fa n
   |t B=>obtain⟨q,z,e,_⟩:=g;rw[e]at fa;simp[ki]at fa
   |l B=>obtain⟨q,z,e,_⟩:=g;rw[e]at fa;simp[ki]at fa
  |t xs=>
   obtain⟨p,ϋ,rfl,_⟩:=k;cases m;cases d;rw[P];exact zj _
  |l xs=>
   obtain⟨p,ϋ,rfl,_⟩:=k;cases m;cases d;rw[P];exact zj _
 ·have k:=ax r G;have g:=ax r J;generalize kd σ x=N at h k;generalize kd σ y=C at h g;cases N with
  |o=>cases h
  |s a=>
   obtain⟨rfl,fa⟩:=k;cases C with
   |o=>cases h
   |s c=>obtain⟨rfl,n⟩:=g;cases h;exact pO m d fa n
   |t B=>
    obtain⟨q,z,rfl,M,ϊ⟩:=g;cases h;cases d;obtain⟨u,_,S,_⟩:=L2.db.tuple I (Ig.of M);exact(VH fa m S j).1
   |l B=>
    obtain⟨q,z,rfl,M,ϊ⟩:=g;cases h;cases d;obtain⟨u,_,pl,_⟩:=L2.db.list I (Ie.of M);exact Û fa m pl.isList j
  |t xs=>
   obtain⟨p,ϋ,rfl,L,ό⟩:=k;cases m;cases C with
   |o=>cases h
   |s c=>
    obtain⟨rfl,n⟩:=g;cases h;obtain⟨u,_,R,_⟩:=L2.db.tuple I (Ig.of L);exact(VH n d R j).2.1
   |t B=>obtain⟨q,z,rfl,_⟩:=g;cases d;exact .of_refs (λe=>i (by rw[e])) K
   |l B=>obtain⟨q,z,rfl,_⟩:=g;cases d;exact .of_refs (λe=>i (by rw[e])) K
  |l xs=>
   obtain⟨p,ϋ,rfl,L,ό⟩:=k;cases m;cases C with
   |o=>cases h
   |s c=>
    obtain⟨rfl,n⟩:=g;cases h;obtain⟨u,_,pl,_⟩:=L2.db.list I (Ie.of L);exact Z7 n d pl.isList j
   |t B=>obtain⟨q,z,rfl,_⟩:=g;cases d;exact .of_refs (λe=>i (by rw[e])) K
   |l B=>obtain⟨q,z,rfl,_⟩:=g;cases d;exact .of_refs (λe=>i (by rw[e])) K
theorem LG(I:db X pins st H s)(r:vd T μ H σ):∀ (n:Nat) (A:Na) (x y:D) (v w:V) (c d:Value) (b:Bool),A.units+n+1<cLine->Oa T μ H x v->Oa T μ H y w->qd v c->qd w d->xi σ n x y=BD b->Pc A s c d b
 |0,A,x,y,v,w,c,d,b,o,i,j,k,a,h=>BR I r ⋯ (λp p p p p p p p p p p z=>by cases z) (λp p p p p p z=>by cases z) i j k a h
 |n+1,A,x,y,v,w,c,d,b,o,i,j,k,a,h=>BR I r ⋯ (λx y v w c d b e f g l m=>LG I r n A.in1 x y v w c d b (by show A.units+1+n+1<cLine;lia) e f g l m) (λx y v b e f g=>sV r n x y v b e f g) i j k a h
def zX(I:db X pins st H s)(r:vd T μ H σ) n(o:A.units+n+1<cLine)(e:Oa T μ H x v)(f:Oa T μ H y w)(g:qd v c)(a:qd w d)(h:xi σ n x y=BD b):uU A s c d b:=by
 cases n with
 |zero=>exact OL I r ⋯ (λp p p p p p p p p p p z=>by cases z) e f g a h
 |succ n=>exact OL I r ⋯ (λx y v w c d b i j k l m=>LG I r n A.in1 x y v w c d b (by show A.units+1+n+1<cLine;lia) i j k l m) e f g a h
end
section
variable{pins:List$ Addr × Obj}{st:St}{μ:b'}{H:Hp}{s:Shared}{σ:Ha}
def wh(x y:D):M D:=λσ=>match xi σ 8 x y with
 |some b=>Y (ϒ b) σ
 |none=>Ϙ
def qh(x y:D):M D:=λσ=>match xi σ 8 x y with
 |some b=>Y (ϒ$ !b) σ
 |none=>Ϙ
def aO(h:X.A.units+9<cLine):yh X (Pb .Eq)$ rD T wh:=by
 rintro pins s st H v u j i Q I g f ⟨E,μ,σ,x,y,r,c,d,a⟩;unfold wh at a;cases e:xi σ 8 x y with
 |none=>rw[e]at a;exact a.elim
 |some b=>
  rw[e]at a;have:=(zX I r 8 ⋯ c d g f e).1 X.prog X.w X.xe (EP X pins st Q) ⟨Ϭ b,H,I,rfl,Xb.here a r (by rw[Oa])⟩;exact this
def aV(h:X.A.units+9<cLine):yh X (Pb .NotEq)$ rD T qh:=by
 rintro pins s st H v u j i Q I g f ⟨E,μ,σ,x,y,r,c,d,a⟩;unfold qh at a;cases e:xi σ 8 x y with
 |none=>rw[e]at a;exact a.elim
 |some b=>
  rw[e]at a;have:=(zX I r 8 ⋯ c d g f e).2 X.prog X.w X.xe (EP X pins st Q) ⟨Ϭ _,H,I,rfl,Xb.here a r (by rw[Oa])⟩;exact this
noncomputable def Ko(x y:D):M D:=λσ=>match y with
 | Ϛ=>(match x with
  | Ϛ=>Y (ϒ G6) σ
  |_=>Y (ϒ İ) σ)
 |_=>Ϙ
noncomputable def dC(x y:D):M D:=λσ=>match y with
 | Ϛ=>(match x with
  | Ϛ=>Y (ϒ İ) σ
  |_=>Y (ϒ G6) σ)
 |_=>Ϙ
def XX(h:Oa T μ H x v):decide (v=.ic)=(match x with | Ϛ=>G6|_=>İ):=by
 cases x with
 |ic=>rw[Oa]at h;subst h;rfl
 |Sa ds=>rw[Oa]at h;obtain⟨p,_,rfl,_⟩:=h;simp
 |Rg ds=>rw[Oa]at h;obtain⟨p,rfl,_⟩:=h;simp
 |ref ds=>rw[Oa]at h;obtain⟨p,rfl,_⟩:=h;simp
 |ra ds=>rw[Oa]at h;obtain⟨p,_,rfl,_⟩:=h;simp
 |Pa ks ds=>rw[Oa]at h;obtain⟨p,_,rfl,_⟩:=h;simp
 |obj c ks ds=>rw[Oa]at h;obtain⟨p,_,_,rfl,_⟩:=h;simp
 |Gq c=>rw[Oa]at h;obtain⟨p,_,rfl,_⟩:=h;simp
 |gt ds=>rw[Oa]at h;obtain⟨p,rfl,_⟩:=h;simp
 |_=>rw[Oa]at h;subst h;simp
def xS:Zj T (λx y H Q=>y=.ic/\Q (Ϭ$ decide$ x=.ic) H) Ko:=by
 intro E μ H σ x y v u Q r p q h;cases y with
 |ic=>
  refine⟨by rw[Oa]at q;exact q,?_⟩;rw[XX p];cases x<;>exact Xb.here h r (by rw[Oa])
 |_=>exact h.elim
def nR:Zj T (λx y H Q=>y=.ic/\Q (Ϭ$ !decide (x=.ic)) H) dC:=by
 intro E μ H σ x y v u Q r p q h;cases y with
 |ic=>
  refine⟨by rw[Oa]at q;exact q,?_⟩;rw[XX p];cases x<;>exact Xb.here h r (by rw[Oa]<;>rfl)
 |_=>exact h.elim
def G4(r:ub T μ H a b)(h:So a k=BD d):∃ v,So b k=BD v/\Oa T μ H d v:=by
 unfold So at h ⊢;rw[<-r.length];cases e:Fy a.length k with
 |none=>simp_all
 |some j=>rw[e]at h;exact r.get h
theorem jE:∀ (a:gV),ub T μ H (a.map Z) (a.map Ϣ)
 |[]=>ub.nil
 |n::a=>ub.cons (by rw[Oa]) (jE a)
def pi(σ:Ha):D->Option (B')
 | Ϗ xs=>BD xs
 | ϯ ns=>BD (ns.map Z)
 | O n=>jf σ n
 | ύ xs=>BD xs
 | .gt ss=>BD (ss.map ϔ)
 |_=>Α
def Nb(x i:D):M D:=λσ=>match i with
 | Z k=>(match pi σ x with
  |some xs=>(match So xs k with
   |some d=>Y d σ
   |none=>Ϙ)
  |none=>Ϙ)
 |_=>Ϙ
theorem DE:∀ (a:ac),ub T μ H (a.map ϔ) (a.map V.str)
 |[]=>ub.nil
 |n::ns=>ub.cons (by rw[Oa]) (DE ns)
def Yx(r:vd T μ H σ){xs}(h:Oa T μ H x v)(e:pi σ x=BD xs):∃ p c,v=ϗ p/\ub T μ H xs c/\(Ie T.K H p c\/Ig T.K H p c):=by
 cases x with
 |Sa ds=>cases e;rw[Oa]at h;obtain⟨p,c,rfl,b,d⟩:=h;exact⟨p,c,rfl,d,ϖ$ Ig.of b⟩
 |Rg ns=>cases e;rw[Oa]at h;obtain⟨p,rfl,b⟩:=h;exact⟨p,_,rfl,jE ns,ϑ b.seq⟩
 |ref n=>obtain⟨a,c,rfl,_,b,d⟩:=r.ra h e;exact⟨a,c,rfl,d,ϑ$ Ie.of b⟩
 |ra ds=>cases e;rw[Oa]at h;obtain⟨p,c,rfl,_,b,d⟩:=h;exact⟨p,c,rfl,d,ϑ$ Ie.of b⟩
 |gt ss=>cases e;rw[Oa]at h;obtain⟨p,rfl,b⟩:=h;exact⟨p,_,rfl,DE ss,ϖ$ ϖ b⟩
 |_=>cases e
def UJ(l:T.K=X.K):Zj T (λx y H Q=>wM X.K x y H Q\/OJ X.K x y H Q) Nb:=by
 intro E μ H σ x y v u Q r p q h;cases y with
 |int k=>
  unfold Nb at h;cases e:pi σ x with
  |none=>simp[e]at h;exact h.elim
  |some xs=>
   simp[e]at h;cases c:So xs k with
   |none=>rw[c]at h;exact h.elim
   |some d=>
    rw[c]at h;obtain⟨a,i,rfl,j,b⟩:=Yx r p e;obtain⟨w,f,g⟩:=G4 j c;rw[l]at b;rcases b with b|b
    ·exact ϑ ⟨a,i,k,w,rfl,En q,b,f,Xb.here h r g⟩
    ·exact ϖ ⟨a,i,k,w,rfl,En q,b,f,Xb.here h r g⟩
 |_=>trivial
def lK:mv X (λx y H Q=>wM X.K x y H Q\/OJ X.K x y H Q):=Ĳ.or S5
def bv(d:D):Bool:=(sc d).isSome
def xw(x y:D):Bool:=match sc x,sc y with
 |some a,BD b=>zk a b
 |_,_=>İ
def zB(a:Bool)(x y:D):M D:=λσ=>match pi σ y with
 |some xs=>if (bv x && xs.all bv)=G6 then Y (ϒ$ if a then !(xs.any λz=>xw z x)else xs.any λz=>xw z x) σ else Ϙ
 |none=>Ϙ
theorem NQ:∀ {c:B'} {b:lv},ub T μ H c b->c.all bv=G6->b.all ki=G6
 |[],b,h,_=>by rw[ub]at h;subst h;rfl
 |d::c,b,h,e=>by
  obtain⟨v,r,rfl,g,i⟩:=h;rw[Ee,Ma]at e ⊢;obtain⟨a,f⟩:=ie.mp e.1;exact⟨by rw[aF g f];exact uQ f,NQ i e.2⟩
theorem lX{x:D}{a:V}(ex:sc x=BD a):∀ {b:B'} {f:lv},ub T μ H b f->b.all bv=G6->(b.any λz=>xw z x)=f.any λy=>zk y a
 |[],f,h,_=>by rw[ub]at h;subst h;rfl
 |d::b,f,h,e=>by
  obtain⟨v,r,rfl,i,j⟩:=h;rw[Ee,Ma]at e;obtain⟨c,g⟩:=ie.mp e.1;rw[jh,jh,lX ex j e.2];have:xw d x=zk v a:=by unfold xw;rw[g,ex,aF i g]
  grind
def JX(l:T.K=X.K) d:Zj T (VJ X.K d)$ zB d:=by
 intro E μ H σ x y v u Q r p q h;unfold zB at h;cases e:pi σ y with
 |none=>rw[e]at h;exact h.elim
 |some xs=>
  rw[e]at h;by_cases c:(bv x && xs.all bv)=G6
  ·simp[c]at h;rw[Ma]at c;obtain⟨a,f⟩:=ie.mp c.1;obtain⟨b,j,rfl,g,i⟩:=Yx r q e;rw[l]at i;refine⟨b,j,rfl,i,by rw[aF p f];exact uQ f,NQ g c.2,?_⟩;have k:XA v j=xs.any λz=>xw z x:=by unfold XA;rw[lX f g c.2,aF p f]
   rw[k];exact Xb.here h r (by rw[Oa])
  ·simp[c]at h;exact h.elim
def Il(xs:B'):M D:=λσ=>match xs with
 |[x]=>(match pi σ x with
  |some a=>Y (Z a.length) σ
  |none=>Ϙ)
 |_=>Ϙ
def T3(i:T.K=X.K):No T (λxs H Q=>∃ p a,xs=[ϗ p]/\(Ie X.K H p a\/Ig X.K H p a)/\Q (Ϣ a.length) H) Il:=by
 intro E μ H σ xs f Q r p h
 match xs with
 |[]=>exact h.elim
 |[x]=>
  obtain⟨v,w,rfl,j,d⟩:=p;rw[ub]at d;subst d;unfold Il at h;cases e:pi σ x with
  |none=>simp[e]at h;exact h.elim
  |some a=>
   simp[e]at h;obtain⟨b,f,rfl,g,c⟩:=Yx r j e;rw[i]at c;exact⟨b,f,rfl,c,by rw[<-g.length];exact Xb.here h r (by rw[Oa])⟩
 |_::_::_=>exact h.elim
def Io(xs:B'):M D:=λσ=>match xs with
 |[x]=>(match pi σ x with
  |some a=>uB a σ
  |none=>Ϙ)
 |_=>Ϙ
def W5(i:T.K=X.K):No T (λxs H Q=>∃ p a,xs=[ϗ p]/\(Ie X.K H p a\/Ig X.K H p a)/\∀ l,H l=Α->Q (ϗ l) (Yb H l$ ϱ a)) Io:=by
 intro E μ H σ xs f Q r p h
 match xs with
 |[]=>exact h.elim
 |[x]=>
  obtain⟨v,w,rfl,k,d⟩:=p;rw[ub]at d;subst d;unfold Io at h;cases e:pi σ x with
  |none=>simp[e]at h;exact h.elim
  |some a=>
   simp only[e]at h;obtain⟨b,f,rfl,g,c⟩:=Yx r k e;rw[i]at c;exact⟨b,f,rfl,c,λl j=>ZB h r g j⟩
 |_::_::_=>exact h.elim
noncomputable def BX:D->Bool
 | .gt _=>G6
 |_=>İ
def NU(xs:B'):M D:=λσ=>match xs with
 |[x]=>(match pi σ x with
  |some a=>if BX x=G6 then Ϙ else Y (Ϗ a) σ
  |none=>Ϙ)
 |_=>Ϙ
def C7(m:T.K=X.K):No T (λxs H Q=>∃ p i,xs=[ϗ p]/\((Ie X.K H p i/\∀ l,H l=Α->Q (ϗ l) (Yb H l$ .Sa i))\/(Ig X.K H p i/\Q (ϗ p) H))) NU:=by
 intro E μ H σ xs f Q r p h
 match xs with
 |[]=>exact h.elim
 |[x]=>
  obtain⟨v,w,rfl,c,k⟩:=p;rw[ub]at k;subst k;have h:Xb T E _ μ H (match pi σ x with|some i=>if BX x=G6 then Ϙ else Y _ σ|none=>Ϙ) Q:=h;cases e:pi σ x with
  |none=>simp[e]at h;exact h.elim
  |some i=>
   simp[e]at h;cases x with
   |gt ss=>exact h.elim
   |Sa ds=>
    cases e;have o:=c;rw[Oa]at c;obtain⟨b,f,rfl,d,j⟩:=c;exact⟨b,f,rfl,ϖ ⟨Ig.of d,Xb.here h r o⟩⟩
   |Rg ns=>
    cases e;rw[Oa]at c;obtain⟨b,rfl,d⟩:=c;exact⟨b,_,rfl,ϑ ⟨by rw[<-m];exact d.seq,λl g=>OA h r (jE ns) g⟩⟩
   |ref n=>
    obtain⟨a,f,rfl,_,d,j⟩:=r.ra c e;exact⟨a,f,rfl,ϑ ⟨Ie.of d,λl g=>OA h r j g⟩⟩
   |ra ds=>
    cases e;rw[Oa]at c;obtain⟨b,f,rfl,_,d,j⟩:=c;exact⟨b,f,rfl,ϑ ⟨Ie.of d,λl g=>OA h r j g⟩⟩
   |_=>cases e
 |_::_::_=>exact h.elim
end
noncomputable def Uk(o:B'->M D)(a:Ev->M (B')):Ev->M D:=λb=>Rc (a b) o
section
variable{x:Str}{p pos:Zd}{e:Qa}{es:List Qa}{fs:Ev->M (B')}{id ty:String}{r:lv->Hp->VK->Prop}{o:B'->M D}
def FP(j:No T r o)(h:tF T X (Uk o fs) c H Q):oO r (tL T X fs) c H Q:=by
 obtain⟨p,q,s,f,i,g⟩:=h;exact⟨p,q,s,f,i,g.bind λe b a n d u t m k l=>j _ a d b e n Q m k l⟩
def Ky(f:Xl X (ϣ id) r)(l:No T r o)(i:Gl X x)(j:X.mg x=Α)(m:bootBuiltins x=BD (ϣ id))(d:FA T X (e::es) fs)(k:x ≠ "__name__":=by decide)(b:(x == ("__debug__" : Str))=İ:=by decide)
  (g:va (e::es) X.env=(İ,Lb e X.env)::va es X.env:=by rfl) (c:(pc pos$ va es X.env).any (·.1)=İ:=by rfl):FE T X (ϟ (ϛ x p) (e::es) [] pos)$ Uk o fs:=
 λa s n H Q I h=>VG f i j m d k b g c a s n H Q I$ FP l h
def wC(f:Xl X (Jh ty) r)(l:No T r o)(i:Gl X x)(j:X.mg x=Α)(m:bootBuiltins x=BD (Jh ty))(d:FA T X (e::es) fs)(k:x ≠ "__name__":=by decide)(b:(x == ("__debug__" : Str))=İ:=by decide)
  (g:va (e::es) X.env=(İ,Lb e X.env)::va es X.env:=by rfl) (c:(pc pos$ va es X.env).any (·.1)=İ:=by rfl):FE T X (ϟ (ϛ x p) (e::es) [] pos)$ Uk o fs:=
 λa s n H Q I h=>jK f i j m d k b g c a s n H Q I$ FP l h
end
def uf(a:Ha):D->Option (B')
 | O n=>jf a n
 | ύ xs=>BD xs
 |_=>Α
def vd.ls(r:vd T g H i){xs}(h:Oa T g H x v)(e:uf i x=BD xs):∃ a b,v=ϗ a/\H a=BD (ϱ b)/\ub T g H xs b:=by
 cases x with
 |ref n=>obtain⟨a,b,c,_,d,f⟩:=r.ra h e;exact⟨a,b,c,d,f⟩
 |ra j=>cases e;rw[Oa]at h;obtain⟨a,b,c,_,d,f⟩:=h;exact⟨a,b,c,d,f⟩
 |_=>cases e
def Cr(o:D->B'->M D)(m:M$ B')(x:D):M D:=λa=>match uf a x with
 |some _=>Rc m (o x) a
 |none=>Ϙ
def Qq(o:D->B'->M D)(f:Ev->M D)(b:Ev->M (B')):Ev->M D:=λa=>Rc (f a)$ Cr o$ b a
def tz(T:Tb)(r:V->lv->Hp->VK->Prop)(o:D->B'->M D):Prop:=∀ (E:XK) a H c x xs v b Q,vd T a H c->Oa T a H x v->ub T a H xs b->Xb T E (Oa T) a H (o x xs c) Q->r v b H Q
def zi(x:D)(xs:B'):M D:=λb=>match x,xs with
 | O n,[y]=>(match jf b n with
  |some a=>if a.length<lg then Y Ϛ (b.set n$ ϐ$ a++[y])else Ϙ
  |none=>Ϙ)
 |_,_=>Ϙ
section
variable{o e:Qa}{es:List Qa}{f:Ev->M D}{fs:Ev->M (B')}{name:Str}{apos cpos:Zd}{id:String}{r:V->lv->Hp->VK->Prop}{g:D->B'->M D}
def wx(R:xl "list")(l:XO "list" name id)(q:kn (ϣ id)=pure (Jh "method_descriptor"))(K:Jw X id r)(ϋ:tz T r g)(L:FE T X o f)(J:FA T X (e::es) fs)
  (c:Ed o name X.env (Lb o X.env)=Lb o X.env:=by rfl)
  (i:((pc cpos$ va (e::es) X.env).all (λx=>!x.1) && (Fg cpos$ Ge [] X.env).all (λx=>x.1.isSome)
   && decide ((e::es).length+([]:List Mi).length+(if ([]:List Mi).isEmpty then 0 else 1)<30))=G6:=by rfl)
  (d:(apos.endLine == cpos.line)=G6:=by rfl) (p:va (e::es) X.env=(İ,Lb e X.env)::va es X.env:=by rfl) (b:(pc cpos$ va es X.env).any (·.1)=İ:=by rfl) :
  FE T X (ϟ (Ϝ o name apos) (e::es) [] cpos)$ Qq g f fs:=by
 intro j s V H Q I h;refine Ø R l q K L J c i d p b j s V H Q I ?_;obtain⟨ϊ,B,σ,y,N,M⟩:=h;refine⟨ϊ,B,σ,y,N,M.bind λx m t v H1 O E A z k=>?_⟩;unfold Cr at k;cases n:uf m x with
 |none=>rw[n]at k;exact k.elim
 |some xs=>
  rw[n]at k;obtain⟨a,W,rfl,G,h2⟩:=A.ls z n;exact⟨ϑ ⟨rfl,W,Ie.of G⟩,t,B,m,y.mono E,A,k.bind λD w u ό C O F U P S=>(ϋ _ u C w x D _ ό Q U (Oa.mono F _ _ z) P S)⟩
def kL:tz T rL zi:=by
 intro E k H o x xs v d Q r p q h;cases x with
 |ref n=>
  match xs with
  |[]=>exact h.elim
  |[y]=>
   apply b_;intro z_;obtain⟨w,z,rfl,l,i⟩:=q;rw[ub]at i;subst i;unfold zi at h;apply z_;cases b:jf o n with
   |none=>simp[b]at h;exact h.elim
   |some m=>
    simp only[b]at h;by_cases c:m.length<lg
    ·rw[ka c]at h;obtain⟨a,d,rfl,g,e,f⟩:=r.ra p b;have j:=r.write (ob:=ϐ _) g ⟨_,Lf,by
      have ex:Ld k H k$ Yb H a$ ϱ$ d++[w]:=At (Da g) e (λs z=>by cases z) (λs s z=>by cases z);exact ub.append (ub.mono ex _ _ f)$ ub.cons (Oa.mono ex _ _ l) ub.nil⟩
     exact⟨a,d,w,rfl,rfl,e,by rw[<-f.length];exact mS c,h _ _ _ j.1 j.2 (by rw[Oa])⟩
    ·rw[ua c]at h;exact h.elim
  |_::_::_=>exact h.elim
 |_=>exact h.elim
end
inductive BT where
 |int|bool|str|tuple|list|dict
noncomputable def BT.nm:BT->String
 | .int=>"int" | .bool=>"bool" | .str=>"str" | .tuple=>"tuple" | .list=>"list" | .dict=>"dict"
noncomputable def CF(a:Ha)(c:BT):D->Option Bool
 | Ϛ=>BD İ
 | ϒ _=>BD (match c with | .int=>G6 | .bool=>G6|_=>İ)
 | Z _=>BD (match c with | .int=>G6|_=>İ)
 | ϔ _=>BD (match c with | .str=>G6|_=>İ)
 | Ϗ _=>BD (match c with | .tuple=>G6|_=>İ)
 | ϯ _=>Α
 | ύ _=>BD (match c with | .list=>G6|_=>İ)
 | ϩ _ _=>BD (match c with | .dict=>G6|_=>İ)
 | ϻ _ _ _=>Α
 | .Gq _=>Α
 | .gt _=>Α
 | O n=>match a[n]? with
  |some (ϐ _)=>BD (match c with | .list=>G6|_=>İ)
  |some (ώ _)=>BD (match c with | .dict=>G6|_=>İ)
  |_=>Α
def Dw(c:BT)(x:D):M D:=λa=>match CF a c x with
 |some b=>Y (ϒ b) a
 |none=>Ϙ
def MU(K:ϕ)(H:Hp)(x:V)(t:Value):Prop:=Jj K H x t\/∃ a b,x=ϗ a/\Rd H a (ϝ b)/\t=Jh "dict"
def ĩ(K:ϕ)(c:String):lv->Hp->VK->Prop:=λxs H Q=>∃ x t b,xs=[x,.ty c]/\MU K H x t/\W.kitOne K t (Jh c)=BD b/\Q (Ϭ b) H
def J5 c:Xl X (ϣ "isinstance")$ ĩ X.K c:=by
 rintro d s st H xs m Q I r ⟨x,t,b,rfl,ty,e,q⟩;obtain⟨u,u2,rfl,f,rfl⟩:=QM r;rcases ty with ty|⟨a,i,rfl,rd,rfl⟩
 ·exact A3 I f ty e λj=>⟨Ϭ b,H,I.tok _,rfl,q⟩
 ·cases (f);obtain⟨_,_,n,_,p⟩:=(rd.ok I.Lc)
  obtain⟨o,l,k,g,h,_⟩:=p;exact W.kia_one W.kitx_dict I.gi ⟨o,g,h.1⟩ e (λz=>nomatch z) λj=>⟨Ϭ b,H,I.tok _,rfl,q⟩
def L1(r:vd T m H j)(p:Oa T m H x v)(h:CF j c x=BD b):∃ t,MU X.K H v t/\W.kitOne X.K t (Jh c.nm)=BD b:=by
 cases x with
 |ic=>rw[Oa]at p;subst p;refine⟨_,ϑ$ .ic,?_⟩;cases c<;>cases h<;>rfl
 |bl i=>rw[Oa]at p;subst p;refine⟨_,ϑ$ .bl i,?_⟩;cases c<;>cases h<;>rfl
 |int i=>rw[Oa]at p;subst p;refine⟨_,ϑ$ .int i,?_⟩;cases c<;>cases h<;>rfl
 |str i=>rw[Oa]at p;subst p;refine⟨_,ϑ$ .str i,?_⟩;cases c<;>cases h<;>rfl
 |Sa ds=>rw[Oa]at p;obtain⟨q,f,rfl,d,_⟩:=p;refine⟨_,ϑ$ .Sa d,?_⟩;cases c<;>cases h<;>rfl
 |Rg ns=>cases h
 |ra ds=>rw[Oa]at p;obtain⟨q,f,rfl,_,d,_⟩:=p;refine⟨_,ϑ$ .ra d,?_⟩;cases c<;>cases h<;>rfl
 |Pa ks ds=>rw[Oa]at p;obtain⟨q,f,rfl,_,d,_⟩:=p;refine⟨_,ϖ ⟨q,_,rfl,d,rfl⟩,?_⟩;cases c<;>cases h<;>rfl
 |obj k ks ds=>cases h
 |Gq k=>cases h
 |gt ss=>cases h
 |ref n=>
  unfold CF at h;dsimp only at h;cases e:j[n]? with
  |none=>rw[e]at h;cases h
  |some o=>
   rw[e]at h;obtain⟨a,rfl,_,l⟩:=r.at p e;cases o with
   |ra xs=>obtain⟨f,g,_⟩:=l;refine⟨_,ϑ$ .ra g,?_⟩;cases c<;>cases h<;>rfl
   |Pa xs=>obtain⟨f,g,_⟩:=l;refine⟨_,ϑ$ .dK g,?_⟩;cases c<;>cases h<;>rfl
   |yb k s=>cases h
   |Qc xs=>cases h
   |nc _=>cases h
def eI c(C:FE T X e f)(E:Gl X "isinstance")(F:X.mg "isinstance" = Α)(m:Gl X a)(n:X.mg a=Α)(r:bootBuiltins a=BD (Jh c.nm))(o:a ≠ "__name__":=by decide)(l:(a == ("__debug__" : Str))=İ:=by decide)
  (w:va [e,ϛ a j] X.env=(İ,Lb e X.env)::va [ϛ a j] X.env:=by rfl) (q:(pc g$ va [ϛ a j] X.env).any (·.1)=İ:=by rfl) :
  FE T X (ϟ (ϛ "isinstance" p) [e,ϛ a j] [] g)$ Re (Dw c) f:=by
 intro d s st H Q I h;refine VG (J5 c.nm) E F boot_isinstance (Oq C (Oq (C2 m n r (v:=.ty c.nm) rfl o l) ku) w) ⋯ ⋯ w q d s st H Q I ?_;obtain⟨L,ϋ,P,B,J,G⟩:=h;refine⟨L,ϋ,P,B,J,G.bind λx u N v R D S y K i=>?_⟩;unfold Dw at i;cases k:CF u c x with
 |none=>rw[k]at i;exact i.elim
 |some b=>
  rw[k]at i;obtain⟨t,z,A⟩:=L1 y K k;exact⟨v,t,b,rfl,z,A,Xb.here i y (by rw[Oa])⟩
noncomputable def Wh:Ev->M Fl:=λa=>ret$ ϙ a
noncomputable def bD(h:Ev->M Fl):Fl->M Fl
 | ϙ a=>h a
 | ϭ d=>ret (ϭ d)
 | .bk a=>ret (.bk a)
 | .ct a=>ret (.ct a)
 | .xc a x=>ret (.xc a x)
def Qb(g h:Ev->M Fl):Ev->M Fl:=λa=>Rc (g a)$ bD h
noncomputable def SK:D->M Fl:=λd=>ret$ ϭ d
def gg(f:Ev->M D):Ev->M Fl:=λa=>xs a (f a) SK
noncomputable def LM(a:Ev):D->M Fl:=λb=>ret$ ϙ a
def Bm(f:Ev->M D):Ev->M Fl:=λa=>xs a (f a)$ LM a
noncomputable def VL(i:Nat)(a:Ev):D->M Fl:=λd=>ret$ ϙ$ a.set i$ BD d
def Ye(i:Nat)(f:Ev->M D):Ev->M Fl:=λa=>xs a (f a)$ VL i a
noncomputable def rh(t:Ev->M Bool)(a b:Ev->M Fl):Ev->M Fl:=λc=>xs c (t c)$ dj (a c)$ b c
section
variable{st':Stmt}{rest:List Stmt}{g h:Ev->M Fl}{e:Qa}{f:Ev->M D}{pos:Zd}
def qu:dk T X [] Wh:=by
 rintro a s b H D I ⟨f,h,i,c,e,d⟩;exact XQ a s b H D I$ Xb.here (g:=Ϻ b) d e c
def Ζ{g}{h}{e}{D}(r:vd T g H h)(q:xn T g H e b)(k:Fl->M Fl)
  (i:∀ a,e=ϙ a->∀ st,b=Ϻ st->Wg T g H a st->N st H) (f:(∀ a,e≠ ϙ a)->Xb T EN (xn T) g H (Y e h) (io X D)):io X { D with nx:=N } b H:=by
 cases e with
 |nx a=>cases b with
  |nx st=>exact i a rfl st rfl q
  |_=>exact q.elim
 |rt d=>cases b with
  |rt v=>have z:=Xb.here (f λj z=>by cases z) r q;exact z
  |_=>exact q.elim
 |bk a=>cases b with
  |bk v=>have z:=Xb.here (f λj z=>by cases z) r q;exact z
  |_=>exact q.elim
 |ct a=>cases b with
  |ct v=>have z:=Xb.here (f λj z=>by cases z) r q;exact z
  |_=>exact q.elim
 |xc a x=>cases b with
  |xc v c fd=>have z:=Xb.here (f λj z=>by cases z) r q;exact z
  |_=>exact q.elim
def Od(k:FS T X st' g)(l:dk T X rest h):dk T X (st'::rest)$ Qb g h:=by
 intro a s t H D I q;refine GX k l a s t H D I ?_;obtain⟨v,w,x,m,p,o⟩:=q;refine⟨v,w,x,m,p,o.bind λj d c B y C z f r e=>(Ζ f r (λC=>Fb) (λb i u A n=>?_)$ λC=>?_)⟩
 ·subst i;exact⟨c,b,d,n,f,e⟩
 ·cases j with
  |nx b=>simp_all
  |_=>exact e
def Bi(a:FS T X st' g):dk T X [st'] g:=Ā a
def Kr(c:FE T X e f):FS T X (.Return (BD e) pos)$ gg f:=by
 intro a s n H D I j;refine O2 c a s n H D I ?_;obtain⟨o,q,r,b,i,h⟩:=j;exact⟨o,q,r,b,i,h.xs b λd t p v u d w m l k=>Xb.here (g:=Po.rt v) k m l⟩
def Vu(i:FE T X e f)(l:Bg e Α pos.line X.env=pure İ:=by rfl):FS T X (.Expr e pos)$ Bm f:=by
 intro a s c H D I m;refine nZ i l a s c H D I ?_;obtain⟨p,r,t,b,k,j⟩:=m;exact⟨p,r,t,b,k,j.xs b λd u q v w d h o x n=>Xb.here (g:=Ϻ c) n o$ b.mono h⟩
def Tr(j:X.N.Nodup)(m:X.N[i]?=BD x)(r:Loc X.env.scope x)(k:FE T X e f)(p:Bg e (BD$ ϛ x a) pos.line X.env=pure İ:=by rfl)(l:X.fn x=G6\/X.env.scope.names.lookup x=BD .local:=by first|exact .inl rfl|exact .inr rfl|assumption) :
  FS T X (.Assign [ϛ x a] e pos)$ Ye i f:=by
 intro b s st H D I q;refine f9 j m r k p l b s st H D I ?_;obtain⟨y,A,B,c,o,n⟩:=q;exact⟨y,A,B,c,o,n.xs c λd C z v E d h w u t=>Xb.here (g:=Ϻ _) t w$ (c.mono h).set i u⟩
def dr(q:FT T X c n)(o:dk T X a k)(p:dk T X b l):FS T X (.If c a b pos)$ rh n k l:=by
 intro e s x H D I u;refine fY q o p e s x H D I ?_;obtain⟨y,i,z,h,t,r⟩:=u;refine⟨y,i,z,h,t,r.xs h λc g f v A B j m w d=>?_⟩;cases w;cases c with
 |true=>unfold dj at d;rw[ka rfl]at d ⊢;exact⟨f,i,g,h.mono j,m,d⟩
 |false=>unfold dj at d;rw[ua zb]at d ⊢;exact⟨f,i,g,h.mono j,m,d⟩
noncomputable def gD(T:Tb)(f:D->Ev->Option Ev):TG:=λv e H Q=>∃ b g c d a,Wg T b H c e/\vd T b H g/\Oa T b H d v/\f d c=BD a/\∀ st',Wg T b H a st'->Q st' H
noncomputable def Ņ(T:Tb)(f:B'->Ev->Option Ev):qx:=λg e H Q=>∃ b h d c a,Wg T b H d e/\vd T b H h/\ub T b H c g/\f c d=BD a/\∀ st',Wg T b H a st'->Q st' H
abbrev FG(T:Tb)(X:Cx)(t:Qa)(a:D->Ev->Option Ev):Prop:=PG X t$ gD T a
abbrev qA(T:Tb)(X:Cx)(b:List Qa)(a:B'->Ev->Option Ev):Prop:=uD X b$ Ņ T a
noncomputable def ud(i:Nat):D->Ev->Option Ev:=λd a=>BD$ a.set i$ BD d
noncomputable def Tk:B'->Ev->Option Ev
 |[],a=>BD a
 |_::_,_=>Α
noncomputable def yg(t:D->Ev->Option Ev)(u:B'->Ev->Option Ev):B'->Ev->Option Ev
 |[],_=>Α
 |d::ds,b=>(t d b).bind λa=>u ds a
noncomputable def xk(n:Nat)(t:B'->Ev->Option Ev):D->Ev->Option Ev
 | Ϗ ds,a=>if ds.length=n then t ds a else Α
 |_,_=>Α
def F8(c:X.N.Nodup)(g:X.N[i]?=BD x)(k:Loc X.env.scope x)(f:X.fn x=G6\/X.env.scope.names.lookup x=BD .local:=by first|exact .inl rfl|exact .inr rfl|assumption):FG T X (ϛ x pos)$ ud i:=by
 rintro a s st H v u Q I r ⟨n,o,ρ,d,l,b,m,e,j,h⟩;cases j;exact K6 c g k f a s st H v u Q I r$ h _$ b.set i e
def Z0:qA T X [] Tk:=by
 rintro a s h H l i Q I r ⟨m,n,ρ,b,j,f,k,c,e,g⟩;cases b with
 |nil=>cases e;rw[ub]at c;subst c;exact L6 a s h H [] i Q I r ⟨rfl,g _ f⟩
 |cons d b=>cases e
def znv(q:FG T X e t)(x:qA T X c u)
  (B:(ge (e::c) X.env).map (·.2)=Sj e X.env::(ge c X.env).map (·.2):=by rfl):qA T X (e::c)$ yg t u:=by
 rintro a s st H F E Q I r ⟨m,n,ρ,f,j,y,k,z,l,A⟩;cases f with
 |nil=>cases l
 |cons d f=>
  obtain⟨v,w,rfl,h,i⟩:=z;obtain⟨b,o,p⟩:=pf.mp l;exact l4 q x B a s st H _ E Q I r ⟨v,w,rfl,m,n,ρ,d,b,y,k,h,o,λC g=>⟨m,n,b,f,j,g,k,i,p,A⟩⟩
def UM(m:X.Wb=G6)(h:qA T X c t)
  (q:(ge c X.env).length=n:=by rfl) (e:(ge c X.env).findIdx? (·.1)=Α:=by rfl):FG T X (ϲ c k pos)$ xk n t:=by
 rintro b s st H v u Q I r ⟨z,A,ρ,d,f,l,x,o,a,w⟩;cases d with
 |Sa ds=>
  obtain⟨p,y,rfl,j,g⟩:=o;unfold xk at a;dsimp only at a;by_cases i:ds.length=n
  ·rw[ka i]at a;exact T7 m h q e b s st H _ u Q I r ⟨p,y,rfl,Ig.of j,by rw[<-g.length];exact i,z,A,ρ,ds,f,l,x,g,a,w⟩
  simp_all
 |_=>cases a
noncomputable def uH(b:D->Ev->Option Ev)(c:Ev)(d:D):M Fl:=match b d c with
 |some a=>ret (ϙ a)
 |none=>Fb
def zF(f:Ev->M D)(b:D->Ev->Option Ev):Ev->M Fl:=λa=>xs a (f a)$ uH b a
def gT(u:FE T X e f)(w:FG T X a t)(A:Xk [a] e pos.line X.env=pure İ:=by rfl)(B:Yk [a] e X.env=pure Α:=by rfl)
  (r:(ge [a] X.env).map (·.2)=[Sj a X.env]:=by rfl):FS T X (.Assign [a] e pos)$ zF f t:=by
 intro c s st H D I y;refine vO u w A B r c s st H D I ?_;obtain⟨E,m,F,h,z,x⟩:=y;refine⟨E,m,F,h,z,x.xs h λd o l v G J q p C b=>?_⟩;unfold uH at b;cases j:t d m with
 |none=>simp[j]at b;exact b.elim
 |some n=>simp[j]at b;exact⟨l,o,m,d,n,h.mono q,p,C,j,λk i=>Xb.here (g:=Ϻ k) b p i⟩
end
inductive Kh where
 |seq (ds:B')
 |Zm (n:Nat)
def Kh.nx:Kh->Nat->Ha->Option (Option D)
 | .seq ds,i,_=>BD ds[i]?
 | .Zm n,i,σ=>(jf σ n).map λxs=>xs[i]?
def gH(T:Tb)(c:b')(g:Hp)(a:Kh)(J:It):Prop:=∀ b H f i,Ld c g b H->vd T b H f->match a.nx i f with
 |none=>True
 |some Α=>J.stop i H
 |some (BD d)=>J.go i H/\∀ x e,J.zA i H x e->e=H/\Oa T b H d x
def tI(T:Tb)(X:Cx)(f:Ev->M Kh):TI:=λa H R=>KA T a H λb c d=>Xb T (XE X a) (gH T) b H (f c d) R
abbrev FI(T:Tb)(X:Cx)(b a:Qa)(f:Ev->M Kh):Prop:=PI X b a$ tI T X f
noncomputable def fy(n:Nat):B':=(List.range n).map λ(i:Nat)=>Z (i:Int)
noncomputable def pB(a:Int)(n:Nat):B':=(List.range n).map λ(i:Nat)=>Z$ a+(i:Int)
def Uv(d:D):M Kh:=λa=>match d with
 | Ϗ ds=>Y (.seq ds) a
 | ύ ds=>Y (.seq ds) a
 | ϯ ns=>Y (.seq$ ns.map Z) a
 | O n=>(match jf a n with
  |some _=>Y (.Zm n) a
  |none=>Ϙ)
 |_=>Ϙ
def bi(f:Ev->M D):Ev->M Kh:=λa=>Rc (f a) Uv
def vu(j:Int):Bool:=ee$ decide (-(2 ^ 62)<=j) && decide (j<2 ^ 62)
def Yu(d:D):M Kh:=λa=>match d with
 | Z j=>if vu j=G6 then Y (.seq$ fy j.toNat) a else Ϙ
 |_=>Ϙ
def Zs(f:Ev->M D):Ev->M Kh:=λa=>Rc (f a) Yu
def XC(a b:D):M Kh:=λc=>match a,b with
 | Z i,Z j=>if (vu i && vu j)=G6 then Y (.seq$ pB i (j - i).toNat) c else Ϙ
 |_,_=>Ϙ
def sM(m:M D)(a:D):M Kh:=Rc m$ XC a
def mG(f g:Ev->M D):Ev->M Kh:=λa=>Rc (f a)$ sM$ g a
section
variable{tg iter:Qa}{f:Ev->M D}
def Q4(K:ϕ)(c:TE):TI:=λd H R=>c d H λx b=>∃ a,x=ϗ a/\(((∃ xs,Ie K b a xs)/\R (iL K a) b)\/((∃ xs,Ig K b a xs)/\R (yK K a) b))
def A9(m:PE X l k):PI X tg l$ Q4 X.K k:=by
 intro d s u H R I h;refine Fd (m d s u H _ I h) λv s1 ſ=>?_;obtain⟨x,H1,c,r,j⟩:=ſ;obtain⟨a,rfl,j⟩:=j;cases r;rcases j with⟨⟨xs,g⟩,q⟩|⟨⟨xs,g⟩,q⟩
 ·obtain⟨i,t,p,n⟩:=c.list g;refine Oh p.isList ⟨s1.heap.objs.size,[s1.heap.objs.size],_,_,H1,rfl,c.kept λb o e=>ja _ e,Y5 a _,⟨_,Fa _ rfl,rfl,rfl⟩,λb f=>?_,q⟩;have e:b=s1.heap.objs.size:=by simpa using f
  subst e;exact c.Nm (ya _)$ c.Lc.fresh$ ya _
 ·obtain⟨i,t,p,n⟩:=c.tuple g;refine Gz (p) ⟨s1.heap.objs.size,[s1.heap.objs.size],_,_,H1,rfl,c.kept λb o e=>ja _ e,t6 a _,⟨_,Fa _ rfl,rfl,rfl⟩,λb f=>?_,q⟩;have e:b=s1.heap.objs.size:=by simpa using f
  subst e;exact c.Nm (ya _)$ c.Lc.fresh$ ya _
def OR{K}(h:∀ b c,Ld g l b c->∃ f,Ie K c a f/\ub T b c j f):gH T g l (.seq j)$ iL K a:=by
 intro b c p i ex r;obtain⟨f,m,n⟩:=h b c ex;show match BD j[i]? with|none=>True|some Α=>_|some (BD d)=>_
 cases e:j[i]? with
 |none=>exact⟨f,m,by rw[<-n.length];exact Jb.mp e⟩
 |some d=>
  obtain⟨v,k,o⟩:=n.get e;refine⟨⟨f,v,m,k⟩,λx q y=>?_⟩;obtain⟨rfl,y⟩:=y
  simp_all
def ã{K}(h:∀ b c,Ld g l b c->∃ f,Ig K c a f/\ub T b c j f):gH T g l (.seq j)$ yK K a:=by
 intro b c p i ex r;obtain⟨f,m,n⟩:=h b c ex;show match BD j[i]? with|none=>True|some Α=>_|some (BD d)=>_
 cases e:j[i]? with
 |none=>exact⟨f,m,by rw[<-n.length];exact Jb.mp e⟩
 |some d=>
  obtain⟨v,k,o⟩:=n.get e;refine⟨⟨f,v,m,k⟩,λx q y=>?_⟩;obtain⟨rfl,y⟩:=y
  simp_all
def cM(M:T.K=X.K)(h:FE T X iter f):FI T X tg iter$ bi f:=by
 intro r s st H R I S;refine A9 h r s st H R I ?_;obtain⟨V,W,ό,L,P,ϋ⟩:=S;refine⟨V,W,ό,L,P,ϋ.bind λd C B v E x e1 u t j=>?_⟩;cases d with
 |Sa ds=>
  obtain⟨p,l,rfl,g,m⟩:=t;exact⟨p,rfl,ϖ ⟨⟨l,Ig.of g⟩,Xb.here j u (ã λb c ex=>⟨l,Ig.of$ ex.Sa _ _ g,ub.mono ex _ _ m⟩)⟩⟩
 |ra ds=>
  obtain⟨p,l,rfl,N,g,m⟩:=t;exact⟨p,rfl,ϑ ⟨⟨l,Ie.of g⟩,Xb.here j u (OR λb c ex=>⟨l,Ie.of (ex.xh _ _ g N).1,ub.mono ex _ _ m⟩)⟩⟩
 |Rg ns=>
  obtain⟨p,rfl,g⟩:=t;have q:∀ b c,Ld B E b c->Ie X.K c p _:=λb c ex=>by
   have m:Oa T b c (ϯ ns) _:=Oa.mono ex _ _ (by rw[Oa];exact⟨p,rfl,g⟩);obtain⟨p',F,o⟩:=m;cases F;rw[<-M];exact o.seq
  exact⟨p,rfl,ϑ ⟨⟨_,q _ _$ ϰ _ _⟩,Xb.here j u (OR λb c ex=>⟨_,q b c ex,jE ns⟩)⟩⟩
 |ref n=>
  unfold Uv at j;dsimp only at j;cases k:jf C n with
  |none=>rw[k]at j;exact j.elim
  |some xs=>
   rw[k]at j;obtain⟨a,l,rfl,_,g,m⟩:=u.ra t k;refine⟨a,rfl,ϑ ⟨⟨l,Ie.of g⟩,Xb.here j u λb c w i ex U=>?_⟩⟩;show match (jf w n).map (λxs=>xs[i]?)with|none=>True|some Α=>_|some (BD d)=>_
   cases J:jf w n with
   |none=>trivial
   |some ys=>
    apply b_;intro z_;obtain⟨a',A,G,_,o,D⟩:=U.ra (Oa.mono ex _ _ t) J;cases G;apply z_;show match BD (ys[i]?)with|none=>True|some Α=>_|some (BD d)=>_
    cases e:ys[i]? with
    |none=>exact⟨A,Ie.of o,by rw[<-D.length];exact Jb.mp e⟩
    |some d=>
     obtain⟨v,z,Q⟩:=D.get e;refine⟨⟨A,v,Ie.of o,z⟩,λx ϊ y=>?_⟩;obtain⟨rfl,y⟩:=y;have:=y A$ Ie.of o
     simp_all
 |_=>trivial
def Ń(h:i<n):(fy n)[i]?=BD (Z i):=by simp[fy,h]
def g9 n:(fy n).length=n:=by simp[fy]
def P2(h:i<n):(pB a n)[i]?=BD (Z$ a+i):=by simp[pB,h]
def Ο a n:(pB a n).length=n:=by simp[pB]
def cZ(h:Gl X "range")(o:X.mg "range" = Α)(n:FE T X a f)(e:va [a] X.env=[(İ,Lb a X.env)]:=by rfl):FI T X tg (ϟ (ϛ "range" p) [a] [] l)$ Zs f:=by
 intro g s st H R I t;refine K7 h o (Oq n ku e) e g s st H R I ?_;obtain⟨z,C,D,m,r,q⟩:=t;refine⟨z,C,D,m,r,q.bind λd E A v J x L w u b=>?_⟩;cases d with
 |int j=>
  subst u;unfold Yu at b;dsimp only at b;by_cases c:vu j=G6
  ·rw[ka c]at b;simp[vu]at c;refine⟨j,rfl,c.1,c.2,Xb.here b w λB K F i ex M=>?_⟩;show match BD (fy j.toNat)[i]? with|none=>True|some Α=>_|some (BD d)=>_
   by_cases k:i<j.toNat
   ·rw[Ń k];refine⟨k,λx G y=>?_⟩;obtain⟨rfl,rfl⟩:=y;exact⟨rfl,by rw[Oa,Int.zero_add]⟩
   ·rw[Jb.mpr (by rw[g9];lia)];exact Nt.mp k
  ·rw[ua c]at b;exact b.elim
 |_=>exact b.elim
def lT(m:Gl X "range")(E:X.mg "range" = Α)(B:FE T X a f)(C:FE T X b g)(o:va [a,b] X.env=[(İ,Lb a X.env),(İ,Lb b X.env)]:=by rfl)(c:va [b] X.env=[(İ,Lb b X.env)]:=by rfl) :
  FI T X tg (ϟ (ϛ "range" p) [a,b] [] q)$ mG f g:=by
 intro l s st H R I J;refine L8 m E (Oq B (Oq C ku c)$ by grind) o c l s st H R I ?_;obtain⟨Q,w,V,u,G,F⟩:=J;refine⟨Q,w,V,u,G,F.bind λd t r v H1 x A ϋ L K=>⟨r,w,t,u.mono A,ϋ,K.bind λz W S v2 H2 x e2 P N e=>?_⟩⟩;cases d with
 |int i=>
  cases z with
  |int j=>
   subst L;subst N;unfold XC at e;dsimp only at e;by_cases h:(vu i && vu j)=G6
   ·rw[ka h]at e;simp[vu,vq]at h;refine⟨i,j,rfl,⟨h.1.1,h.1.2,h.2.1,h.2.2⟩,Xb.here e P λU H3 ό k ex r3=>?_⟩;show match BD (pB i (j - i).toNat)[k]? with|none=>True|some Α=>_|some (BD d)=>_
    by_cases n:k<(j - i).toNat
    ·rw[P2 n];refine⟨n,λx ϊ y=>?_⟩;obtain⟨rfl,rfl⟩:=y;exact⟨rfl,by rw[Oa]⟩
    ·rw[Jb.mpr (by rw[Ο];lia)];exact Nt.mp n
   ·rw[ua h]at e;exact e.elim
  |_=>exact e.elim
 |_=>exact e.elim
end
noncomputable def fu(k:Ev->M Fl):Fl->M Fl
 | ϙ a=>k a
 | .ct a=>k a
 | .bk a=>ret (ϙ a)
 | ϭ d=>ret (ϭ d)
 | .xc b x=>ret (.xc b x)
def Lj(e:D->Ev->Option Ev)(a:Ev->M Fl):B'->Ev->M Fl
 |[],b=>ret (ϙ b)
 |d::ds,b=>match e d b with
  |none=>Fb
  |some c=>Rc (a c) (fu$ Lj e a ds)
def Hw(e:D->Ev->Option Ev)(a:Ev->M Fl)(n:Nat):Nat->Nat->Ev->M Fl
 |0,_,_=>Fb
 |k+1,i,f=>λc=>match jf c n with
  |none=>Ϙ
  |some xs=>match xs[i]? with
   |none=>Y (ϙ f) c
   |some d=>match e d f with
    |none=>Ϙ
    |some b=>Rc (a b) (fu$ Hw e a n k$ i+1) c
def bI(b:D->Ev->Option Ev)(a:Ev->M Fl)(c:Ev):Kh->M Fl
 | .seq ds=>Lj b a ds c
 | .Zm n=>Hw b a n 1001 0 c
def Bn(b:Ev->M Kh)(d:D->Ev->Option Ev)(a:Ev->M Fl):Ev->M Fl:=λc=>xs c (b c)$ bI d a c
section
def HN{D}(l:vd T d e g)(h:xn T d e j f)(i:Xb T EN (xn T) d e (fu k j g)$ io X D)
  (m:∀ b a,Wg T d e b a->Xb T EN (xn T) d e (k b g) (io X D)->N a e):io X { D with nx:=N,ct:=N,bk:=D.nx } f e:=by
 cases j with
 |nx b=>cases f with
  |nx a=>exact m b a h i
  |_=>trivial
 |ct b=>cases f with
  |ct a=>exact m b a h i
  |_=>trivial
 |bk b=>cases f with
  |bk a=>have z:io X D (Ϻ a) e:=Xb.here i l h;exact z
  |_=>exact h.elim
 |rt o=>cases f with
  |rt v2=>have z:=Xb.here i l h;exact z
  |_=>trivial
 |xc b x=>cases f with
  |xc a c n=>have z:=Xb.here i l h;exact z
  |_=>trivial
variable{tgt iter:Qa}{body:List Stmt}{src:Ev->M Kh}{t:D->Ev->Option Ev}{g:Ev->M Fl}{pos:Zd}
def Vx(V:gn (model X.prog X.w) X.A X.env X.xe)(hc:X.Wb=G6)(hi:FI T X tgt iter src)(hg:FG T X tgt t)(hb:dk T X body g)
  (hs:∀ x,pe iter X.env x=pure x:=by intro _;rfl):FS T X (.For tgt iter body [] pos)$ Bn src t g:=by
 intro Q s st H D I hq;refine gW V hc hi hg hb hs Q s st H D I ?_;obtain⟨e,ρ,q,S,hr,V⟩:=hq;refine⟨e,ρ,q,S,hr,V.xs S λsrc B k J ϋ O e1 r1 q1 p1=>?_⟩;cases src with
 |seq ds=>
  have K:Xb T EN (xn T) k ϋ (Lj t g ds ρ B) _:=p1;refine⟨λi m o b=>m=ds.length - i/\∃ e ρ q,Ld k ϋ e b/\Wg T e b ρ o/\vd T e b q/\Xb T EN _ e b (Lj t g (ds.drop i) ρ q) _,⟨ds.length,by simp,k,ρ,B,ϰ _ _,S.mono e1,r1,by simpa using K⟩,?_⟩;rintro i m o b ⟨rfl,f,u,j,ex,r,z,c⟩;have a:match (BD ds[i]?)with|none=>True|some Α=>J.stop i b|some (BD d)=>J.go i b/\∀ x P,J.zA i b x P->P=b/\Oa T f b d x:=(q1 f b j i ex z)
  cases C:ds[i]? with
  |none=>
   rw[C]at a;rw[Zo$ Jb.mp C]at c;exact ϑ ⟨a,Xb.here (g:=Ϻ o) c z r⟩
  |some d=>
   rw[C]at a;obtain⟨hl,ed⟩:=da.mp C;have hd:ds.drop i=d::ds.drop (i+1):=by rw[<-ed];exact(We hl)
   rw[hd]at c;unfold Lj at c;refine ϖ ⟨a.1,λp l=>∃ e ρ q,Ld k ϋ e l/\Wg T e l ρ p/\vd T e l q/\Xb T EN (xn T) e l _ _,λp l h=>⟨ds.length - (i+1),by omega,rfl,h⟩,λx l y=>?_⟩;obtain⟨rfl,W⟩:=a.2 x l y;cases G:t d u with
   |none=>rw[G]at c;exact c.elim
   |some v=>
    rw[G]at c;exact⟨f,j,u,d,v,r,z,W,G,λp E=>⟨f,v,j,E,z,c.bind λfl N L gl H4 O U R ϊ p4=>HN R ϊ p4 λM a0 F ό=>⟨L,M,N,ex.trans U,F,R,ό⟩⟩⟩
 |Zm n=>
  have K:Xb T EN (xn T) k ϋ (Hw t g n 1001 0 ρ B)$ io X D:=p1;refine⟨λi m o b=>∃ e ρ q,Ld k ϋ e b/\Wg T e b ρ o/\vd T e b q/\Xb T EN (xn T) e b (Hw t g n m i ρ q) (io X D),⟨1001,k,ρ,B,ϰ _ _,S.mono e1,r1,K⟩,?_⟩;rintro i m o b ⟨f,u,j,ex,r,z,c⟩;cases m with
  |zero=>exact c.elim
  |succ m=>
   unfold Hw at c;have a:match ((jf j n).map λxs=>xs[i]?)with|none=>True|some Α=>J.stop i b|some (BD d)=>J.go i b/\∀ x P,J.zA i b x P->P=b/\Oa T f b d x:=(q1 f b j i ex z)
   cases el:jf j n with
   |none=>simp only[el]at c;exact c.elim
   |some xs=>
    simp only[el]at c a;cases C:xs[i]? with
    |none=>
     simp only[C,Ih]at c a;exact ϑ ⟨a,Xb.here (g:=Ϻ o) c z r⟩
    |some d=>
     simp only[C,Ih]at c a;refine ϖ ⟨a.1,λp l=>∃ e ρ q,Ld k ϋ e l/\Wg T e l ρ p/\vd T e l q/\Xb T EN (xn T) e l (Hw t g n m (i+1) ρ q) _,λp l h=>⟨m,Sb _,h⟩,λx l y=>?_⟩;obtain⟨rfl,W⟩:=a.2 x l y;cases G:t d u with
     |none=>simp only[G]at c;exact c.elim
     |some v=>
      simp only[G]at c;exact⟨f,j,u,d,v,r,z,W,G,λp E=>⟨f,v,j,E,z,c.bind λfl N L gl H4 O U R ϊ p4=>HN R ϊ p4 λM a0 F ό=>⟨L,M,N,ex.trans U,F,R,ό⟩⟩⟩
end
mutual
noncomputable def cl:D->Bool
 | Ϗ xs=>rf xs
 | ύ xs=>rf xs
 | ϩ _ xs=>rf xs
 | ϻ _ _ xs=>rf xs
 | O _=>İ
 | Ϛ=>G6
 | ϒ _=>G6
 | Z _=>G6
 | ϔ _=>G6
 | ϯ _=>G6
 | .Gq _=>G6
 | .gt _=>G6
noncomputable def rf:B'->Bool
 |[]=>G6
 |d::ds=>cl d && rf ds
end
noncomputable def Hk(f:D->Option D):B'->Option (B')
 |[]=>BD []
 |d::ds=>match f d,Hk f ds with
  |some x,BD xs=>BD (x::xs)
  |_,_=>Α
def fz(k:Nat)(a:Ha):Nat->D->Option D
 |0,d=>if cl d=G6 then BD d else match d with
  | O n=>if n<k then BD (O n)else Α
  |_=>Α
 |m+1,d=>if cl d=G6 then BD d else match d with
  | O n=>if n<k then BD (O n)else match a[n]? with
   |some (ϐ xs)=>(Hk (fz k a m) xs).map ύ
   |some (ώ b)=>(Hk (fz k a m) (b.map (·.2))).map (ϩ (b.map (·.1)))
   |some (ϓ c e)=>(Hk (fz k a m) (e.map (·.2))).map (ϻ c (e.map (·.1)))
   |some (ϧ _)=>Α
   |some (ϡ _)=>Α
   |none=>Α
  | Ϗ xs=>(Hk (fz k a m) xs).map Ϗ
  | ύ xs=>(Hk (fz k a m) xs).map ύ
  | ϩ ks xs=>(Hk (fz k a m) xs).map (ϩ ks)
  | ϻ c ns xs=>(Hk (fz k a m) xs).map (ϻ c ns)
  |_=>Α
open Classical in
def Vf(b:Ha):dh D->dh D
 | Y d a=>if a.take b.length=b then (match fz b.length a 6 d with
  |some c=>Y c b
  |none=>Ϙ)else Ϙ
 | .ex x a=>if a.take b.length=b then .ex x b else Ϙ
 | Ϙ=>Ϙ
def zd(f:M D):M D:=λa=>Vf a$ f a
section
variable{T:Tb}{μ μ':b'}{H H':Hp}{σ σ':Ha}
mutual
theorem NN(e:∃ r,μ'=μ++r):∀ (d:D) (v:V),cl d=G6->Oa T μ' H d v->Oa T μ H d v
 | Ϛ,v,_,h=>by simpa [Oa]using h
 | ϒ b,v,_,h=>by simpa [Oa]using h
 | Z i,v,_,h=>by simpa [Oa]using h
 | ϔ x,v,_,h=>by simpa [Oa]using h
 | Ϗ ds,v,c,h=>by
  rw[Oa]at h ⊢;obtain⟨p,l,f,g,j⟩:=h;exact⟨p,l,f,g,LC e ds l (by simpa [cl]using c) j⟩
 | ϯ ns,v,_,h=>by rw[Oa]at h ⊢;exact h
 | O n,v,c,h=>by simp[cl]at c
 | ύ ds,v,c,h=>by
  rw[Oa]at h ⊢;obtain⟨a,l,f,g,j,m⟩:=h;exact⟨a,l,f,λz=>g (by obtain⟨r,rfl⟩:=e;exact Za _ z),j,LC e ds l (by simpa [cl]using c) m⟩
 | ϩ ks ds,v,c,h=>by
  rw[Oa]at h ⊢;obtain⟨a,l,f,g,j,o,m⟩:=h;exact⟨a,l,f,λz=>g (by obtain⟨r,rfl⟩:=e;exact Za _ z),j,o,LC e ds _ (by simpa [cl]using c) m⟩
 | ϻ k ns ds,v,c,h=>by
  rw[Oa]at h ⊢;obtain⟨a,u,l,f,g,j,o,m⟩:=h;exact⟨a,u,l,f,λz=>g (by obtain⟨r,rfl⟩:=e;exact Za _ z),j,o,LC e ds _ (by simpa [cl]using c) m⟩
 | .Gq k,v,_,h=>by
  rw[Oa]at h ⊢;obtain⟨a,t,f,g,j,m⟩:=h;exact⟨a,t,f,λz=>g (by obtain⟨r,rfl⟩:=e;exact Za _ z),j,λn q=>let ⟨s,w,y,A⟩:=m n q;⟨s,w,λz=>y (by obtain⟨r,rfl⟩:=e;exact Za _ z),A⟩⟩
 | .gt ss,v,_,h=>by rw[Oa]at h ⊢;exact h
theorem LC(e:∃ r,μ'=μ++r):∀ (a:B') (b:lv),rf a=G6->ub T μ' H a b->ub T μ H a b
 |[],b,_,h=>by simpa [ub]using h
 |d::a,b,c,h=>by
  rw[ub]at h ⊢;obtain⟨v,r,g,i,j⟩:=h;have f:cl d=G6/\rf a=G6:=by simpa [rf,Ma]using c
  exact⟨v,r,g,NN e d v f.1 i,LC e a r f.2 j⟩
end
mutual
theorem Oa.down(e:∃ r,μ'=μ++r):∀ (d:D) (v0 v:V),Oa T μ H d v0->Oa T μ' H' d v->Oa T μ H' d v
 | Ϛ,v0,v,_,h=>by simpa [Oa]using h
 | ϒ b,v0,v,_,h=>by simpa [Oa]using h
 | Z i,v0,v,_,h=>by simpa [Oa]using h
 | ϔ x,v0,v,_,h=>by simpa [Oa]using h
 | Ϗ ds,v0,v,c,h=>by
  rw[Oa]at h c ⊢;obtain⟨p,m,g,f,l⟩:=h;obtain⟨G,j,_,_,w⟩:=c;exact⟨p,m,g,f,ub.down e ds j m w l⟩
 | ϯ ns,v0,v,_,h=>by rw[Oa]at h ⊢;exact h
 | O n,v0,v,c,h=>by
  rw[Oa]at h c ⊢;obtain⟨a,g,f⟩:=h;obtain⟨b,_,u⟩:=c;refine⟨a,g,?_⟩;obtain⟨r,rfl⟩:=e;rw[ib (da.mp u).1]at f;exact f
 | ύ ds,v0,v,c,h=>by
  rw[Oa]at h c ⊢;obtain⟨a,m,g,f,l,o⟩:=h;obtain⟨_,j,_,_,_,s⟩:=c;exact⟨a,m,g,λz=>f (by obtain⟨r,rfl⟩:=e;exact Za _ z),l,ub.down e ds j m s o⟩
 | ϩ ks ds,v0,v,c,h=>by
  rw[Oa]at h c ⊢;obtain⟨a,m,g,f,l,t,o⟩:=h;obtain⟨_,j,_,_,_,_,s⟩:=c;exact⟨a,m,g,λz=>f (by obtain⟨r,rfl⟩:=e;exact Za _ z),l,t,ub.down e ds _ _ s o⟩
 | ϻ k ns ds,v0,v,c,h=>by
  rw[Oa]at h c ⊢;obtain⟨a,B,m,g,f,l,t,o⟩:=h;obtain⟨_,_,j,_,_,_,_,s⟩:=c;exact⟨a,B,m,g,λz=>f (by obtain⟨r,rfl⟩:=e;exact Za _ z),l,t,ub.down e ds _ _ s o⟩
 | .Gq k,v0,v,_,h=>by
  rw[Oa]at h ⊢;obtain⟨a,A,g,f,l,o⟩:=h;exact⟨a,A,g,λz=>f (by obtain⟨r,rfl⟩:=e;exact Za _ z),l,λn q=>let ⟨y,C,E,F⟩:=o n q;⟨y,C,λz=>E (by obtain⟨r,rfl⟩:=e;exact Za _ z),F⟩⟩
 | .gt ss,v0,v,_,h=>by rw[Oa]at h ⊢;exact h
theorem ub.down(e:∃ r,μ'=μ++r):∀ (b:B') (a f:lv),ub T μ H b a->ub T μ' H' b f->ub T μ H' b f
 |[],a,f,_,h=>by simpa [ub]using h
 |d::b,a,f,c,h=>by
  rw[ub]at h c ⊢;obtain⟨v,r,j,k,l⟩:=h;obtain⟨m,r0,_,g,i⟩:=c;exact⟨v,r,j,Oa.down e d m v g k,ub.down e b r0 r i l⟩
end
theorem QI{f:Type}(e:∃ r,μ'=μ++r):∀ {xs:List$ f × D} {g h:List$ f × V},Paired (λ(p:f × D) (q:f × V)=>p.1=q.1/\Oa T μ H p.2 q.2) xs h->Paired (λ(p:f × D) (q:f × V)=>p.1=q.1/\Oa T μ' H' p.2 q.2) xs g->Paired (λ(p:f × D) (q:f × V)=>p.1=q.1/\Oa T μ H' p.2 q.2) xs g:=by
 intro _ _ x a b;induction b generalizing x with
 |nil=>exact .nil
 |cons c _ i=>cases a with|cons a b=>exact .cons ⟨c.1,Oa.down e _ _ _ a.2 c.2⟩ (i b)
theorem Um.down(e:∃ r,μ'=μ++r):∀ {o:Ob},Um T μ H a o->Um T μ' H' a o->Um T μ H' a o
 | ϐ ds,⟨_,_,c⟩,⟨b,h,r⟩=>⟨b,h,ub.down e _ _ _ c r⟩
 | ώ f,⟨_,_,c⟩,⟨b,h,r⟩=>⟨b,h,QI e c r⟩
 | ϓ c i,⟨_,_,_,d⟩,⟨g,b,h,r⟩=>⟨g,b,h,QI e d r⟩
 | ϧ f,⟨_,_,_,d⟩,⟨ob,b,h,r⟩=>⟨ob,b,h,QI e d r⟩
 | ϡ ks,_,⟨b,h,r⟩=>⟨b,h,r⟩
def vd.down(r0:vd T μ H σ)(r:vd T μ' H' σ')(e:Ld μ H μ' H')(m:σ'.take σ.length=σ):vd T μ H' σ/\Ld μ H μ H':=by
 refine⟨⟨r0.len,r0.nd,λn o h=>?_,r.tb.sub λb k=>by obtain⟨z,rfl⟩:=e.pre;exact Za _ k⟩,⟨⟨[],by simp⟩,e.Sa,e.zd,λp o h n=>⟨(e.keep p o h n).1,n⟩⟩⟩;obtain⟨a,d,g⟩:=r0.obs n o h;have f:σ'[n]?=BD o:=by
  have l:=(da.mp h).1
  rwa [<-m,Nn l]at h
 obtain⟨b,i,j⟩:=r.obs n o f;have c:=e.get d;rw[i]at c;cases c;exact⟨a,d,g.down e.pre j⟩
theorem QN{c:Type}:∀ {xs:List$ c × D} {d:List$ c × V},Paired (λ(p:c × D) (q:c × V)=>p.1=q.1/\Oa T μ H p.2 q.2) xs d->d.map (·.1)=xs.map (·.1)/\ub T μ H (xs.map (·.2)) (d.map (·.2)):=by
 intro _ _ h;induction h with
 |nil=>exact⟨rfl,ub.nil⟩
 |cons a _ i=>exact⟨by simp[i.1,a.1],ub.cons a.2 i.2⟩
theorem oR{f:D->Option D}(j:∀ d e v,f d=BD e->Oa T μ' H d v->Oa T μ H e v):∀ (b a:B') (c:lv),Hk f b=BD a->ub T μ' H b c->ub T μ H a c
 |[],a,c,h,r=>by cases h;simpa [ub]using r
 |d::b,a,c,h,r=>by
  unfold Hk at h;cases g:f d with
  |none=>simp_all
  |some x=>
   cases i:Hk f b with
   |none=>simp_all
   |some xs=>
    rw[g,i]at h;cases h;obtain⟨v,w,rfl,k,l⟩:=r;exact ub.cons (j d x v g k)$ oR j b xs w i l
def iW(e:∃ r,μ'=μ++r)(r:vd T μ' H σ'):∀ m d y v,fz μ.length σ' m d=BD y->Oa T μ' H d v->Oa T μ H y v:=by
 have F:∀ n v,n<μ.length->Oa T μ' H (O n) v->Oa T μ H (O n) v:=λn v k h=>by
  obtain⟨a,g,A⟩:=h;obtain⟨q,rfl⟩:=e;rw[ib k]at A;exact⟨a,g,A⟩
 intro m;induction m with
 |zero=>
  intro d y v h j;unfold fz at h;by_cases w:cl d=G6
  ·rw[ka w]at h;cases h;exact NN e _ _ w j
  ·rw[ua w]at h;cases d with
   |ref n=>
    dsimp only at h;by_cases k:n<μ.length
    ·rw[ka k]at h;cases h;exact F n v k j
    ·rw[ua k]at h;cases h
   |_=>cases h
 |succ m Q=>
  intro d y v h j;unfold fz at h;by_cases w:cl d=G6
  ·rw[ka w]at h;cases h;exact NN e _ _ w j
  ·rw[ua w]at h;have u:=oR (λd y v a b=>Q d y v a b);cases d with
   |ref n=>
    dsimp only at h;by_cases k:n<μ.length
    ·rw[ka k]at h;cases h;exact F n v k j
    ·rw[ua k]at h;cases J:σ'[n]? with
     |none=>rw[J]at h;cases h
     |some o=>
      rw[J]at h;obtain⟨a,rfl,ϋ,x⟩:=r.at j J;have out:a ∉ μ:=λz=>by
       obtain⟨i,N⟩:=wq z;obtain⟨q,rfl⟩:=e;have P:=(da.mp N).1;have:=CO r.nd (by rw[ib P];exact N) ϋ;omega
      cases o with
      |ra xs=>
       obtain⟨ys,g,rfl⟩:=Ga.mp h;obtain⟨f,C,E⟩:=x;exact⟨a,f,rfl,out,C,u xs ys f g E⟩
      |Pa M=>
       obtain⟨ys,g,rfl⟩:=Ga.mp h;obtain⟨f,C,E⟩:=x;obtain⟨K,L⟩:=QN E;exact⟨a,f,rfl,out,(ϑ C),K,u _ ys _ g L⟩
      |yb c R=>
       obtain⟨ys,g,A⟩:=Ga.mp h;subst A;obtain⟨G,f,C,E⟩:=x;obtain⟨K,L⟩:=QN E;exact⟨a,G,f,rfl,out,C,K,u _ ys _ g L⟩
      |Qc M=>cases h
      |nc _=>cases h
   |Sa xs=>
    obtain⟨ys,g,rfl⟩:=Ga.mp h;obtain⟨p,f,l,s,t⟩:=j;exact⟨p,f,l,s,u xs ys f g t⟩
   |ra xs=>
    obtain⟨ys,g,rfl⟩:=Ga.mp h;obtain⟨p,f,l,B,s,t⟩:=j;exact⟨p,f,l,λz=>B (by obtain⟨r,rfl⟩:=e;exact Za _ z),s,u xs ys f g t⟩
   |Pa ks xs=>
    obtain⟨ys,g,rfl⟩:=Ga.mp h;obtain⟨p,f,l,B,s,I,t⟩:=j;exact⟨p,f,l,λz=>B (by obtain⟨r,rfl⟩:=e;exact Za _ z),s,I,u xs ys _ g t⟩
   |obj c ks xs=>
    obtain⟨ys,g,A⟩:=Ga.mp h;subst A;obtain⟨p,G,f,l,B,s,I,t⟩:=j;exact⟨p,G,f,l,λz=>B (by obtain⟨r,rfl⟩:=e;exact Za _ z),s,I,u xs ys _ g t⟩
   |_=>cases h
def Xb.zd{E}{f}{Q}(r:vd T μ H σ)(h:Xb T E (Oa T) μ H (zd f σ) Q):Xb T E (Oa T) μ H (f σ) Q:=by
 unfold L4.zd at h;cases e:f σ with
 |Fb=>rw[e]at h;exact h
 |ex x a=>
  rw[e]at h;unfold Vf at h;dsimp only at h;by_cases b:a.take σ.length=σ
  ·rw[ka b]at h;intro m i c g;obtain⟨l,j⟩:=vd.down r g c b;exact h μ i j l
  ·rw[ua b]at h;exact h.elim
 |ok d a=>
  rw[e]at h;unfold Vf at h;dsimp only at h;by_cases b:a.take σ.length=σ
  ·rw[ka b]at h;cases k:fz σ.length a 6 d with
   |none=>rw[k]at h;exact h.elim
   |some n=>
    rw[k]at h;intro m v i c g o;obtain⟨l,j⟩:=vd.down r g c b;exact h μ v i j l$ iW c.pre g 6 d n v (by rw[r.len];exact k) o
  ·rw[ua b]at h;exact h.elim
end
def rj(f:Ev->M D):Ev->M D:=λa=>zd$ f a
def bM(h:FE T X e f):FE T X e$ rj f:=by
 rintro a s g H Q I ⟨i,j,k,c,b,d⟩;exact h a s g H Q I ⟨i,j,k,c,b,Xb.zd b d⟩
def DK(h c:Heap):Prop:=∀ (a:Nat) o,h.objs[a]?=BD o->∃ b:Obj,c.objs[a]?=BD b/\b.dict=o.dict
def DK.refl h:DK h h:=λa o e=>⟨o,e,rfl⟩
def DK.trans(x:DK b c)(y:DK c d):DK b d:=λa o e=>by
 obtain⟨h,f,q⟩:=x a o e;obtain⟨i,g,j⟩:=y a h f
 simp_all
def DK.push h o:DK h$ h.push o:=λa u e=>by
 obtain⟨b,l⟩:=h;have e:=e;have c:=(Xc.mp e).1;refine⟨u,?_,rfl⟩;show (b.push o)[a]?=BD u;rw[Array.getElem?_push_lt c];exact(Ib c).symm.trans e
def DK.update h b(i:∀ o,(f o).dict=o.dict):DK h$ h.update b f:=λa u e=>by
 obtain⟨c,l⟩:=h;show ∃ d:Obj,(c.modify b f)[a]?=BD d/\_;rw[Array.getElem?_modify];by_cases g:b=a;all_goals simp_all
def DK.get(x:DK h b)(e:h.get? a=BD o)(d:b.get? a=BD c):c.dict=o.dict:=by
 obtain⟨u,f,g⟩:=x a o ((Ot _ _ _).1 e).1;have:=((Ot _ _ _).1 d).1
 simp_all
structure KD{α:Type}(t:Ql α):Prop where
 out:∀ (M:ui) (Γ:PySem.Ctx) (Q:α->Zd->Shared->Prop) (E:Value->Zd->Shared->Prop) (p:Zd) (s:Shared),Sem.wp M Γ t Q E p s->Sem.wp M Γ t (λa p' s'=>Q a p' s'/\DK s.heap s'.heap) (λe p' s'=>E e p' s'/\DK s.heap s'.heap) p s
namespace KD
variable{α β:Type}
def ir a:KD (Pure.pure a:Ql α):=⟨λb b b b b s h=>⟨h,.refl _⟩⟩
def Ts w:KD (PySem.unsupported w:Ql α):=⟨λa a a a a a h=>h⟩
def Rc(g:KD m)(e:∀ a,KD (f a)):KD$ m >>= f:=⟨λM b Q E p s h=>by
 rw[Ck]at h ⊢;refine ur M b m (λa c d z=>?_) (λi i i z=>z) p s$ g.out M b _ _ p s h;exact ur M b _ (λi i i q=>⟨q.1,z.2.trans q.2⟩) (λi i i q=>⟨q.1,z.2.trans q.2⟩) c d$ (e a).out M b _ _ c d z.1⟩
def ml{c}[Decidable c]{t u:Ql α}(a:KD t)(b:KD u):KD$ if c then t else u:=by split<;>assumption
def ld a:KD$ PySem.load a:=⟨λc c c c c c h=>by obtain⟨o,b,h⟩:=h;exact⟨o,b,h,.refl _⟩⟩
def Yb a(b:∀ o,(f o).dict=o.dict):KD$ PySem.update a f:=⟨λc c c c c c h=>⟨h.1,h.2,.update _ _ b⟩⟩
def vj:KD PySem.stack:=⟨λM a Q E p s h=>by
 exact⟨h,.refl _⟩⟩
def ft o:KD$ PySem.alloc o:=⟨λa a a a a a h=>⟨h,.push _ _⟩⟩
def fld v i:KD$ PySem.field v i:=⟨λj g Q E p s h=>by
 rw[Pt]at h ⊢;obtain⟨a,o,f,x,b,c,d,e,h⟩:=h;exact⟨a,o,f,x,b,c,d,e,h,.refl _⟩⟩
def set v i x:KD$ PySem.setField v i x:=⟨λn m Q E p s h=>by
 rw[mJ]at h ⊢;obtain⟨a,o,k,e,f,g,j,h⟩:=h;exact⟨a,o,k,e,f,g,j,h,.update _ _ λo=>by obtain⟨c,d,b,l⟩:=o;cases b<;>rfl⟩⟩
end KD
def XZ a l:KD$ YO a l:=by unfold YO;(repeat' with_reducible first|assumption|exact KD.ir _|exact KD.Ts _|exact KD.fld _ _|exact KD.set _ _ _|exact KD.ld _|exact KD.Yb _ _|exact KD.vj|exact KD.ft _|apply KD.ml|apply KD.Rc|intro _|split)
def G8:KD underTheClaimsCaller:=by unfold underTheClaimsCaller;(repeat' with_reducible first|assumption|exact KD.ir _|exact KD.Ts _|exact KD.fld _ _|exact KD.set _ _ _|exact KD.ld _|exact KD.Yb _ _|exact KD.vj|exact KD.ft _|apply KD.ml|apply KD.Rc|intro _|split)
def zw7 a i l:KD$ keptBack a i l:=by
 have:=G8;cases l<;>unfold keptBack<;>(repeat' with_reducible first|assumption|exact KD.ir _|exact KD.Ts _|exact KD.fld _ _|exact KD.set _ _ _|exact KD.ld _|exact KD.Yb _ _|exact KD.vj|exact KD.ft _|apply KD.ml|apply KD.Rc|intro _|split)
theorem rW:∀ l:List kg,KD (readyFrames l)
 |[]=>KD.ir _
 |env::l=>by
  have b:=rW l;have a:=XZ env l;unfold readyFrames
  (repeat' with_reducible first|assumption|exact KD.ir _|exact KD.Ts _|exact KD.fld _ _|exact KD.set _ _ _|exact KD.ld _|exact KD.Yb _ (λc=>rfl)|exact KD.vj|exact KD.ft _|apply KD.ml|apply KD.Rc|intro _|split)
  all_goals first|exact(λi=>zw7 env i l) _|skip
def B3 l:KD$ frameObject l:=by
 cases l with
 |nil=>exact KD.ir _
 |cons env l=>
  have:=rW$ env::l;unfold frameObject
  (repeat' with_reducible first|assumption|exact KD.ir _|exact KD.Ts _|exact KD.fld _ _|exact KD.set _ _ _|exact KD.ld _|exact KD.Yb _ _|exact KD.vj|exact KD.ft _|apply KD.ml|apply KD.Rc|intro _|split)
def T0:KD frameEnvs:=by unfold frameEnvs;(repeat' with_reducible first|assumption|exact KD.ir _|exact KD.Ts _|exact KD.fld _ _|exact KD.set _ _ _|exact KD.ld _|exact KD.Yb _ _|exact KD.vj|exact KD.ft _|apply KD.ml|apply KD.Rc|intro _|split)
def o6 a:KD$ PySem.frameOf a:=by
 have b:=T0;unfold PySem.frameOf
 (repeat' with_reducible first|assumption|exact KD.ir _|exact KD.Ts _|exact KD.fld _ _|exact KD.set _ _ _|exact KD.ld _|exact KD.Yb _ _|exact KD.vj|exact KD.ft _|apply KD.ml|apply KD.Rc|intro _|split)
 all_goals first|exact B3 _|skip
def tZ f b:KD$ entryPlaceOf f b:=by unfold entryPlaceOf;(repeat' with_reducible first|assumption|exact KD.ir _|exact KD.Ts _|exact KD.fld _ _|exact KD.set _ _ _|exact KD.ld _|exact KD.Yb _ _|exact KD.vj|exact KD.ft _|apply KD.ml|apply KD.Rc|intro _|split)
def P0 a b c d e l:KD$ ln a b c d e l:=by
 unfold ln newFields newObj newObjAsIs
 (repeat' with_reducible first|assumption|exact KD.ir _|exact KD.Ts _|exact KD.fld _ _|exact KD.set _ _ _|exact KD.ld _|exact KD.Yb _ _|exact KD.vj|exact KD.ft _|apply KD.ml|apply KD.Rc|intro _|split)
def ď e a:KD$ nh e a:=by
 have b:=o6 a;unfold nh
 (repeat' with_reducible first|assumption|exact KD.ir _|exact KD.Ts _|exact KD.fld _ _|exact KD.set _ _ _|exact KD.ld _|exact KD.Yb _ (λc=>rfl)|exact KD.vj|exact KD.ft _|apply KD.ml|apply KD.Rc|intro _|split)
 all_goals first|exact tZ _ _|exact P0 _ _ _ _ _ _|skip
def Z1 e f:KD$ mn e f:=by unfold mn;(repeat' with_reducible first|assumption|exact KD.ir _|exact KD.Ts _|exact KD.fld _ _|exact KD.set _ _ _|exact KD.ld _|exact KD.Yb _ _|exact KD.vj|exact KD.ft _|apply KD.ml|apply KD.Rc|intro _|split)
def qQ{M}{t:Ql e}{Q}(k:KD t)(h:wpAny M A t Q E s):wpAny M A t (λa d=>Q a d/\DK s.heap d.heap) E s:=
 λc p b=>ur M c t (λf f f z=>z) (λf f f z=>z.1) p s$ k.out M c _ _ p s$ h c p b
section
variable{P:Ca}{w:Ua}{H H':Hp}{h h':Heap}{a:Addr}{o:HO}
def zev(x:Cj P w H h a o):∃ u,h.get? a=BD u:=by
 cases o with
 |ra xs=>obtain⟨_,_,_,_,e⟩:=x;exact⟨_,e⟩
 |Sa xs=>obtain⟨_,_,_,d,e,_⟩:=x;exact⟨_,e⟩
 |dK b=>obtain⟨_,_,_,_,o,_,_,e,_⟩:=x;exact⟨_,e⟩
 |dT b=>obtain⟨_,_,_,_,o,_,_,e,_⟩:=x;exact⟨_,e⟩
 |set S n=>obtain⟨o,_,_,_,e,_⟩:=x;exact⟨_,e⟩
 |yb C g c=>obtain⟨_,_,_,e,_⟩:=x;exact⟨_,e⟩
 |own y=>trivial
 |xd c=>obtain⟨_,⟨_,_,_,e,_⟩,_⟩:=x;exact⟨_,e⟩
 |sG lo i=>obtain⟨_,_,_,e⟩:=x;exact⟨_,e⟩
 |zd d u=>obtain⟨e,_⟩:=x;exact⟨_,e⟩
 |rk ps=>exact⟨_,x⟩
 |met f y=>exact⟨_,x⟩
 |ext j=>obtain⟨_,⟨_,e⟩,_⟩:=x;exact⟨_,e⟩
def tN(x:zh P w H h)(k:∀ b o u,H b=BD o->h.get? b=BD u->h'.get? b=BD u):zh P w H h':=λb o e=>
 (x b o e).mj (λc v a q=>by
  rcases a with rfl|a
  ·exact k _ _ _ e q
  ·exact k _ _ _ a q) (λc q=>q) λc c q=>q
end
section
variable{pins:List$ Addr × Obj}{st:St}{H H':Hp}{s s':Shared}{cls:Value}{h':Heap}{ea:Addr}{args:dl}{M:ui}{E:Value->Shared->Prop}{Q:Unit->Shared->Prop}
def P5(x:RB B l ea cls a h):ym B l ea cls a h:=⟨x.1,x.2.1,x.2.2.1,ϑ ⟨Ic,x.2.2.2.at⟩⟩
def ym.there(x:ym B l ea cls b h):∃ a,h.get? ea=BD a/\a.cls=cls:=by
 obtain⟨_,_,_,⟨f,q⟩|⟨c,g,d,e,_⟩⟩:=x
 ·exact q.there
 ·exact⟨c,d,e⟩
def ym.pL(x:ym B l ea cls c h)(i:h.get? ea=BD o):∃ a,o.data=Ϫ a:=by
 obtain⟨_,_,_,⟨e,d,a,T,oT,n,g,b,f,_⟩|⟨d,a,j,k,m,_⟩⟩:=x;all_goals simp_all
def AD.next(x:AD a ea B h b H')(k:DK h h')(e:∃ o,h'.get? ea=BD o):AD a ea B h' b H':=λn q=>by
 obtain⟨c,oD,i,d,f,g⟩:=x n q;obtain⟨o,e⟩:=e;exact⟨c,oD,o,e,(k.get d e).trans f,g⟩
def YN(x:ym B l ea cls d s.heap)(i:∀ a,ym B l ea cls d a->s.heap.UpToSlots a->DK s.heap a->Q () { s with heap:=a }):wpAny M A (mn (Mb ea) Α) Q E s:=by
 obtain⟨f,g,h,⟨y,c⟩|c⟩:=x
 ·have k:wpAny M A _ (λI s'=>∃ a,s'={ s with heap:=a }/\ym B l ea cls d a/\s.heap.UpToSlots a) E s:=
   wpAny_setFlight_noneW f h c λa p q r t=>⟨a,rfl,P5 ⟨p,g,q,r⟩,λb o e n=>⟨o.slots,t b o e n⟩⟩
  exact dc (qQ (Z1 _ _) k) (λ_ _ ⟨⟨a,e,u,v⟩,w⟩=>by subst e;exact i a u v w) λI I z=>z
 ·obtain⟨G,H,m,D,j,F,C,a⟩:=id c;exact aa$ Nj m j a$ ga$ i s.heap ⟨f,g,h,ϖ c⟩ (.refl _)$ .refl _
def zxr(w:A.frames=BD (d::a))(u:d.frame=BD L)(x:ym B (d::a) ea cls m s.heap)
  (N:∀ h,Jm B (d::a) ea cls m L h->s.heap.UpToSlots h->Q () { s with heap:=h }):wpAny M A (nh (Mb ea) d) Q E s:=by
 obtain⟨I,C,J,⟨D,r⟩|r⟩:=x
 ·by_cases hm:D=Fc L
  ·subst hm;exact wpAny_noteFrame_againW u r$ N s.heap ⟨I,C,J,r⟩$ .refl _
  ·obtain⟨U,W,T,oT,z,l,ϋ,j,h,y,i,F,c,ϊ⟩:=r;have V:3<z.size:=(Xc.mp ϊ).1;have f:∀ b,b≠T->(s.heap.update T (Ho (·.setIfInBounds 3 Ic))).get? b=s.heap.get? b:=λb G=>Cf _ _$ Vd G;have nr:∀ b o,s.heap.get? b=BD o->(∀ v,o.data≠ Ϫ v)->b≠T:=λb o G hn q=>by
    rw[q,F]at G;cases G;exact hn z c
   have g:=pd (Ho (·.setIfInBounds 3 Ic)) F$ Le$ rc c _;have up:s.heap.UpToSlots _:=λb o e n=>⟨o.slots,(f b$ nr b o e n).trans e⟩
   have F0:RB B _ ea cls m _:=
    ⟨λb o e=>(f b λq=>by rw[q,y]at e;cases e).trans$ I b o e,C,J.of_keeps λb o e n=>⟨o,(f b$ nr b o e n).trans e,rfl⟩,
     U,W,T,_,_,(f ea$ Vd i).trans l,ϋ,j,h,y,i,g,rc c _,by simp[V]⟩
   intro Γ p P;have k:=(wpAny_looks_onW (M:=M) (E:=E) (s:={ s with heap:=s.heap.update T _ }) w u F0 λh2 q1 q2=>N h2 q1$ up.trans q2) Γ p P;unfold nh at k ⊢;simp only[u]at k ⊢;rw[Ck,Pt]at k ⊢;apply b_;intro z_;obtain⟨a1,R,v1,x1,e1,g1,ό,i1,k⟩:=k;cases e1;have t:s.heap.get? ea=BD R:=(f ea$ Vd i).symm.trans g1;have S:R=U:=by rw[l]at t;cases t;rfl
   apply z_;apply b_;intro z_;subst S;rw[j]at ό;cases ό;rw[h]at i1;cases i1;apply z_;refine⟨ea,R,W,Mb T,rfl,l,j,h,?_⟩;have nn:(Mb T != Ic)=G6:=by simp
   simp only[nn,af]at k ⊢;rw[Ck,Pt]at k ⊢;obtain⟨a2,o2,v2,x2,e2,g2,d2,i2,k⟩:=k;cases e2;have K:=g.symm.trans g2;cases K;have H:=(rc c (·.setIfInBounds 3 Ic)).symm.trans d2;cases H;have X:x2=Ic:=by
    have:(z.setIfInBounds 3 Ic)[3]?=BD Ic:=by simp[V]
    rw[this]at i2;cases i2;rfl
   subst X;refine⟨T,oT,z,D,rfl,F,c,ϊ,?_⟩;have n1:(Ic == Fc L)=İ:=by simp[Fc]
   have n2:(D == Fc L)=İ:=by
    cases q:D == Fc L with
    |false=>rfl
    |true=>exact absurd (Jg.mp q) hm
   simp only[n1,n2,Bs,On]at k ⊢;rw[Ck,mJ]at k ⊢;apply b_;intro z_;obtain⟨a3,o3,v3,e3,g3,d3,i3,k⟩:=k;cases e3;apply z_;refine⟨T,oT,z,rfl,F,c,V,?_⟩;simpa only[Heap.update_setField_twice]using k
 ·obtain⟨U,W,l,ϋ,j,hz,h0,h⟩:=r;unfold nh;simp[u];refine aa$ Nj l j h (wpAny_entryW (base:=B) (outer:=a) (a0:=m) w J u l I C j hz h0 λh4 hN=>?_);obtain⟨k1,k2,k3,k4⟩:=hN;rw[ϋ]at k3;exact N h4 ⟨k1,C,k2,k3⟩ k4
def NT(f:A.frames=BD (c::a))(j:c.frame=BD L)(x:ym B (c::a) ea cls d s.heap)
  (i:∀ b,Jm B (c::a) ea cls d L b->s.heap.UpToSlots b->DK s.heap b->Q () { s with heap:=b }):wpAny M A (nh (Mb ea) c) Q E s:=by
 have k:wpAny M A _ (λm s'=>∃ b,s'={ s with heap:=b }/\Jm B _ ea cls d L b/\s.heap.UpToSlots b) E s:=zxr f j x λb g h=>⟨b,rfl,g,h⟩
 exact dc (qQ (ď _ _) k) (λ_ _ ⟨⟨b,e,g,h⟩,l⟩=>by subst e;exact i b g h l) λm m z=>z
def WV(x:Jm B l ea cls a L h):ym B l ea cls a h:=⟨x.1,x.2.1,x.2.2.1,ϑ ⟨_,x.2.2.2⟩⟩
def l7(d:A.frames=BD (b::a))(h:b.frame=BD L)(x:ym B (b::a) ea cls e s.heap)
  (g:∀ c,ym B a ea cls e c->s.heap.UpToSlots c->DK s.heap c->Q () { s with heap:=c }):wpAny M A (leaving b$ Mb ea) Q E s:=by
 refine aa (NT d h x λc m n o=>(YN (WV m) λf p q r=>?_));obtain⟨i,j,⟨_,_,k⟩,l⟩:=p;exact g f ⟨i,j,k,l⟩ (n.trans q)$ o.trans r
def oG(c:X.stack=X.env::X.outer)(a:X.env.frame=BD X.env.locals):b∈sj X.stack ↔ b=X.env.locals\/b∈sj X.outer:=by
 rw[c];unfold sj;rw[Ze,a];exact Ea
def Ş(I:db X pins st H s)(m:X.stack=X.env::X.outer)(l:X.env.frame=BD X.env.locals)(p:X.ex=[])(d:Un (sj X.stack) [] H H' s.heap f):Un (sj X.outer) [] X.H₀ H' X.s₀.heap f:=by
 have a:∀ b,b ∉ X.ex:=λb z=>by rw[p]at z;cases z
 have i:∀ b o,X.s₀.heap.get? b=BD o->b≠X.env.locals:=λb o e=>Ba$ La (za e) I.ok.above;refine⟨λb o e n g v=>?_,λb o e n g v=>?_,λb o e n v=>?_,λb o e v=>?_,λb xs e=>d.Bj b xs$ I.base.Bj b xs e,λb o u e=>d.Uh b o u$ I.base.Uh b o u e,λb ps e=>?_⟩
 ·exact d.keep b o (I.base.keep b o e n g$ a b) (I.base.free b o e n$ a b) (λz=>((oG m l).mp z).elim (i b o e) g) ⋯
 ·obtain⟨t,c⟩:=I.base.slot b o e n g (a b);obtain⟨k,h⟩:=d.slot b _ c (I.base.free b o e n$ a b) ((oG m l).mpr$ ϖ g) ⋯;exact⟨k,h⟩
 ·obtain⟨j,c⟩:=I.base.there b o e (a b);exact d.free b j c (I.base.free b o e n$ a b) ⋯
 ·obtain⟨j,c⟩:=I.base.there b o e (a b);exact d.there b j c ⋯
 ·obtain⟨q,c⟩:=I.base.cj b ps e;obtain⟨r,h⟩:=d.cj b _ c;exact⟨q++r,by rw[h,pr]⟩
def rG(F:uy P w a H s cls v H' e s'){B:Heap}(y:∀ b o,s.heap.get? b=BD o->H b=Α->b ∉ sj a->B.get? b=BD o)(z:∀ b o,H' b=BD o->∃ t,B.get? b=BD t)
  (x:∀ b o,s.heap.get? b=BD o->b ∉ sj a->∃ k,B.get? b=BD k) (A:∀ b o,B.get? b=BD o->s'.heap.get? b=BD o) (l:∀ b o,B.get? b=BD o->j.get? b=BD o) (h:s'.heap.UpToSlots j) (g:∀ b∈sj a,∃ o,s.heap.get? b=BD o/\(∀ E,o.data≠ Ϫ E)/\H b=Α) :
  Un (sj a) [] H H' s.heap j/\zh P w H' j:=by
 refine⟨⟨λb o e n c G=>l b o$ y b o e n c,λb o e n c p=>?_,F.un.free,λb o e p=>?_,F.un.Bj,F.un.Uh,F.un.cj⟩,tN F.Lc λb o u e q=>?_⟩
 ·obtain⟨D,f⟩:=F.un.slot b o e n c p;obtain⟨k,d,m,_⟩:=g b c;rw[e]at d;cases d;obtain⟨i,r⟩:=h b _ f m;exact⟨i,r⟩
 ·by_cases c:b∈sj a
  ·obtain⟨k,d,m,C⟩:=g b c;rw[e]at d;cases d;obtain⟨D,f⟩:=F.un.slot b o e C c p;obtain⟨i,r⟩:=h b _ f m
   simp_all
  ·obtain⟨k,f⟩:=x b o e c
   simp_all
 ·obtain⟨t,f⟩:=z b o e
  simp_all
def nG(I:db X pins st H s):∀ b∈sj X.stack,∃ o,s.heap.get? b=BD o/\(∀ d,o.data≠ Ϫ d)/\H b=Α:=λb a=>by
 obtain⟨_,o,e,c⟩:=I.stack.mem a;exact⟨o,e,c,I.lj b a⟩
set_option tactic.hygienic true in
def Y3(I:db X pins st H s)(d:X.stack=X.env::X.outer)(i:X.env.frame=BD X.env.locals)(c:X.ex=[])(F:uy X.prog X.w X.stack H s cls j H' e s')
  (N:∀ g,uy X.prog X.w X.outer X.H₀ X.s₀ cls j H' e g->Q () g):wpAny M X.A (leaving X.env e) Q E s':=by
 obtain⟨ea,t,B,rfl,y,ϋ,J,G,D,C,L⟩:=F.ex;have k:ym B (X.env::X.outer) ea cls t s'.heap:=by rw[<-d];exact y
 refine l7 (by rw[<-d];exact I.ok.frames) i k λl r S T=>N _ ?_;obtain⟨R,p⟩:=rG F D G C y.1 r.1 S (nG I);have a:∀ b,b ∉ X.ex:=λb z=>by rw[c]at z;cases z
 have f:∀ b o,X.s₀.heap.get? b=BD o->b≠X.env.locals:=λb o e=>Ba$ La (za e) I.ok.above;have K:∀ b,s.heap.get? b=Α->X.s₀.heap.get? b=Α:=λb e=>by
  cases q:X.s₀.heap.get? b with
  |none=>rfl
  |some u=>obtain⟨v,x⟩:=I.base.there _ _ q (a _);rw[e]at x;cases x
 have m:AD j ea B l X.s₀.heap H':=λn q=>by
  obtain⟨U,oD,V,W,ό,ϊ,z4,z5,z6⟩:=L.next T (let ⟨o,e,_⟩:=r.there;⟨o,e⟩) n q
  simp_all
 refine⟨⟨ea,t,B,rfl,r,ϋ,?_,G,λb o e n h=>?_,λb o e h=>?_,m⟩,F.os.trans I.os,F.bare,Ş I d i c R,p⟩
 ·cases q:X.s₀.heap.get? ea with
  |none=>rfl
  |some u=>grind
 ·exact D b o (I.base.keep b o e n h$ a b) (I.base.free b o e n$ a b) λz=>((oG d i).mp z).elim (f b o e) h
 ·obtain⟨P,q⟩:=I.base.there b o e (a b);exact C b P q λz=>((oG d i).mp z).elim (f b o e) h
end
def ņ{P}{w}{K}{m}{d}{N}{g}{c}{f}{l}{A}{b}{s}{H}{E}{st}{a}{j}{i}
  (h:E a j i):RA (mo (qk P w) P w K m d N g c f l A b s H E) st a j i where
 GF:=λk o s1 e p I F=>Y3 I rfl rfl rfl F λn G=>⟨a,j,i,G,h⟩
def RA.made{st}(t:RA X st j Α g)(I:db X d st g s)(c:Heap.MadeExcOf s.heap h' h j i):X.xe (Mb h) { s with heap:=h' }:=by
 have f:∀ b o,s.heap.get? b=BD o->b ∉ sj X.stack->(W.hideAll s.heap _).get? b=BD o:=λb o e n=>W.hideAll_get _ e n;obtain⟨y,m,x,A⟩:=c.there;have p:∀ b o,g b=BD o->b ∉ sj X.stack:=λb o e z=>by rw[I.lj b z]at e;cases e
 have w:g h=Α:=by
  cases q:g h with
  |none=>rfl
  |some u=>obtain⟨v,e⟩:=zev (I.Lc _ _ q);rw[c.new]at e;cases e
 refine t.GF d g s _ _ I ⟨⟨h,Mb y,W.hideAll s.heap _,rfl,⟨λb o q=>c.keeps b o$ W.of_hideAll _ q,?_,(W.funFrames_hide I.stack$ λl m a r=>yj.mpr ⟨l,m,r⟩).of_keeps λb o e B=>⟨o,c.keeps b o e,rfl⟩,ϖ ⟨_,_,m,rfl,rfl,by simp,rfl,rfl⟩⟩,w,c.new,λb o e=>?_,λb o e n k=>f b o e k,λb o e k=>⟨o,f b o e k⟩,λn q=>by cases q⟩,rfl,I.bare,⟨λb o e n k B=>c.keeps b o e,λb o e n k B=>⟨o.slots,c.keeps b o e⟩,λb o e n B=>n,λb o e B=>⟨o,c.keeps b o e⟩,λB B e=>e,λB B B e=>e,λb ps e=>⟨#[],by rw[e];simp⟩⟩,tN I.Lc λb o u e q=>c.keeps b u q⟩
 ·cases q:(W.hideAll s.heap _).get? h with
  |none=>rfl
  |some u=>have:=W.of_hideAll _ q;rw[c.new]at this;cases this
 ·obtain⟨u,q⟩:=zev (I.Lc _ _ e);exact⟨u,f b u q$ p b o e⟩
def oq{K} :
  gn (model P w) (mo (qk P w) P w K g c N d b f e A a s H E).A (mo (qk P w) P w K g c N d b f e A a s H E).env (mo (qk P w) P w K g c N d b f e A a s H E).xe:=zaC
noncomputable def DZ:Fl->M D
 | ϙ _=>ret Ϛ
 | ϭ d=>ret d
 | .xc _ x=>λa=>.ex x a
 |_=>Fb
def eo:dh Fl->dh D
 | Y a σ=>DZ a σ
 |_=>Ϙ
def Vg(n:Nat)(g:Ev->M Fl)(a:B'):M D:=λb=>eo$ g (a.map BD++List.replicate (n - a.length) Α) b
inductive aR(T:Tb)(n:Nat)(vs:lv)(H:Hp)(P:b'->Ha->B'->Prop):Prop
 |mk (μ:b') (σ:Ha) (ds:B') (a:ub T μ H ds vs) (l:ds.length=n) (r:vd T μ H σ) (p:P μ σ ds):aR T n vs H P
noncomputable def Mm(T:Tb)(n:Nat)(f:B'->M D):Sp:=λb H Q E=>aR T n b H λc d a=>Xb T E (Oa T) c H (f a d) Q
noncomputable def lp(n:Nat)(f:B'->M D)(a:B')(b:B'):M D:=if (b++a).length=n then f (b++a)else Fb
def og(n:Nat)(f:B'->M D)(a:B')(b:Ev->M (B')):Ev->M D:=λc=>Rc (b c)$ lp n f a
section
def á(h:ub T f H a c):Wg T f H (a.map BD++List.replicate (N.length - a.length) Α)$ L2.Jv N c:=by
 have l:=h.length;refine⟨by simp[L2.Jv,l],λi d e=>?_⟩;by_cases k:i<a.length
 ·rw[ib (by simpa using k),Ja]at e;cases b:a[i]? with
  |none=>simp_all
  |some x=>
   rw[b]at e;cases e;obtain⟨v,g,j⟩:=h.get b;refine⟨v,?_,j⟩;unfold L2.Jv;rw[ib ⋯,Ja,g];rfl
 ·rw[Hc ⋯,Co]at e
  simp_all
variable{k:Nat}{f C:Addr}{fd:df}{ps:ac}{dvs:lv}{dval:dl}{dds:B'}{x:Str}{p pos:Zd}{e:Qa}{es:List Qa}{fn:B'->M D}{fs:Ev->M (B')}{sp:Sp}{t:TA}
def aE(F:Sg X.prog X.w X.K X.mg X.base (qk X.prog X.w) k f fd ps sp)(p:Nd k X.A)(m:fq X.K fd ps dval)(n:ke dvs dval)
  (I:db X a g H s) (r:ke vs d) (h:sp (vs++dvs) H Q$ XE X g):wpAny (model X.prog X.w) X.A (call (Mb f) d) (EP X a g Q) X.xe s:=by
 have i:=r.append n;have o:(d++dval).length=ps.length:=by rw[<-i.length];exact F.len _ _ _ _ h
 refine Ki (lf (F.Vg X.A X.stack s H _ _ _ Q _ p I.pC (m s d I.gi o) i h) λr t c=>?_);cases r with
 |error e=>obtain⟨j,fd,v,b,q⟩:=c;exact q.GF a H s e t I b
 |ok l=>
  cases l with
  |ret u=>exact I.after c
  |next=>exact ϳ c
  |brk=>exact ϳ c
  |cont=>exact ϳ c
def AK(F:Sg X.prog X.w X.K X.mg X.base (qk X.prog X.w) k f fd ps$ Mm T ps.length fn)(N:Nd k X.A)(G:Gl X x)(L:X.mg x=BD (Mb f))(J:W.keepIn X.K (Mb f)=G6)(C:fq X.K fd ps dval)(D:ke dvs dval)(g:∀ n H,ub T n H dds dvs)
  (B:FA T X (e::es) fs) (d:(x == ("__debug__" : Str))=İ:=by decide) (E:va (e::es) X.env=(İ,Lb e X.env)::va es X.env:=by rfl) (j:(pc pos$ va es X.env).any (·.1)=İ:=by rfl) :
  FE T X (ϟ (ϛ x p) (e::es) [] pos)$ og ps.length fn dds fs:=by
 intro a s y H Q I h;refine Ke$ xB I G L ?_ d;obtain⟨n,ρ,R,z,l,M⟩:=h;refine Ϲ I.ok.mod.tu J (Fd (B pos a s y H (λm c=>Mm T ps.length fn (m++dvs) c Q$ XE X y) I ⟨n,ρ,R,z,l,M.bind λv t o m c O S P ϋ b=>?_⟩) λus s1 ⟨m,c,u,r,q⟩=>⟨u.gi,?_⟩) E j
 ·unfold lp at b;by_cases i:(v++dds).length=ps.length
  ·rw[ka i]at b;exact⟨o,t,v++dds,ϋ.append$ g _ _,i,P,b⟩
  ·rw[ua i]at b;exact b.elim
 ·exact aE F N C D u r q
variable{P:Ca}{w:Ua}{K:ϕ}{mg:Str->Option Value}{base:Heap}
def jB{st}{D kV i G d ct ϊ}{C od}
  (lk:K.lookup f=BD ⟨ϊ,od,.func$ Ϯ x a c (uj st) (zf st) D kV i G C d ct,q⟩) (p:W.codeIn K d a=G6) (S:Oc N ps$ zf st)
  (X:∀ A b s H E,Nd k (A.deeper$ ag a (zf st) s.heap.objs.size f d)->dk T (mo (qk P w) P w K mg base N a (zf st) f d A b s H E) (uj st) g) :
  Sg P w K mg base (qk P w) (k+1) f (Ϯ x a c (uj st) (zf st) D kV i G C d ct) ps$ Mm T ps.length$ Vg N.length g:=by
 refine ŧ lk p S (λvs H Q E h=>?_) (λA b s H vs Q E ό h=>?_)
 ·obtain⟨I,y,L,o,F,_⟩:=h;rw[<-o.length];exact F
 ·obtain⟨I,y,L,o,F,V,e⟩:=h;refine⟨_,X A b s H E ό,I,_,y,á o,V,?_⟩;unfold Vg at e;cases m:g _ y with
  |Fb=>rw[m]at e;exact e
  |ex x B=>rw[m]at e;exact e.elim
  |ok U B=>
   rw[m]at e;intro u n J ϋ r j;have l:=e.mono ϋ;cases U with
   |nx v=>cases n with
    |nx t=>have z:=Xb.here l r (by rw[Oa]);exact z
    |_=>exact j.elim
   |rt d2=>cases n with
    |rt v2=>have z:=Xb.here l r j;exact z
    |_=>exact j.elim
   |xc v x2=>cases n with
    |xc t c2 R=>
     obtain⟨_,rfl,rfl⟩:=j;exact ņ$ l u J (ϰ _ _) r
    |_=>exact j.elim
   |_=>exact l.elim
def LN(F:Sg P w K mg base (qk P w) k f fd ps$ Mm T ps.length fn):Sg P w K mg base (qk P w) k f fd ps$ Mm T ps.length (λa=>zd$ fn a):=
 F.imp λj H Q E h=>by
  obtain⟨g,i,a,c,d,b,e⟩:=h;exact⟨g,i,a,c,d,b,Xb.zd b e⟩
end
noncomputable def Ci(d:kg)(a:List$ Str × Be)(acc:List$ Str × Addr):List$ Str × Addr:=
 a.foldl (λb y=>if (y.2 == xb)=G6 then (match d.cells.lookup y.1 with|some c=>(y.1,c)::b|none=>b)else b) acc
theorem bN(b:kg):∀ (d:List$ Str × Be) (acc:List$ Str × Addr),(∀ y∈d,y.2=xb->∃ c,b.cells.lookup y.1=BD c)->
  (forIn d acc (λx (cs:List (Str × Addr))=>match x with|(name,kind)=>if (kind == xb)=G6 then (do let a <-cellOf b name;pure (ForInStep.yield$ (name,a)::cs))else pure (ForInStep.yield cs)):Ql (List$ Str × Addr))=pure (Ci b d acc)
 |[],acc,_=>rfl
 |(n,k)::r,acc,h=>by
  rw[List.forIn_cons];by_cases e:(k == xb)=G6
  ·obtain⟨c,i⟩:=h _ na ⋯;have j:cellOf b n=pure c:=by unfold cellOf;rw[i]
   simp only[e,j];show (forIn r _ _:Ql _)=_;rw[bN b r _ λy g=>h y$ ma _ g];have f:Ci b ((n,k)::r) acc=Ci b r ((n,c)::acc):=by
    unfold Ci;rw[Ml];simp only[e,af,i]
   rw[f]
  ·simp only[e];show (forIn r acc _:Ql _)=_;rw[bN b r acc λy g=>h y$ ma _ g];have f:Ci b ((n,k)::r) acc=Ci b r acc:=by
    unfold Ci;rw[Ml];simp only[e];rfl
   rw[f]
def kO b a(h:∀ y∈a.names,y.2=xb->∃ c,b.cells.lookup y.1=BD c):closureFor a b=pure (Ci b a.names []):=by
 unfold closureFor;simp only[bind_pure];exact(bN b a.names [] h)
theorem DO(a:kg):∀ (b:List$ Str × Be) (acc:List$ Str × Addr) (n:Str) (c:Addr),(∀ n c,acc.lookup n=BD c->a.cells.lookup n=BD c)->(Ci a b acc).lookup n=BD c->a.cells.lookup n=BD c
 |[],acc,n,c,h,e=>h n c e
 |(y,k)::r,acc,n,c,h,e=>by
  refine DO a r _ n c (λn c q=>?_) e;by_cases f:(k == xb)=G6
  ·simp[f,af]at q;cases d:a.cells.lookup y with
   |none=>rw[d]at q;exact h n c q
   |some g=>
    rw[d]at q;rw[Rb]at q;cases i:(n == y)with
    |true=>simp_all
    |false=>simp_all
  grind
theorem WR(a:kg):∀ (b:List$ Str × Be) (acc:List$ Str × Addr) (n:Str),(∃ c,acc.lookup n=BD c)->∃ c,(Ci a b acc).lookup n=BD c
 |[],acc,n,h=>h
 |(y,k)::r,acc,n,h=>by
  refine WR a r _ n ?_;by_cases e:(k == xb)=G6
  ·simp[e];cases f:a.cells.lookup y with
   |none=>exact h
   |some d=>
    rw[Rb];cases g:(n == y)with
    |true=>exact⟨d,rfl⟩
    |false=>exact h
  simp_all
theorem sD(b:kg):∀ (a:List$ Str × Be) (acc:List$ Str × Addr) (n:Str),(n,xb)∈a->(∃ c,b.cells.lookup n=BD c)->∃ c,(Ci b a acc).lookup n=BD c
 |[],acc,n,h,_=>nomatch h
 |(y,k)::r,acc,n,h,d=>by
  rcases Ea.mp h with e|e
  ·cases e;refine WR b r _ _ ?_;obtain⟨c,d⟩:=d
   simp_all
  ·exact sD b r _ n e d
theorem GJ{a:kg}:∀ {b:List$ Str × Be} {x:Str} {k:Be},
  (b.map λ(n,k)=>if (k == xb && a.scope.kind == Ϥ && a.kindOf n == BD Kc)then (n,Kc)else (n,k)).lookup x=BD k->∃ c,b.lookup x=BD c/\(k=c\/(c=xb/\k=Kc))
 |[],_,_,h=>by simp at h
 |(n,c)::r,x,k,h=>by
  have g:=@GJ a r x k;have d:List.lookup x ((if (c == xb && a.scope.kind == Ϥ && a.kindOf n == BD Kc)=G6 then (n,Kc)else (n,c))::(r.map λ(n,k)=>if (k == xb && a.scope.kind == Ϥ && a.kindOf n == BD Kc)then (n,Kc)else (n,k)))=BD k:=h;cases f:x == n with
  |true=>
   by_cases e:(c == xb && a.scope.kind == Ϥ && a.kindOf n == BD Kc)=G6;all_goals grind
  |false=>
   by_cases e:(c == xb && a.scope.kind == Ϥ && a.kindOf n == BD Kc)=G6
   ·rw[ka e]at d;simp only[Rb,f]at d ⊢;exact g d
   ·rw[ua e]at d;simp only[Rb,f]at d ⊢;exact g d
theorem HQ{env:kg}:∀ {a:List$ Str × Be} {x:Str},a.lookup x=BD xb->
  (a.map λ(n,k)=>if (k == xb && env.scope.kind == Ϥ && env.kindOf n == BD Kc)then (n,Kc)else (n,k)).lookup x=BD Kc\/
  (a.map λ(n,k)=>if (k == xb && env.scope.kind == Ϥ && env.kindOf n == BD Kc)then (n,Kc)else (n,k)).lookup x=BD xb
 |[],_,h=>by simp at h
 |(n,k)::r,x,h=>by
  have f:=@HQ env r x;have b:∀ z,List.lookup x ((if (k == xb && env.scope.kind == Ϥ && env.kindOf n == BD Kc)=G6 then (n,Kc)else (n,k))::(r.map λ(n,k)=>if (k == xb && env.scope.kind == Ϥ && env.kindOf n == BD Kc)then (n,Kc)else (n,k)))=z->
   (List.map (λ(n,k)=>if (k == xb && env.scope.kind == Ϥ && env.kindOf n == BD Kc)then (n,Kc)else (n,k))$ (n,k)::r).lookup x=z:=λz e=>e
  cases c:x == n with
  |true=>
   simp[Rb,c]at h;cases h;by_cases d:(xb == xb && env.scope.kind == Ϥ && env.kindOf n == BD Kc)=G6
   ·exact ϑ$ b _ (by rw[ka d];simp only[Rb,c])
   ·exact ϖ$ b _ (by rw[ua d];simp only[Rb,c])
  |false=>
   simp only[Rb,c]at h;have e:List.lookup x ((if (k == xb && env.scope.kind == Ϥ && env.kindOf n == BD Kc)=G6 then (n,Kc)else (n,k))::(r.map λ(n,k)=>if (k == xb && env.scope.kind == Ϥ && env.kindOf n == BD Kc)then (n,Kc)else (n,k))) =
     (r.map λ(n,k)=>if (k == xb && env.scope.kind == Ϥ && env.kindOf n == BD Kc)then (n,Kc)else (n,k)).lookup x:=by
    by_cases d:(k == xb && env.scope.kind == Ϥ && env.kindOf n == BD Kc)=G6
    ·rw[ka d];simp only[Rb,c]
    ·rw[ua d];simp[Rb,c]
   rcases f h with q|q
   ·exact ϑ$ b _$ e.trans q
   ·exact ϖ$ b _$ e.trans q
def iu{a:List$ Str × Be}(h:a.lookup x=BD k):(x,k)∈a:=oe h
noncomputable def yn(X:Cx)(b:ac)(a:Scope)(cl:List$ Str × Addr)(C:Addr)(s₀:Shared)(H₀:Hp)(ex:b'):Cx:=
 { X with N:=b,s₀:=s₀,H₀:=H₀,env:=compEnvC a cl C X.env,outer:=X.stack,stack:=X.stack,ex:=ex,fn:=λc=>İ,pn:=[],xe:=λc c=>False }
structure Gj(X:Cx)(x:Str)(M':ac)(ix:h8)(scope:Scope):Prop where
 kind:scope.kind=Ϥ
 cell:(scope.names.all λy=>!(y.2 == Kc))=G6
 names:(scope.names.all λy=>!(y.2 == .local) || scope.names.lookup y.1 == BD .local)=G6
 free:(scope.names.all λy=>!(y.2 == xb) || (X.env.scope.names.lookup y.1 == BD Kc || X.env.scope.names.lookup y.1 == BD xb))=G6
 at_:ix.map (λi=>X.N[i]?)=M'.map BD
 xV:(M'.all λy=>(X.env.scope.names.lookup y == BD Kc || X.env.scope.names.lookup y == BD xb) && scope.names.lookup y == BD xb)=G6
noncomputable def xR(a:h8)(b:Ev):Ev:=Α::a.map λi=>(b[i]?).getD Α
noncomputable def HW(a:h8)(st:St):St:=Α::a.map λi=>(st[i]?).getD Α
def sU{st} a(h:Wg T f H b st):Wg T f H (xR a b)$ HW a st:=by
 refine⟨by simp[xR,HW],λi d e=>?_⟩;cases i with
 |zero=>cases e
 |succ j=>
  have l:(a.map λi=>(b[i]?).getD Α)[j]?=BD _:=e;cases m:a[j]? with
  |none=>simp_all
  |some c=>
   have g:b[c]?=BD (BD d):=by
    cases q:b[c]? with
    |none=>simp_all
    |some o=>simp_all
   obtain⟨v,n,k⟩:=h.2 c d g;refine⟨v,?_,k⟩;show (a.map λi=>(st[i]?).getD Α)[j]?=_
   simp_all
section
variable{pins:List$ Addr × Obj}{st:St}{H:Hp}{s:Shared}{x:Str}{M':ac}{ix:h8}{scope:Scope}{fp:b'}
def G9(L:Gj X x M' ix scope) y(a:y∈scope.names)(e:y.2=xb):X.env.kindOf y.1=BD Kc\/X.env.kindOf y.1=BD xb:=by
 have q:=gb.mp L.free y a;rw[e]at q;simp only[bp,Bool.not_true,Hz,qf]at q;rcases q with q|q
 ·exact ϑ$ eq_of_beq q
 ·exact ϖ$ eq_of_beq q
def Wx(I:db X pins st H s)(L:Gj X x M' ix scope):∀ y∈scope.names,y.2=xb->∃ c,X.env.cells.lookup y.1=BD c:=λy a e=>I.ok.has y.1$ G9 L y a e
def EC(L:Gj X x M' ix scope):∀ y∈scope.names,y.2≠ Kc:=λy a e=>by
 have q:=gb.mp L.cell y a
 simp_all
end
noncomputable def Sr{a:Type}(m:M a):M a:=λb=>match m b with
 | .ex _ _=>Ϙ
 |o=>o
def Xb.Ps{E E0}{R:b'->Hp->j->u->Prop}{p}{m}{k:j->M t}{Q:v->Hp->Prop}{o}
  (h:Xb T E p l H (Rc (Sr m) k i) Q) (f:∀ a b c g d,m i=Y a b->Ld l H c d->vd T c d b->R c d a g->Xb T E p c d (k a b) Q->o g d):Xb T E0 R l H (m i) o:=by
 unfold Rc Sr at h;cases e:m i with
 |ok a b=>
  simp[e]at h;exact λn g w s r q=>f a b n g w e s r q$ h.mono s
 |ex x b=>simp[e]at h;exact h.elim
 |Fb=>simp[e]at h;exact h
def Vv(T:Tb)(X:Cx)(b:List Qa)(f:Ev->M Bool):Prop:=
 ∀ (a:List$ Addr × Obj) (s:Shared) (st:St) (H:Hp) (Q:Bool->Hp->Prop),db X a st H s->tT T X f st H Q->
  wpAny (model X.prog X.w) X.A (forIn b G6 λc r=>if r=G6 then do let ok <-Nz c X.env (Lb c X.env);pure (ForInStep.yield ok)else pure (ForInStep.yield r)) (TP X a st Q) X.xe s
noncomputable def Yj:Ev->M Bool:=λa=>ret G6
def oV:Vv T X [] Yj:=by
 rintro a s e H Q I ⟨f,g,h,d,c,b⟩;exact wpAny_tests_nil ⟨H,I,Xb.here b c rfl⟩
def mQ(h:FT T X c f):Vv T X [c] f:=λa s d H Q I b=>wpAny_tests_one$ h a s d H Q I b
def ς(u:Un i ex H g h j)(d:gd C j k)(l:h.objs.size<=C):Un i ex H g h k:=by
 have f:∀ b o,h.get? b=BD o->b≠C:=λb o e=>Ba$ La (za e) l;refine⟨λb o e n c a=>(d.2 b$ f b o e).trans$ u.keep b o e n c a,λb o e n c a=>?_,u.free,λb o e a=>?_,u.Bj,u.Uh,u.cj⟩
 ·obtain⟨p,q⟩:=u.slot b o e n c a;exact⟨p,(d.2 b$ f b o e).trans q⟩
 ·obtain⟨m,q⟩:=u.there b o e a;exact⟨m,(d.2 b$ f b o e).trans q⟩
def i4(ok:zh P w H a)(f:gd C a d)(h:H C=Α):zh P w H d:=λb g e=>by
 refine(ok b g e).mj (λc j i q=>(f.2 c ?_).trans q) (λk q=>q) λk k q=>q;rintro rfl
 simp_all
def ztk(r:vd T b H c)(d:b[n]?=BD a)(e:Oa T b H y v)(h:Xb T E (Oa T) b H (zi (O n) [y] c) Q):rL (ϗ a) [v] H Q:=
 kL E b H c _ [y] (ϗ a) [v] Q r (by rw[Oa];exact⟨a,rfl,d⟩) (ub.cons e ub.nil) h
def WE{m m'}{k:b->M c}(h:m a=m' a):Rc m k a=Rc m' k a:=by unfold Rc;rw[h]
theorem SL{m:M b}{k}{l:c->M d}:Rc (Rc m k) l=Rc m λa=>Rc (k a) l:=by
 funext e;unfold Rc;cases m e<;>rfl
def kC(x y:D):M D:=λa=>match uf a x,uf a y with
 |some xs,BD b=>if xs.length+b.length<=lg then Y (ύ$ xs++b) a else Ϙ
 |_,_=>Ϙ
def Wj(x y:D):M D:=match x,y with
 | Z i,Z j=>ret (Z$ i+j)
 | Ϗ xs,Ϗ c=>if xs.length+c.length<=lg then ret (Ϗ$ xs++c)else Fb
 | ϔ a,ϔ b=>if a.length+b.length<=100000 then ret (ϔ$ a++b)else Fb
 |x,y=>kC x y
def O8(h:n<=100000):n<=sizeLine:=Ya h ⋯
section
variable{a b c:Qa}{fa fb fc:Ev->M D}{pos:Zd}
def i6{c}{t b}{l:dl}(v:IsTup s.heap t (#[]:Array Value))(q:IsTup s.heap b l.toArray)(p:Q (Mb b) s):wpAny (model c w) A (Ae .Add (Mb t)$ Mb b) Q F s:=by
 obtain⟨⟨m,o,j,y⟩,k,r,n,u⟩:=id v;obtain⟨⟨i,e,d,h⟩,a,f,x,g⟩:=id q;subst r u f g;exact Ft ⟨_,k,rfl⟩ ⟨_,a,rfl⟩ cn sr sh Xg (Ng _ _)
  (tuple_addW0 t b #[] l.toArray n x o e y h rfl) ⟨k,a,p⟩
def SQ{b}{st}(I:db X b st H s)(C:qd v i)(B:qd u h)(r:vd T d H e)(t:Oa T d H x v)(z:Oa T d H y u)(a:Xb T E (Oa T) d H (kC x y e) Q) :
  wpAny (model X.prog X.w) X.A (Ae .Add i h) (EP X b st Q) X.xe s:=by
 unfold kC at a;cases c:uf e x with
 |none=>rw[c]at a;exact a.elim
 |some xs=>
  cases f:uf e y with
  |none=>rw[c,f]at a;exact a.elim
  |some J=>
   rw[c,f]at a;dsimp only at a;by_cases g:xs.length+J.length<=lg
   ·rw[ka g]at a;obtain⟨p,F,rfl,m,j⟩:=r.ls t c;obtain⟨q,G,rfl,n,k⟩:=r.ls z f;exact yiq b s st H _ _ i h Q I C B ⟨p,q,F,G,rfl,rfl,m,n,by rw[<-j.length,<-k.length];exact gy g,λl o=>KH a r (ub.append j k) o⟩
   ·rw[ua g]at a;exact a.elim
def rR(S:T.K=X.K):yh X (Ae .Add)$ rD T Wj:=by
 rintro d s st H v u z w Q I m k ⟨E,W,ό,x,y,r,g,h,c⟩;cases x with
 |int i=>
  cases y with
  |int j=>exact Ò d s st H v u z w Q I m k ⟨i,j,En g,En h,Xb.here c r (by rw[Oa])⟩
  |_=>trivial
 |str a=>
  cases y with
  |str b=>
   unfold Wj at c;dsimp only at c;by_cases f:a.length+b.length<=100000
   ·rw[ka f]at c;exact LY d s st H v u z w Q I m k ⟨a,b,by simpa [Oa]using g,by simpa [Oa]using h,O8 f,Xb.here c r (by rw[Oa])⟩
   ·rw[ua f]at c;exact c.elim
  |_=>exact SQ I m k r g h c
 |Sa xs=>
  cases y with
  |Sa D=>
   unfold Wj at c;dsimp only at c;by_cases f:xs.length+D.length<=lg
   ·rw[ka f]at c;have G:=g;have J:=h;obtain⟨p,P,rfl,A,o⟩:=g;obtain⟨q,R,rfl,B,t⟩:=h;cases P with
    |nil=>
     have n:xs=[]:=by have:=o.length;simpa using this
     subst n;cases m;cases k;obtain⟨L,M,N,_⟩:=L2.db.tuple I (Ig.of A);obtain⟨C,U,ϋ,_⟩:=L2.db.tuple I (Ig.of B);cases M;exact i6 N ϋ ⟨ϗ q,H,I,rfl,Xb.here c r ⋯⟩
    |cons v0 V=>
     refine B1 d s st H _ _ z w Q I m k ⟨p,q,_,R,rfl,rfl,Ig.of A,Ig.of B,by simp,?_,λe=>?_,λe l F=>?_⟩
     ·rw[<-o.length,<-t.length];exact gy f
     ·subst e;have n:D=[]:=by have:=t.length;simpa using this
      subst n;exact Xb.here c r ⋯
     ·exact OA c r (ub.append o t) F
   ·rw[ua f]at c;exact c.elim
  |_=>trivial
 |_=>exact SQ I m k r g h c
noncomputable def WN(a:D->D->M D)(c:M D)(y:D):D->M D:=Nw$ dj (Rc c$ a y)$ ret$ ϒ İ
def zN(o a:D->D->M D)(c:M D)(x y:D):M D:=Rc (o x y)$ WN a c y
def VN(o a:D->D->M D)(b c:M D)(x:D):M D:=Rc b$ zN o a c x
def vS(o e:D->D->M D)(a b c:Ev->M D):Ev->M D:=λd=>Rc (a d)$ VN o e (b d)$ c d
def Β(ϊ:yh X (Pb j) r)(hs:Zj T r o)(g:yh X (Pb d) L)(i:Zj T L J)(U:FE T X a fa)(V:FE T X b fb)(W:FE T X c fc)
  (ό:lastMarks [j,d] [b,c]=İ:=by with_unfolding_all rfl):FE T X (.Compare a [j,d] [b,c] pos)$ vS o J fa fb fc:=by
 intro e s st H Q I h;refine ŭ ϊ g U V W ό e s st H Q I ?_;obtain⟨μ,q,σ,f,hr,hp⟩:=h;refine⟨μ,q,σ,f,hr,hp.bind λx t l v H1 D E r1 q1 p1=>⟨l,q,t,f.mono E,r1,p1.bind λy A m w ϋ D F r2 K p2=>(hs _ m ϋ A x y v w _ r2 (Oa.mono F _ _ q1) K$ p2.bind λz B n u H3 D G N q3 p3=>?_)⟩⟩;obtain⟨k,rfl,S,p4⟩:=sH q3 p3;refine⟨k,S,?_⟩;cases k with
 |true=>
  exact⟨n,q,B,((f.mono E).mono F).mono G,N,p4.bind λz C p u5 P D R r5 q5 p5=>i _ p P C y z w u5 Q r5 (Oa.mono R _ _$ Oa.mono G _ _ K) q5 p5⟩
 |false=>unfold dj at p4;rw[ua zb]at p4 ⊢;exact Xb.here p4 N (by rw[Oa])
def Xj(a:Nd k A):A.units+9<cLine:=by have:=a.un;lia
end
def Jr(K:ϕ)(d:Str->Option Value)(x:Str)(e:Stmt)(c:ac):Prop:=
 ∃ f b,d x=BD (Mb f)/\pH K x x e f b/\∀ a:dl,a.length=c.length->bindArgs b ⟨a,[]⟩=pure (c.zip a)
def Ii(T:Tb)(P:Ca)(w:Ua)(d:Str->Option Value)(a:Heap)(k:Nat)(x:Str)(ps:ac)(e:B'->M D):Prop:=
 ∃ f c,d x=BD (Mb f)/\W.keepIn T.K (Mb f)=G6/\(∀ b:dl,b.length=ps.length->bindArgs c ⟨b,[]⟩=pure (ps.zip b))/\Sg P w T.K d a (qk P w) k f c ps (Mm T ps.length e)
section
def Yr(h:Ii T X.prog X.w X.mg X.base k x ps g)(m:T.K=X.K)(t:Nd k X.A)(r:Gl X x)
  (n:FA T X (e::a) i) (c:(x == ("__debug__" : Str))=İ:=by decide) (q:va (e::a) X.env=(İ,Lb e X.env)::va a X.env:=by rfl) (d:(pc b$ va a X.env).any (·.1)=İ:=by rfl) :
  FE T X (ϟ (ϛ x p) (e::a) [] b)$ og ps.length g [] i:=by
 obtain⟨f,u,s,l,o,j⟩:=h;rw[m]at l j;exact AK j t r s l (.all o) Ϡ (λv v=>ub.nil) n c q d
variable{P:Ca}{w:Ua}{K:ϕ}{mg:Str->Option Value}{base:Heap}{ca:Nat->Addr}{tx:Tx}
def VB{st}(h:Jr K mg x st ps)(S:Oc N ps$ zf st)
  (i:∀ f a A b s H E,Nd k (A.deeper$ ag x (zf st) s.heap.objs.size f a)->dk ⟨K,ca,tx⟩ (mo (qk P w) P w K mg base N x (zf st) f a A b s H E) (uj st) g) :
  Ii ⟨K,ca,tx⟩ P w mg base (k+1) x ps$ Vg N.length g:=by
 obtain⟨f,n,j,F,c⟩:=h;obtain⟨o,p,kV,e,q,m,a,ct,l,rfl,lk,d⟩:=F.ex;exact⟨f,_,j,F.kp,c,jB lk d S$ i f a⟩
def Ii.zd{k}{x}{ps}{a}(h:Ii T P w mg base k x ps a):Ii T P w mg base k x ps (λb=>L4.zd$ a b):=by
 obtain⟨f,c,d,e,g,i⟩:=h;exact⟨f,c,d,e,g,LN i⟩
def GL{st}{kV d g b ct}(X:K.In h)(G:h.Ns mainGlobals mg)
  (m:∀ kV d g e b ct j,j.length=ps.length->bindArgs (Ϯ x x (Qk st) (uj st) (zf st) Ic kV d g e b ct) ⟨j,[]⟩=pure (ps.zip j))
  (a:W.nsIn K mainGlobals x=BD (BD$ Mb f)) (l:K.lookup f=BD ⟨n,o,.func$ Ϯ x x (Qk st) (uj st) (zf st) Ic kV d g e b ct,i⟩)
  (c:W.codeIn K b x=G6) (k:W.keepIn K (Mb f)=G6):Jr K mg x st ps:=
 ⟨f,_,W.mg_of X G a,HU l c k,m kV d g e b ct⟩
def PZ(X:K.In h)(G:h.Ns mainGlobals mg)(a:W.nsIn K mainGlobals x=BD (BD$ Tn i t)):∃ t,mg x=BD (Tn i t):=⟨t,W.mg_of X G a⟩
end
def wN(T:Tb)(P:Ca)(w:Ua)(d:Str->Option Value)(k:Nat)(x:Str)(ps:ac)(e:B'->M D):Prop:=
 ∃ f c,d x=BD (Mb f)/\(∀ b:dl,b.length=ps.length->bindArgs c ⟨b,[]⟩=pure (ps.zip b))/\∀ a:Heap,Sg P w T.K d a (qk P w) k f c ps (Mm T ps.length e)
def Q6{K}{st}(h:Jr K i x st ps)(S:Oc N ps$ zf st)
  (m:∀ a f b A c s H E,Nd k (A.deeper$ ag x (zf st) s.heap.objs.size f b)->dk ⟨K,j,tx⟩ (mo (qk P w) P w K i a N x (zf st) f b A c s H E) (uj st) g) :
  wN ⟨K,j,tx⟩ P w i (k+1) x ps$ Vg N.length g:=by
 obtain⟨f,q,n,F,d⟩:=h;obtain⟨r,t,kV,l,u,p,b,ct,o,rfl,lk,e⟩:=F.ex;exact⟨f,_,n,d,λa=>jB lk e S$ m a f b⟩
set_option tactic.hygienic true in
def pZ{K:ϕ}(k:K.In h)(j:W.excIn K C c a=G6) :
  ∃ f N x y n i z e m d o r s t u v A,h.get? C=BD (excClassObj x y C N n f i z e m d o r s t u v a)/\h.Ns N A/\A "__init__" = Α/\OwnTail h c f:=by
 unfold W.excIn at j;split at j
 ·rename_i o b M lk
  split at j
  ·rename_i B f r s t u w v g p
   have q:((((B=C/\w=a)/\b.hasDel=İ)/\W.tailIn K c f=G6)/\W.nsOkIn K b.ns=G6)/\W.nsIn K b.ns "__init__" = BD Α:=by
    simp_all
   obtain⟨⟨⟨⟨⟨D,E⟩,F⟩,G⟩,c5⟩,c6⟩:=q;subst D;subst E;obtain⟨x,n,J,L,y,I,z,e,m,d,H⟩:=b;cases g;cases F;obtain⟨l⟩:=M;cases p;exact⟨f,L,x,y,n,I,z,e,m,d,o,r,s,t,u,v,_,k _ _ lk,.of_isNs$ W.isNs_of_in k c5,W.nsMap_none_of_in k c5 c6,W.tail_of_in k G⟩
  ·cases j
 ·cases j
def iJ(c:Nat)(b:Ev)(a:B'):M Fl:=if a.length<=lg then ret (.xc b ⟨c⟩)else Fb
def eD(c:Nat)(b:Ev->M (B')):Ev->M Fl:=λa=>xs a (b a)$ iJ c a
def IT c(J:ExcBaseFacts B b d j)(hK:T.K=X.K)(U:W.excIn T.K (T.ca c) j b=G6)(hm:X.mg x=BD (Mb$ T.ca c))
  (hg:Gl X x) (hc:X.Wb=G6) (ha:FA T X (e::i) R) (w:(x == ("__debug__" : Str))=İ:=by decide) (S:va (e::i) X.env=(İ,Lb e X.env)::va i X.env:=by rfl)
  (A:(pc a$ va i X.env).any (·.1)=İ:=by rfl) (y:fC c=Α:=by rfl):FS T X (.Raise (BD$ ϟ (ϛ x np) (e::i) [] a) Α C)$ eD c R:=by
 intro o s E H D I hw;obtain⟨μ,ρ,σ,v,hr,hp⟩:=hw;rw[hK]at U;obtain⟨ϋ,N,nm,qn,P,f,sn,p,L,k,Q,V,ό,ϊ,k3,k5,mN,hC,hN,z,tl⟩:=pZ I.ok.mod.tu U;have m:(pc a$ va (e::i) X.env).any (·.1)=İ:=by
  rw[S];show (İ || (pc a _).any (·.1))=İ;rw[A];rfl
 refine wpAny_Raise_call_subT (nm:=nm) (q:=qn) (N:=N) (bs:=P) (bm:=ϋ) (hdct:=f) (sn:=sn) (sub:=p) (ab:=L) (col:=k) (dd:=Q) (k0:=V) (k1:=ό) (k2:=ϊ) (k3:=k3) (k5:=k5) J (tl.hasType J.hasBase) (I.ok.hd hc) m z$ xB I hg hm ⟨rfl,?_⟩ w;have h:=ha a o s E H (λG u=>G.length<=lg/\RA X E _ Α u) I ⟨μ,ρ,σ,v,hr,hp.xs v λds a1 a0 G u M e1 r1 q1 n=>by
  unfold iJ at n;by_cases l:ds.length<=lg
  ·rw[ka l]at n;exact⟨by rw[<-q1.length];exact l,Xb.here (g:=Po.xc E _ Α) n r1 ⟨v.mono e1,rfl,y.symm⟩⟩
  ·rw[ua l]at n;exact n.elim⟩
 rw[S]at h ⊢;refine ri (Fd h λus s1 zZ=>?_);obtain⟨G,u,t,r,l,F⟩:=zZ;exact ⟨rfl,by rw[<-r.length];exact gy l,t.bk _ _ hC,hN.keeps t.bk,tl.keeps t.bk,λh' ea hx=>F.made t hx⟩
structure Hd where
 t:Nat->Option Bool
 nm:Option Nat
 g:Ev->M Fl
noncomputable def GT(i:Nat):Fl->M Fl
 | ϙ a=>ret (ϙ$ a.set i Α)
 | ϭ d=>ret (ϭ d)
 | .bk a=>ret (.bk$ a.set i Α)
 | .ct a=>ret (.ct$ a.set i Α)
 | .xc _ _=>Fb
noncomputable def EH:Fl->M Fl
 | ϙ a=>ret (ϙ a)
 | ϭ d=>ret (ϭ d)
 | .bk a=>ret (.bk a)
 | .ct a=>ret (.ct a)
 | .xc _ _=>Fb
def hit(h:Hd)(a:Ev)(x:Xn):M Fl:=match h.nm with
 |none=>Rc (h.g a) EH
 |some i=>Rc (h.g$ a.set i$ BD$ .Gq x.cls) (GT i)
def Rs(a:Ev)(x:Xn):List Hd->M Fl
 |[]=>Fb
 |h::r=>match h.t x.cls with
  |some G6=>hit h a x
  |some İ=>Rs a x r
  |none=>Fb
def DG(b:List Hd):Fl->M Fl
 | .xc a x=>Rs a x b
 | ϙ a=>ret (ϙ a)
 | ϭ d=>ret (ϭ d)
 | .bk a=>ret (.bk a)
 | .ct a=>ret (.ct a)
def GI(g:Ev->M Fl)(a:List Hd):Ev->M Fl:=λb=>Rc (g b)$ DG a
noncomputable abbrev Cx.Hu(X:Cx)(e:Value):Cx:={ X with A:=X.A.mark (BD e),Wb:=İ,xe:=λa a=>False }
noncomputable abbrev Cx.wG(X:Cx)(a:List$ Addr × Obj)(xe:Value->Shared->Prop):Cx:={ X with xe:=xe,pn:=X.pn++a }
section
variable{pins:List$ Addr × Obj}{st:St}{H:Hp}{s:Shared}{e:Value}{xe:Value->Shared->Prop}
def t2(I:db X pins st H s):db (Cx.wG X pins xe) [] st H s:=
 ⟨⟨I.ok.mod,I.ok.kind,I.ok.glob,I.ok.blt,I.ok.above,I.ok.inj,I.ok.has,I.ok.aA,I.ok.hd,I.ok.frames,I.ok.vj,I.ok.HC,I.ok.bs,I.ok.xt,I.ok.br,I.ok.Hq,I.ok.Fj,I.ok.gx⟩,I.os,I.bare,I.base,I.loc,I.cell,I.free,I.Qf,λp a=>I.pin p ⋯,I.Lc,I.len⟩
def NC(I:db (Cx.wG X pins xe) b st H s):db X pins st H s:=
 ⟨⟨I.ok.mod,I.ok.kind,I.ok.glob,I.ok.blt,I.ok.above,I.ok.inj,I.ok.has,I.ok.aA,I.ok.hd,I.ok.frames,I.ok.vj,I.ok.HC,I.ok.bs,I.ok.xt,I.ok.br,I.ok.Hq,I.ok.Fj,I.ok.gx⟩,I.os,I.bare,I.base,I.loc,I.cell,I.free,I.Qf,λp a=>I.pin p$ Za _ a,I.Lc,I.len⟩
def qy(I:db X pins st H s):db (Cx.Hu X e) pins st H s:=
 ⟨⟨I.ok.mod,I.ok.kind,I.ok.glob,I.ok.blt,I.ok.above,I.ok.inj,I.ok.has,I.ok.aA,λz=>(by cases z),I.ok.frames,I.ok.vj,I.ok.HC,I.ok.bs,I.ok.xt,I.ok.br,I.ok.Hq,I.ok.Fj,I.ok.gx⟩,I.os,I.bare,I.base,I.loc,I.cell,I.free,I.Qf,I.pin,I.Lc,I.len⟩
def xD(ok:X.Ok)(I:db (Cx.Hu X e) pins st H s):db X pins st H s:=
 ⟨ok,I.os,I.bare,I.base,I.loc,I.cell,I.free,I.Qf,I.pin,I.Lc,I.len⟩
def C5{D}(h:SP (Cx.wG X pins xe) [] D f c):SP X pins D f c:=by
 cases f with
 |next=>obtain⟨a,b,I,q⟩:=h;exact⟨a,b,NC I,q⟩
 |brk=>obtain⟨a,b,I,q⟩:=h;exact⟨a,b,NC I,q⟩
 |cont=>obtain⟨a,b,I,q⟩:=h;exact⟨a,b,NC I,q⟩
 |ret u=>obtain⟨v,a,b,I,r,q⟩:=h;exact⟨v,a,b,NC I,r,q⟩
def cX(ok:X.Ok){D}(h:SP (Cx.Hu X e) pins D f c):SP X pins D f c:=by
 cases f with
 |next=>obtain⟨a,b,I,q⟩:=h;exact⟨a,b,xD ok I,q⟩
 |brk=>obtain⟨a,b,I,q⟩:=h;exact⟨a,b,xD ok I,q⟩
 |cont=>obtain⟨a,b,I,q⟩:=h;exact⟨a,b,xD ok I,q⟩
 |ret u=>obtain⟨v,a,b,I,r,q⟩:=h;exact⟨v,a,b,xD ok I,r,q⟩
end
def gp(X:Cx)(a:List$ Addr × Obj)(f:St)(H:Hp)(s:Shared)(d:Addr)(b:Value)(e:Option Nat):Prop:=∃ c s0,db X a f c s0/\uy X.prog X.w X.stack c s0 b e H (Mb d) s
section
variable{pins:List$ Addr × Obj}{st:St}{H:Hp}{s:Shared}{ea:Addr}{cls:Value}{fd:Option Nat}
def gp.inv(L:gp X pins st H s ea cls fd):db X pins st H s:=by
 obtain⟨a,s0,I,F⟩:=L;exact L2.db.ot I F.os F.un F.Lc F.bare λb z=>absurd z ⋯
set_option tactic.hygienic true in
def gp.next(L:gp X pins st H s ea cls fd){M}(h:∀ l,gp X pins st H l ea cls fd->Q () l):wpAny M A (mn (Mb ea) Α) Q E s:=by
 obtain⟨m,s0,I,F⟩:=L;obtain⟨p,n,B,e,g,r,b,k,j,i,q⟩:=F.ex;cases e;refine YN g λu a f c=>h _ ?_;obtain⟨t,d⟩:=rG F j k i g.1 a.1 f (nG I);exact⟨m,s0,I,⟨ea,n,B,rfl,a,r,b,k,j,i,q.next c (let ⟨o,e,_⟩:=a.there;⟨o,e⟩)⟩,F.os,F.bare,t,d⟩
def gp.obj(L:gp X pins st H s ea cls fd):H ea=Α/\(∃ o,s.heap.get? ea=BD o/\o.cls=cls)/\∃ s0:Shared,s0.heap.get? ea=Α/\∃ b,db X pins st b s0:=by
 obtain⟨b,s0,I,F⟩:=L;obtain⟨c,g,B,e,d,f,a,k,i,h,j⟩:=F.ex;cases e;exact⟨f,d.there,s0,a,b,I⟩
def uK(I:db X pins st H s)(h:db X pins st B s0)(d:s0.heap.get? a=Α)(D:H a=Α)(E:s.heap.get? a=BD o)(r:k s.heap)
  (F:∀ t w:Heap,k t->(∀ u,t.get? a=BD u->w.get? a=BD u)->k w):db X pins st (Yb H a$ ϫ k) s:=by
 have j:∀ b u,s0.heap.get? b=BD u->b≠a:=λb u e z=>by rw[z,d]at e;cases e
 have g:∀ b u,H b=BD u->b≠a:=λb u e z=>by rw[z,D]at e;cases e
 have G:∀ b u,X.s₀.heap.get? b=BD u->b ∉ X.ex->b≠a:=λb u e i=>by obtain⟨N,C⟩:=h.base.there b u e i;exact j b N C
 refine⟨I.ok,I.os,I.bare,⟨I.base.keep,I.base.slot,λb u e n i=>?_,I.base.there,λb xs e=>?_,λb J u e=>?_,λb ps e=>?_⟩,I.loc,I.cell,?_,λx c e=>?_,λp A=>?_,λb u e=>?_,I.len⟩
 ·rw[Dd$ G b u e i];exact I.base.free b u e n i
 ·have q:=I.base.Bj b xs e;rw[Dd$ g b _ q];exact q
 ·have q:=I.base.Uh b J u e;rw[Dd$ g b _ q];exact q
 ·obtain⟨f,q⟩:=I.base.cj b ps e;exact⟨f,by rw[Dd$ g b _ q];exact q⟩
 ·obtain⟨m,⟨u,_,_,l,_⟩,_⟩:=h.loc;rw[Dd$ j _ u l];exact I.free
 ·obtain⟨v,u,l,_⟩:=h.cell x c e;rw[Dd$ j _ u l];exact I.Qf x c e
 ·obtain⟨K,L,M⟩:=I.pin p A;refine⟨K,?_,M⟩;rw[Dd$ j _ _ (h.pin p A).1];exact L
 ·by_cases y:b=a
  ·subst y;rw[Lf]at e;cases e;exact⟨r,⟨o,E⟩,F⟩
  ·rw[Dd y]at e;exact(I.Lc b u e).mj (λc v O q=>q) (λc q=>by rw[Dd$ g c _ q];exact q) λc xs q=>by rw[Dd$ g c _ q];exact q
def tU:∀ b c:Heap,xF C d a b->(∀ u,b.get? a=BD u->c.get? a=BD u)->xF C d a c:=by rintro b c ⟨u,e,q⟩ k;exact ⟨u,k u e,q⟩
def k9:∀ b c:Heap,ZE a n b->(∀ u,b.get? a=BD u->c.get? a=BD u)->ZE a n c:=by rintro b c ⟨u,d,q⟩ k;exact ⟨u,k u d,q⟩
def gp.nD(L:gp X pins st H s ea (Mb C) fd):∃ v g,db X pins st g s/\g ea=BD (ϫ$ xF C v ea)/\(∀ n,fd=BD n->∃ a,v=BD a/\H a=Α/\g a=BD (ϫ$ ZE a n))/\(∀ b u,H b=BD u->g b=BD u)/\∀ b u,g b=BD u->H b=BD u\/H b=Α:=by
 apply b_;intro z_;have I:=L.inv;obtain⟨N,s0,p,F⟩:=L;obtain⟨D,ϋ,B,e,k,d,c,R,Q,P,E⟩:=F.ex;cases e;obtain⟨o,f,w⟩:=k.there;apply z_;cases r:fd with
 |none=>
  refine⟨Α,_,(uK I p c d f ⟨o,f,w,λm z=>by cases z⟩ tU),Lf,(λn q=>by cases q),λb u e=>?_,λb u e=>?_⟩
  ·rw[Dd (λz=>by rw[z,d]at e;cases e)];exact e
  ·by_cases h:b=ea
   ·rw[h];exact ϖ d
   ·rw[Dd h]at e;exact ϑ e
 |some n=>
  apply b_;intro z_;obtain⟨a,oD,y,A,G,J,K,l,M⟩:=E n r;have t:y=o:=by rw[f]at A;cases A;rfl
  apply z_;subst t;have i:=k.1 a oD J;have j:a≠ea:=λz=>by
   have:=k.2.1
   simp_all
  refine⟨BD a,_,(uK (uK I p c d f ⟨y,f,w,λm z=>by cases z;exact⟨G,k.pL f⟩⟩ tU) p M (by rw[Dd j];exact l) i ⟨oD,i,K⟩ k9),by rw[Dd$ Vd j];exact Lf,λm q=>?_,λb u e=>?_,λb u e=>?_⟩
  ·cases q;exact⟨a,rfl,l,Lf⟩
  ·rw[Dd (λz=>by rw[z,l]at e;cases e),Dd (λz=>by rw[z,d]at e;cases e)];exact e
  ·by_cases x:b=a
   ·rw[x];exact ϖ l
   ·rw[Dd x]at e;by_cases h:b=ea
    ·rw[h];exact ϖ d
    ·rw[Dd h]at e;exact ϑ e
set_option tactic.hygienic true in
def zxq(I:db X pins st H s)(m:X.stack=X.env::X.outer)(C:X.env.frame=BD X.env.locals)(F:uy X.prog X.w X.stack H s cls fd r e n){M}{Q:Value->Shared->Prop}
  (h:∀ ea d,e=Mb ea->gp X pins st r d ea cls fd->Q e d):wpAny M X.A (nh e X.env) (λ_ s2=>wpAny M X.A (mn e Α) (λ_ G=>Q e G) E s2) E n:=by
 obtain⟨ea,f,B,rfl,t,D,c,x,v,u,z⟩:=F.ex;have j:ym B (X.env::X.outer) ea cls f n.heap:=by rw[<-m];exact t
 refine NT (by rw[<-m];exact I.ok.frames) C j λK b p g=>(YN (WV b) λy k q i=>h ea _ rfl ?_)
 have a:ym B X.stack ea cls f y:=by rw[m];exact k
 obtain⟨J,l⟩:=rG F v x u t.1 a.1 (p.trans q) (nG I);exact⟨H,s,I,⟨ea,f,B,rfl,a,D,c,x,v,u,z.next (g.trans i) (let ⟨o,e,_⟩:=a.there;⟨o,e⟩)⟩,F.os,F.bare,J,l⟩
end
def ym.keep(x:ym B l e a i h)(k:∀ b o,h.get? b=BD o->j.get? b=BD o):ym B l e a i j:=by
 obtain⟨m,n,p,r⟩:=x;refine⟨λb o q=>k b o$ m b o q,n,p.of_keeps λb o q E=>⟨o,k b o q,rfl⟩,?_⟩;rcases r with⟨s,g,D,T,oT,A,d,w,y,t,z,f,v,c,u⟩|⟨g,C,d,q⟩
 ·exact ϑ ⟨s,g,D,T,oT,A,k _ _ d,w,y,t,z,f,k _ _ v,c,u⟩
 ·exact ϖ ⟨g,C,k _ _ d,q⟩
def gp.keep{st}(L:gp X a st H s g c i)(k:∀ b o,s.heap.get? b=BD o->h'.get? b=BD o):gp X a st H { s with heap:=h' } g c i:=by
 obtain⟨r,s0,I,F⟩:=L;obtain⟨v,t,B,e,j,x,f,p,m,l,w⟩:=F.ex;cases e;have d:=j.keep k;obtain⟨C,h⟩:=rG F m p l j.1 d.1 (IB k) (nG I);exact⟨r,s0,I,⟨g,t,B,rfl,d,x,f,p,m,l,λn q=>let ⟨u,oD,y,z,A⟩:=w n q;⟨u,oD,y,k _ _ z,A⟩⟩,F.os,F.bare,C,h⟩
def qC(X:Cx)(x:Str)(a:Value):Prop:=X.mg x=BD a\/(X.mg x=Α/\bootBuiltins x=BD a/\x ≠ "__name__")
inductive Cv(T:Tb)(X:Cx):List Ue->List Hd->Prop where
 |nil {r:List Ue}:Cv T X r []
 |cons {x:Str} {np pos:Zd} {cv:Value} {b₀:Stmt} {suite:List Stmt} {t:Nat->Option Bool} {g:Ev->M Fl} {r:List Ue} {hs:List Hd} (hg:Gl X x) (hd:(x == ("__debug__" : Str))=İ) (hm:qC X x cv) (ht:∀ c b,t c=BD b->ϵ X.K (Mb (T.ca c)) cv=BD b)
   (hb:∀ e,dk T (Cx.Hu X e) (b₀::suite) g) (hr:Cv T X r hs):Cv T X (.ExceptHandler (BD (ϛ x np)) Α (b₀::suite) pos::r) (⟨t,Α,g⟩::hs)
 |Kw {x y:Str} {np nq tp pos:Zd} {k:Nat} {cv cw:Value} {b₀:Stmt} {suite:List Stmt} {t:Nat->Option Bool} {g:Ev->M Fl} {r:List Ue} {hs:List Hd} (hg:Gl X x) (hd:(x == ("__debug__" : Str))=İ) (hm:qC X x cv) (hg':Gl X y) (hd':(y == ("__debug__" : Str))=İ) (hm':qC X y cw) (ht:∀ c b,t c=BD b->W.exmAny X.K (Mb (T.ca c)) [cv,cw]=BD b)
   (hb:∀ e,dk T (Cx.Hu X e) (b₀::suite) g) (hr:Cv T X r hs):Cv T X (.ExceptHandler (BD (ϲ [ϛ x np,ϛ y nq] k tp)) Α (b₀::suite) pos::r) (⟨t,Α,g⟩::hs)
 |Kx {x n:Str} {i:Nat} {np pos:Zd} {cv:Value} {b₀:Stmt} {suite:List Stmt} {t:Nat->Option Bool} {g:Ev->M Fl} {r:List Ue} {hs:List Hd} (hg:Gl X x) (hd:(x == ("__debug__" : Str))=İ) (hm:qC X x cv) (ht:∀ c b,t c=BD b->ϵ X.K (Mb (T.ca c)) cv=BD b)
   (hN:X.N.Nodup) (hi:X.N[i]?=BD n) (hl:X.env.scope.names.lookup n=BD .local)
   (hb:∀ e,dk T (Cx.Hu X e) (b₀::suite) g) (hr:Cv T X r hs):Cv T X (.ExceptHandler (BD (ϛ x np)) (BD n) (b₀::suite) pos::r) (⟨t,BD i,g⟩::hs)
def aG{st}(I:db X b st H s)(f:Gl X x)(e:(x == ("__debug__" : Str))=İ)(a:qC X x d)(h:Q d s):wpAny (model X.prog X.w) X.A (Lb (ϛ x c) X.env) Q E s:=by
 rcases a with a|⟨a,i,g⟩
 ·exact xB I f a h e
 ·exact vv I f a i h g e
def sP{D}(b:Xb T EN (xn T) j H (o.bind EH)$ io X D):Xb T EN (xn T) j H o$ io (Cx.Hu X e) D:=by
 cases o with
 |Fb=>exact b
 |ex x σ=>exact b
 |ok k σ=>
  intro a g d f h c;cases k with
  |nx i=>cases g with
   |nx st=>exact b a _ d f h c
   |_=>exact c.elim
  |rt i=>cases g with
   |rt st=>exact b a _ d f h c
   |_=>exact c.elim
  |bk i=>cases g with
   |bk st=>exact b a _ d f h c
   |_=>trivial
  |ct i=>cases g with
   |ct st=>exact b a _ d f h c
   |_=>trivial
  |xc i x=>trivial
def FN{st}(h:Wg T b H c st) i:Wg T b H (c.set i Α)$ st.set i Α:=by
 refine⟨by simpa using h.1,λj d q=>?_⟩;rw[je]at q;by_cases a:i=j
 ·subst a;rw[ka rfl]at q;split at q<;>cases q
 ·rw[ua a]at q;obtain⟨v,e,f⟩:=h.2 j d q
  simp_all
def ķ{D}(b:Xb T EN (xn T) k H (o.bind$ GT i)$ io X D):Xb T EN (xn T) k H o$ io (Cx.Hu X e) ⟨λst H=>D.nx (st.set i Α) H,D.rt,λst H=>D.bk (st.set i Α) H,λst H=>D.ct (st.set i Α) H⟩:=by
 cases o with
 |Fb=>exact b
 |ex x σ=>exact b
 |ok l σ=>
  intro a g d f h c;cases l with
  |nx j=>cases g with
   |nx st=>exact b a (Ϻ _) d f h$ FN c i
   |_=>exact c.elim
  |rt j=>cases g with
   |rt st=>exact b a _ d f h c
   |_=>trivial
  |bk j=>cases g with
   |bk st=>exact b a (.bk _) d f h$ FN c i
   |_=>trivial
  |ct j=>cases g with
   |ct st=>exact b a (.ct _) d f h$ FN c i
   |_=>trivial
  |xc j x=>trivial
def UY{st}(I:db X a st H s)(ϋ:X.N.Nodup)(R:X.N[i]?=BD n)(hl:X.env.scope.names.lookup n=BD .local)(T:s.heap.Ns X.env.locals m)(C:h'.Ns X.env.locals λy=>if y=n then w else m y)(d:gd X.env.locals s.heap h'):db X a (st.set i Α) H { s with heap:=h',toks:=t }:=by
 have f:∀ b o,X.s₀.heap.get? b=BD o->b≠X.env.locals:=λb o e=>Ba$ La (za e) I.ok.above;obtain⟨E,B,h⟩:=I.loc;have K:E=m:=by
  obtain⟨o,es,ep,ho,hd,hk,hf⟩:=B;obtain⟨F,M,L,U,P,S,Q⟩:=T;funext y
  simp_all
 subst K;refine⟨I.ok,I.os,I.bare,⟨λb o e n x l=>(d.2 b$ f b o e).trans$ I.base.keep b o e n x l,λb o e n x l=>?_,I.base.free,λb o e l=>?_,I.base.Bj,I.base.Uh,I.base.cj⟩,⟨_,C,λj y v D g J=>?_⟩,λy c e=>?_,I.free,I.Qf,λp V=>?_,tN I.Lc λb o u e q=>?_,by simpa using I.len⟩
 ·obtain⟨sl,q⟩:=I.base.slot b o e n x l;exact⟨sl,(d.2 b$ f b o e).trans q⟩
 ·obtain⟨F,q⟩:=I.base.there b o e l;exact⟨F,(d.2 b$ f b o e).trans q⟩
 ·rw[je]at g;by_cases A:i=j
  ·subst A;rw[ka rfl]at g;split at g<;>cases g
  ·rw[ua A]at g;obtain⟨u,r,lk⟩:=h j y v D g J;refine⟨u,r,?_⟩;have W:y≠n:=λz=>A$ cK ϋ R$ z ▸ D;rcases lk with⟨k,q⟩|⟨k,c,q,z⟩
   ·exact ϑ ⟨k,by show (if y=n then w else E y)=BD u;rw[ua W];exact q⟩
   ·exact ϖ ⟨k,c,q,z.sameBut d$ I.YB y c q⟩
 ·obtain⟨v,z⟩:=I.cell y c e;exact⟨v,z.sameBut d$ I.YB y c e⟩
 ·obtain⟨ό,ϊ,G,q4⟩:=I.pin p V;exact⟨(d.2 p.1 G).trans ό,ϊ,G,q4⟩
 ·exact(d.2 b λz=>by rw[z,I.free]at e;cases e).trans q
set_option tactic.hygienic true in
def W9{D}{st}{K}(h:Cv T X a0 hs)(hE:Wg T K H ρ st)(hr:vd T K H σ)(d:Xb T EN (xn T) K H (Rs ρ x hs σ)$ io X D) :
  ∀ s,gp X c st H s l (T.cv x) (fC x.cls)->wpAny (model X.prog X.w) X.A (handleBy (Mb l) X.env a0) (SP X c D) X.xe s:=by
 induction h with
 |nil=>exact d.elim
 |@cons y np pos cv ϋ F t g r hs hg hd hm ht hb C ih=>
  intro s L;apply b_;intro z_;have I:=L.inv;obtain⟨_,⟨o,ho,hc⟩,_⟩:=L.obj;apply z_;refine Dk (nj$ aG (qy I) hg hd hm ?_) (by intro q;cases q);unfold Rs at d;dsimp only at d;cases B:t x.cls with
  |none=>rw[B]at d;exact d.elim
  |some b=>
   rw[B]at d;have ό:W.Looks (model X.prog X.w) s.heap (kn$ Mb l)$ T.cv x:=by rw[<-hc];exact(W.Looks.ld ho).andThen .now
   refine(W.exm_one I.gi ό$ ht x.cls b B).here ?_;cases b with
   |false=>exact ih d s L
   |true=>
    exact Qt (L.next λs' U=>(dc (hb (Mb l) c s' st H D (qy U.inv) ⟨K,ρ,σ,hE,hr,sP d⟩) (λf s2 q=>cX I.ok q) λ_ _ z=>z.elim))
 |@Kw y z np nq tp pos k cv cw ϋ F t g r hs hg hd hm a6 a3 a7 ht hb C ih=>
  intro s L;have I:=L.inv;obtain⟨_,⟨o,ho,hc⟩,_⟩:=L.obj;refine Dk (nj$ wpAny_Tuple$ nE$ aG (qy I) hg hd hm$ nE$ aG (qy I) a6 a3 a7$ wpAny_items_nil ⟨by size_fits,?_⟩) (by intro q;cases q);unfold Rs at d;dsimp only at d;have kp:∀ q o,s.heap.get? q=BD o->(s.heap.push { cls:=Jh "tuple",data:=Ϧ [cv,cw].toArray }).get? q=BD o:=λ_ _ z=>ja _ z;cases B:t x.cls with
  |none=>rw[B]at d;exact d.elim
  |some b=>
   rw[B]at d;have ό:W.Looks (model X.prog X.w) s.heap (kn$ Mb l)$ T.cv x:=by rw[<-hc];exact(W.Looks.ld ho).andThen .now
   refine(W.exm_tup2 (I.gi.keeps kp) (ό.keeps kp) (Fa s.heap rfl)$ ht x.cls b B).here ?_;cases b with
   |false=>exact ih d _$ L.keep kp
   |true=>
    refine Qt ((L.keep kp).next λs' U=>?_);exact dc (hb (Mb l) c s' st H D (qy U.inv) ⟨K,ρ,σ,hE,hr,sP d⟩) (λf s2 q=>cX I.ok q) λ_ _ z=>z.elim
 |@Kx y n i np pos cv ϋ F t g r hs hg hd hm ht hN hi hl hb C ih=>
  intro s L;have I:=L.inv;obtain⟨_,⟨o,ho,hc⟩,_⟩:=L.obj;refine Dk (nj$ aG (qy I) hg hd hm ?_) (by intro q;cases q);unfold Rs at d;dsimp only at d;cases B:t x.cls with
  |none=>rw[B]at d;exact d.elim
  |some b=>
   rw[B]at d;have ό:W.Looks (model X.prog X.w) s.heap (kn$ Mb l)$ T.cv x:=by rw[<-hc];exact(W.Looks.ld ho).andThen .now
   refine(W.exm_one I.gi ό$ ht x.cls b B).here ?_;cases b with
   |false=>exact ih d s L
   |true=>
    refine codeAny_handlers_suite_as (L.next λs' U=>?_);obtain⟨dd,H1,I1,a5,a4,G,b0⟩:=gp.nD U;have E:∀ b,b∈K->∃ u,H b=BD u:=λb z=>by obtain⟨u,M,_⟩:=hr.mem z;exact⟨u,M⟩
    have R:Ld K H K H1:=⟨⟨[],by simp⟩,λp xs e=>G _ _ e,λp o u e=>G _ _ e,λp o e n=>⟨⟨o,G _ _ e,ϑ rfl⟩,n⟩⟩
    have out:l ∉ K:=λz=>by obtain⟨u,M⟩:=E _ z;rw[U.obj.1]at M;cases M
    have rp:Oa T K H1 (.Gq x.cls)$ ϗ l:=by
     refine⟨l,dd,rfl,out,a5,λn q=>?_⟩;obtain⟨dN,z1,z2,z3⟩:=a4 n q;exact⟨dN,z1,λz=>(by obtain⟨u,M⟩:=E _ z;rw[z2]at M;cases M),z3⟩
    refine cH (X:=Cx.Hu X$ Mb l) (v:=ϗ l) (qy I1) hN hi (ϑ hl) rfl (λs2 I2=>?_)$ ϖ hl;refine dc (hb (Mb l) c s2 _ _ _ I2 ⟨K,ρ.set i$ BD$ .Gq x.cls,σ,(hE.mono R).set i rp,hr.keep R (λa ha=>by obtain⟨u,M⟩:=E a ha;rw[G _ _ M,M])$ hr.tb.grow G,ķ$ Xb.mono R d⟩) (λf s3 q=>?_) λ_ _ z=>z.elim;have ϊ:(X.env.scope.kind == .class || (X.env.scope.kind == .module && X.env.locals != X.env.globals))=İ:=by rw[I.ok.kind];rfl
    have go:∀ {j:St} {P:Hp},db (Cx.Hu X$ Mb l) c j P s3->(∀ V,db X c (j.set i Α) P V->SP X c D f V)->wpAny (model X.prog X.w) X.A (do bindName X.env n Ic;unbindBehindTheSuite X.env n pos) (λ_ a2=>SP X c D f a2) X.xe s3:=fun {j P} N k=>by
     have J:=xD I.ok N;obtain⟨m,a1,_⟩:=id J.loc;exact wpAny_nameGoes_keeps hl a1 ϊ λh4 v4 a8 a9=>k _$ UY J hN hi hl a1 a8 a9
    cases f with
    |next=>obtain⟨j,P,N,S⟩:=q;exact go N λV Q=>⟨_,_,Q,S⟩
    |brk=>obtain⟨j,P,N,S⟩:=q;exact go N λV Q=>⟨_,_,Q,S⟩
    |cont=>obtain⟨j,P,N,S⟩:=q;exact go N λV Q=>⟨_,_,Q,S⟩
    |ret u=>obtain⟨v,j,P,N,r3,S⟩:=q;exact go N λV Q=>⟨v,_,_,Q,r3,S⟩
def GS{K}(B:X.stack=X.env::X.outer)(ό:X.env.frame=BD X.env.locals)
  (W:∀ b N,gn (model X.prog X.w) X.A X.env N->dk T (Cx.wG X b N) d g) (ϊ:Cv T X (h::l) K):FS T X (.Try d (h::l) [] [] C)$ GI g K:=by
 rintro b s o H D I ⟨ϋ,j,G,V,hr,hp⟩;refine wpAny_Try_except (dc (W b _ zaD [] s o H D (t2 I)
  ⟨ϋ,j,G,V,hr,?_⟩) (λf s1 q=>?_) λM M z=>z)
 ·have a:Xb T EN _ ϋ H ((g j G).bind _) _:=hp;cases v:g j G with
  |Fb=>rw[v]at a;exact a
  |ex x J=>rw[v]at a;exact a
  |ok U J=>
   rw[v]at a;intro c k r R n i;have m:=a.mono R;cases U with
   |nx j=>cases k with
    |nx o=>exact m c _ r (ϰ _ _) n i
    |_=>exact i.elim
   |rt j=>cases k with
    |rt o=>exact m c _ r (ϰ _ _) n i
    |_=>exact i.elim
   |bk j=>cases k with
    |bk o=>exact m c _ r (ϰ _ _) n i
    |_=>trivial
   |ct j=>cases k with
    |ct o=>exact m c _ r (ϰ _ _) n i
    |_=>trivial
   |xc a1 x=>cases k with
    |xc a0 cls fd=>
     obtain⟨y,rfl,rfl⟩:=i;exact⟨λp0 H0 s0 e s' P F=>(zxq (NC P) B ό F (Q:=λe p=>wpAny _ X.A _ _ X.xe p) λea E S L=>by subst S;exact W9 ϊ y n m E L)⟩
    |_=>trivial
 ·have t:=C5 q;cases f with
  |next=>exact Si t
  |brk=>exact t
  |cont=>exact t
  |ret u=>exact t
set_option tactic.hygienic true in
def Š(h:FS T X r$ Ye i f):FS T X r$ Ye i$ rj f:=by
 rintro p s st H D I ⟨t,y,c,F,u,Q⟩;refine h p s st H D I ⟨t,y,c,F,u,?_⟩;have a:Xb T EN _ t H (xs y (zd _) _ c) _:=Q;show Xb T EN _ t H (xs y _ _ c) _;unfold xs zd at a;unfold xs;cases e:f y c with
 |Fb=>rw[e]at a;exact a
 |ex x g=>
  rw[e]at a;unfold Vf at a;dsimp only at a ⊢;by_cases k:g.take c.length=c
  ·rw[ka k]at a;intro L C z m w q;cases C with
   |xc J S P=>
    obtain⟨G,A⟩:=vd.down u w m k;obtain⟨ϋ,R⟩:=q;refine a t _ z A G ⟨⟨ϋ.1,λj d b=>?_⟩,R⟩;obtain⟨v,n,o⟩:=ϋ.2 j d b;obtain⟨K,_,E⟩:=F.2 j d b;exact⟨v,n,Oa.down m.pre d K v E o⟩
   |_=>exact q.elim
  ·rw[ua k]at a;exact a.elim
 |ok d g=>
  rw[e]at a;unfold Vf at a;dsimp only at a ⊢;by_cases k:g.take c.length=c
  ·rw[ka k]at a;cases B:fz c.length g 6 d with
   |none=>rw[B]at a;exact a.elim
   |some d'=>
    rw[B]at a;intro L C z m w q;cases C with
    |nx J=>
     obtain⟨G,A⟩:=vd.down u w m k;have l:=q;refine a t _ z A G ⟨by simpa using l.1,λj x b=>?_⟩;rw[je]at b;by_cases N:i=j
     ·subst N;rw[ka rfl]at b;split at b
      ·rename_i U
       cases b;obtain⟨v,n,o⟩:=l.2 i d ⋯;exact⟨v,n,iW m.pre w 6 d d' v (by rw[u.len];exact B) o⟩
      ·cases b
     ·rw[ua N]at b;obtain⟨v,n,o⟩:=l.2 j x ⋯;obtain⟨K,_,E⟩:=F.2 j x b;exact⟨v,n,Oa.down m.pre x K v E o⟩
    |_=>exact q.elim
  ·rw[ua k]at a;exact a.elim
noncomputable def UA:B'->Option (List Bool)
 |[]=>BD []
 | ϒ b::r=>(UA r).map (b::·)
 |_::_=>Α
noncomputable def cr:B'->Option (gV)
 |[]=>BD []
 | Z b::r=>(cr r).map (b::·)
 |_::_=>Α
theorem VP{T:Tb}{i:b'}{H:Hp}:∀ {c:B'} {a:lv} {bs:List Bool},ub T i H c a->UA c=BD bs->a=bs.map Ϭ
 |[],a,bs,r,h=>by cases h;rw[ub]at r;exact r
 |d::c,a,bs,r,h=>by
  obtain⟨v,w,rfl,e,g⟩:=r;cases d with
  |bl b=>
   obtain⟨j,f,rfl⟩:=Ga.mp h;rw[Oa]at e;subst e;rw[VP g f];rfl
  |_=>cases h
theorem fD{T:Tb}{i:b'}{H:Hp}:∀ {c:B'} {a:lv} {bs:gV},ub T i H c a->cr c=BD bs->a=bs.map Ϣ
 |[],a,bs,r,h=>by cases h;rw[ub]at r;exact r
 |d::c,a,bs,r,h=>by
  obtain⟨v,w,rfl,e,g⟩:=r;cases d with
  |int b=>
   obtain⟨j,f,rfl⟩:=Ga.mp h;rw[Oa]at e;subst e;rw[fD g f];rfl
  |_=>cases h
def UF(xs:B'):M D:=λa=>match xs with
 |[x]=>(match (pi a x).bind UA with
  |some bs=>Y (ϒ$ bs.all id) a
  |none=>Ϙ)
 |_=>Ϙ
def Oy(xs:B'):M D:=λa=>match xs with
 |[x]=>(match (pi a x).bind cr with
  |some bs=>Y (Z bs.sum) a
  |none=>Ϙ)
 |_=>Ϙ
def JV(K:ϕ)(g:List Bool->Bool):lv->Hp->VK->Prop:=λxs H Q=>∃ p a,xs=[ϗ p]/\(Ie K H p (a.map Ϭ)\/Ig K H p (a.map Ϭ))/\Q (Ϭ$ g a) H
def QX(K:ϕ):lv->Hp->VK->Prop:=λxs H Q=>∃ (p:Addr) (bs:gV),xs=[ϗ p]/\(Ie K H p (bs.map Ϣ)\/Ig K H p (bs.map Ϣ))/\Q (Ϣ bs.sum) H
theorem xU:∀ {a:List Bool} {us:dl},ke (a.map Ϭ) us->us=a.map Dg
 |[],us,h=>by cases h;rfl
 |b::a,us,h=>by
  cases h with
  |cons r t=>cases r;rw[xU t];rfl
theorem wQ{c:Type}(g:c->Bool)(d:c):∀ (a:List c),(List.range a.length).all (λi=>g$ a.getD i d)=a.all g
 |[]=>rfl
 |b::a=>by
  rw[lb,Yo,Ee,HB,Ee];rw[<-wQ g d a];congr 1
def y8(d:List Bool):TruthOf c w A (λi v=>(d.map Dg).toArray[i]?=BD v) (λi=>d.getD i İ):=by
 intro i v s Q E f g;simp only[oi,Ja]at f;cases e:d[i]? with
 |none=>simp_all
 |some b=>
  rw[e]at f;cases f;have a:Q (d.getD i İ) s:=g;rw[Dm,e]at a;exact jd a
def mV{s:Shared}{a:Heap}(k:∀ b u,b ∉ [s.heap.objs.size]->(s.heap.push o).get? b=BD u->a.get? b=BD u):∀ b u,s.heap.get? b=BD u->a.get? b=BD u:=λb u e=>
 k b u (λz=>absurd (za e) ⋯)$ ja _ e
def RX{st}(q:X.A.handled=Α)(I:db X d st H s)(g:Ie X.K H p m\/Ig X.K H p m)
  (h:∀ a It n St s2,ke m a->Walks X.prog X.w X.A.in1 It n [It] a.toArray.size (λi v=>a.toArray[i]?=BD v) St->St 0 s2.heap->(∀ b∈n,b<s2.heap.objs.size)->
   (∀ h' l,(∀ b o,b ∉ [It]->s2.heap.get? b=BD o->h'.get? b=BD o)->db X d st H { s2 with heap:=h',toks:=l })->Q (Mb It) s2):wpAny (model X.prog X.w) X.A.in1 (pyIter$ Mb p) Q E s:=by
 rcases g with g|g
 ·obtain⟨a,k,pl,r⟩:=I.list g;have c:p<s.heap.objs.size:=by obtain⟨_,e,_⟩:=pl.isList;exact za e
  refine Oh pl.isList$ h a s.heap.objs.size [s.heap.objs.size,p] _ _ k (oj (A:=X.A.in1) q _ p (Ba c) a.toArray) ⟨⟨_,Fa _ rfl,rfl,rfl⟩,pl.isList.push _⟩ (λb f=>?_) (λh' l j=>I.kept$ mV j);rw[Yc];simp at f;rcases f with rfl|rfl
  ·exact Sb _
  ·exact Ub c
 ·obtain⟨a,k,pl,r⟩:=I.tuple g;have c:=pl.lt;refine Gz (pl)$ h a s.heap.objs.size [s.heap.objs.size,p] _ _ k (Walks.tuple (A:=X.A.in1) q _ p (Ba c) a.toArray) ⟨⟨_,Fa _ rfl,rfl,rfl⟩,nJ (pl) _⟩ (λb f=>?_) (λh' l j=>I.kept$ mV j);rw[Yc];simp at f;rcases f with rfl|rfl
  ·exact Sb _
  ·exact Ub c
def ţ(f:X.Wb=G6):Xl X (ϣ "all") (JV X.K λa=>a.all id):=by
 rintro b s st H xs o Q I r ⟨p,a,rfl,h,q⟩;obtain⟨u,rfl,rfl⟩:=bq r;refine call_all_walk (RX (I.ok.hd f) I h λj It m St s2 k W d n e=>?_);have c:=xU k;subst c;refine⟨_,_,_,_,_,_,λi=>a.getD i İ,rfl,W,d,y8 a,λh' l g=>⟨Ϭ _,H,e h' l g,?_,q⟩⟩;rw[Va,Ia];exact Cb Dg$ wQ id İ a
theorem PQ:∀ (a:gV) (n:Nat),n<=a.length->preSum (λi=>a.getD i 0) n=(a.take n).sum
 |a,0,_=>by simp[preSum]
 |a,n+1,h=>by
  rw[preSum,PQ a n ⋯,List.take_succ_eq_append_getElem ⋯,List.sum_append];simp[show n<a.length by lia]
def M7(n:X.Wb=G6):Xl X (ϣ "sum")$ QX X.K:=by
 rintro g s st H xs B Q I r ⟨p,a,rfl,y,q⟩;obtain⟨u,rfl,rfl⟩:=bq r;refine call_sum_walkG (RX (I.ok.hd n) I y λd It A St s2 h W k o m=>⟨_,_,_,_,_,_,λi=>a.getD i 0,rfl,W,k,o,λi v f=>?_,λh' z t' w=>⟨Ϣ a.sum,H,m h' z w,⟨t',?_⟩,q⟩⟩)
 ·simp at f;obtain⟨x,c,l⟩:=cJ h f;rw[Ja]at c;cases e:a[i]? with
  |none=>simp_all
  |some b=>
   rw[e]at c;cases c;obtain⟨t,rfl⟩:=l
   simp_all
 ·have j:d.toArray.size=a.length:=by rw[Va,<-h.length,Ia]
  rw[j,PQ a _$ ya _,yc]
def LQ{g:B'->Option c}{a:c}(h:(pi d x).bind g=BD a):∃ b,pi d x=BD b/\g b=BD a:=pf.mp h
def A8(j:T.K=X.K):No T (JV X.K λa=>a.all id) UF:=by
 intro E o H m xs l Q r p h
 match xs with
 |[]=>trivial
 |[x]=>
  obtain⟨v,w,rfl,k,d⟩:=p;rw[ub]at d;subst d;unfold UF at h;cases e:(pi m x).bind UA with
  |none=>simp only[e]at h;exact h.elim
  |some a=>
   simp only[e]at h;obtain⟨n,f,g⟩:=LQ e;obtain⟨b,l,rfl,i,c⟩:=Yx r k f;rw[j,VP i g]at c;exact⟨b,a,rfl,c,Xb.here h r (by rw[Oa])⟩
 |_::_::_=>exact h.elim
def ą(i:T.K=X.K):No T (QX X.K) Oy:=by
 intro E n H l xs k Q r p h
 match xs with
 |[]=>trivial
 |[x]=>
  obtain⟨v,w,rfl,j,c⟩:=p;rw[ub]at c;subst c;unfold Oy at h;cases e:(pi l x).bind cr with
  |none=>simp[e]at h;exact h.elim
  |some bs=>
   simp[e]at h;obtain⟨m,d,f⟩:=LQ e;obtain⟨b,k,rfl,g,a⟩:=Yx r j d;rw[i,fD g f]at a;exact⟨b,bs,rfl,a,Xb.here h r (by rw[Oa])⟩
 |_::_::_=>trivial
noncomputable def EG(xs:B'):M D:=match xs with
 |[Z i,Z j]=>ret (Z$ max i j)
 |_=>Fb
noncomputable def wA(xs:B'):M D:=match xs with
 |[Z i,Z j]=>ret (Z$ min i j)
 |_=>Fb
def bV(p:ub T a H [x,y] b):∃ v u,b=[v,u]/\Oa T a H x v/\Oa T a H y u:=by
 obtain⟨v,w,rfl,c,d⟩:=p;obtain⟨u,f,rfl,e,p4⟩:=d;rw[ub]at p4;subst p4;exact⟨v,u,rfl,c,e⟩
set_option tactic.hygienic true in
def ψ:No T (λxs H Q=>∃ i j,xs=[Ϣ i,Ϣ j]/\Q (Ϣ$ if j > i then j else i) H) EG:=by
 intro E d H f xs c Q r p h;unfold EG at h;split at h
 ·rename_i i j
  obtain⟨v,u,rfl,a,b⟩:=bV p;refine⟨i,j,by rw[En a,En b],?_⟩;have e:(if j > i then j else i)=max i j:=by rw[Int.max_def];split<;>split<;>lia
  rw[e];exact Xb.here h r (by rw[Oa])
 ·exact h.elim
set_option tactic.hygienic true in
def jY:No T (λxs H Q=>∃ i j,xs=[Ϣ i,Ϣ j]/\Q (Ϣ$ if j<i then j else i) H) wA:=by
 intro E d H f xs c Q r p h;unfold wA at h;split at h
 ·rename_i i j
  obtain⟨v,u,rfl,a,b⟩:=bV p;refine⟨i,j,by rw[En a,En b],?_⟩;have e:(if j<i then j else i)=min i j:=by rw[Int.min_def];split<;>split<;>lia
  rw[e];exact Xb.here h r (by rw[Oa])
 ·exact h.elim
noncomputable def Jk(a:gV):gV:=a.foldl Oz []
def iN a:Af (λi=>a.getD i 0) a.length=Jk a:=by
 unfold Af Jk;congr 1;apply Bf;intro i;by_cases h:i<a.length<;>simp[h]
def kG(x:D):M D:=λa=>match (uf a x).bind cr with
 |some ns=>if ns.length<=lg then Y (Z (Jk ns).length) a else Ϙ
 |none=>Ϙ
def Ŝ(K:ϕ):lv->Hp->VK->Prop:=λxs H Q=>∃ (p:Addr) (ns:gV),xs=[ϗ p]/\Ie K H p (ns.map Ϣ)/\ns.length<=lg/\∀ l,H l=Α->Q (ϗ l) (Yb H l (.set (λk=>(Jk ns).any (·== k)) (Jk ns).length))
def sX(h:n<=lg):n+1<scanBound:=Oj (Yv h) ⋯
def P6(i:X.Wb=G6):Xl X (Jh "set")$ Ŝ X.K:=by
 rintro g s n H xs v Q I r ⟨p,f,rfl,l,k,q⟩;obtain⟨u,rfl,rfl⟩:=bq r;obtain⟨a,h,pl,m⟩:=I.list l;have c:a.length=f.length:=by rw[<-h.length,Ia]
 refine call_set_list (I.ok.hd i) pl.isList (TM h) (by rw[Va,c];exact sX k) λh' t d j=>?_;rw[show a.toArray.size=f.length by rw[Va,c],iN]at d;refine⟨ϗ s.heap.objs.size,_,I.laid (λb o e=>j b o (za e) e) (ya _) ?_,rfl,q _$ I.Lc.fresh$ ya _⟩;exact d
def w1 : Xl X (ϣ "len") (λxs H Q => ∃ (p : Addr) (S : Int -> Bool) (n : Nat), xs = [ϗ p] /\ H p = BD (.set S n) /\ Q (Ϣ n) H) := by
  rintro a s st H xs v Q I r ⟨p, S, n, rfl, g, q⟩;obtain ⟨u, rfl, h⟩ := bq r;cases h;obtain ⟨o, j, i, t, b, c, d, k, l, m, e, f⟩ := (I.Lc p _ g)
  have hb:scanBound<=2 ^ 62:=by decide
  refine call_len_set b c d e ⋯ ⟨.int n, H, I.tok _, ⟨_, by rw [f]⟩, q⟩
def M9(hK:T.K=X.K)(J:X.Wb=G6)(N:Gl X "len")(ϋ:X.mg "len" = Α)(n:Gl X "set")(q:X.mg "set" = Α)(L:FE T X e f)
  (y:va [e] X.env=(İ,Lb e X.env)::va [] X.env:=by rfl) (r:(pc b$ va [] X.env).any (·.1)=İ:=by rfl)
  (i:va [ϟ (ϛ "set" t) [e] [] b] X.env=(İ,Lb (ϟ (ϛ "set" t) [e] [] b) X.env)::va [] X.env:=by rfl) (g:(pc k$ va [] X.env).any (·.1)=İ:=by rfl) :
  FE T X (ϟ (ϛ "len" p) [ϟ (ϛ "set" t) [e] [] b] [] k)$ Re kG f:=by
 intro j s U H Q I h;refine VG w1 N ϋ Zv (Oq (jK (P6 J) n q rfl (Oq L ku y) ⋯ ⋯ y r) ku i) ⋯ ⋯ i g j s U H Q I ?_;obtain⟨V,W,ό,G,R,P⟩:=h;refine⟨V,W,ό,G,R,P.bind λd w u v ϊ D e1 z S c=>?_⟩;unfold kG at c;cases m:(uf w d).bind cr with
 |none=>rw[m]at c;exact c.elim
 |some ns=>
  rw[m]at c;dsimp only at c;by_cases o:ns.length<=lg
  ·rw[ka o]at c;obtain⟨ys,A,B⟩:=pf.mp m;obtain⟨a,vs,rfl,E,F⟩:=z.ls S A;have C:=fD F B;subst C;exact⟨a,ns,rfl,Ie.of E,o,λl x=>⟨l,_,_,rfl,Lf,c u _ _ (Ij x) (z.fresh x) (by rw[Oa])⟩⟩
  ·rw[ua o]at c;exact c.elim
def Ss(xs:B')(lo a:Option Int):B':=(xs.drop$ HT.yf xs.length 0 lo).take$ HT.yf xs.length xs.length a - HT.yf xs.length 0 lo
def è{xs}{lo a}(h:HT.yf xs.length 0 lo=0/\HT.yf xs.length xs.length a=xs.length):Ss xs lo a=xs:=by
 unfold Ss;rw[h.1,h.2];simp
def BN{xs}(r:ub T c H xs b) lo a:ub T c H (Ss xs lo a)$ Tz b lo a:=by
 unfold Ss Tz;rw[r.length];exact ub.take _$ ub.drop _ r
end L4
namespace HT
open Spec
variable{prog:Ca}{w:Ua}{A:Na}{E:Value->Shared->Prop}{s:Shared}
def gj{lo d}(b:IsTup s.heap t a)(j:s.heap.IsSliceOf i k l Ic)(pl:Uj k lo)(p:Uj l d)
  (v:yf a.size 0 lo=0/\yf a.size a.size d=a.size) (h:Q (Mb t) s):wpAny (model prog w) A (Qh (Mb t)$ Mb i) Q E s:=by
 obtain⟨n,g,f,m⟩:=id j;have e:s.TypeIs (Mb i) "slice":=⟨n,g,f⟩
 unfold Qh;try with_reducible refine gc ?_
 refine aa$ EB b.typeIs ⋯ ?_;refine aa$ Pd b.typeIs Bc
  (Mc Bc b.typeIs Ax ?_$ Dz _ _)
 show wpAny _ _ (Tf _ >>= _) _ _ s;refine aa$ rY b$ aa$ Ji e$ aa$ mT j pl p ?_;have c:(((yf a.size 0 lo):Int) == 0 && (1:Int) == 1 && (yf a.size a.size d - yf a.size 0 lo) == a.size)=G6:=by
  simp_all
 show wpAny _ _ (if (((yf a.size 0 lo):Int) == 0 && 1 == 1 && (yf a.size a.size d - yf a.size 0 lo) == a.size)=G6 then _ else _) _ _ s;rw[ka c];apply b_;intro z_;obtain⟨o,r,q,u⟩:=id b;apply z_;refine aa$ aa$ Ji b.typeIs$ ga$ aa$ rl ?_;first
  |exact ga _
  |exact ga _
  |exact aa$ ga$ ga ⟨_,rfl,ga h⟩
end HT
namespace L4
open Spec L2
def wP(K:ϕ):V->Option Int->Option Int->Hp->VK->Prop:=λx lo b H Q=>∃ a xs,x=ϗ a/\Ig K H a xs/\(HT.yf xs.length 0 lo=0/\HT.yf xs.length xs.length b=xs.length)/\Q (ϗ a) H
def GZ:Cu X$ wP X.K:=by
 rintro e s n H x v o p lo j m Q I i f pl h ⟨a,xs,rfl,g,k,q⟩;cases i;obtain⟨b,r,d,l⟩:=I.tuple g;have c:b.toArray.size=xs.length:=by rw[Va];exact r.length.symm
 exact⟨"tuple",_,Bc.lookup,d.typeIs,HT.gj d f pl h ⋯ ⟨ϗ a,H,I,rfl,q⟩⟩
abbrev PF:=Option$ Ev->M D
noncomputable def oN(d:D):M$ Option Int:=match d with
 | Z i=>ret (BD i)
 |_=>Fb
def lz(p:PF):Ev->M (Option Int):=match p with
 |none=>λb=>ret Α
 |some f=>λa=>Rc (f a) oN
def tP(T:Tb)(X:Cx)(f:Ev->M (Option Int)):TO:=λd H Q=>∃ c e g,Wg T c H e d/\vd T c H g/\Xb T (XE X d) (λh h a b=>b=a) c H (f e g) Q
abbrev FO(T:Tb)(X:Cx)(e:Option Qa)(p:PF):Prop:=PO X e$ tP T X$ lz p
theorem η:FO T X Α Α:=by
 rintro a s d H Q I ⟨f,g,h,e,c,b⟩;exact D7 a s d H Q I$ Xb.here b c rfl
def Ŷ(g:FE T X e f):FO T X (BD e)$ BD f:=by
 intro a s n H Q I h;refine ç g a s n H Q I ?_;obtain⟨o,q,r,c,k,j⟩:=h;refine⟨o,q,r,c,k,Xb.bind j λd t p v u x w m l b=>?_⟩;cases d with
 |int i=>exact⟨i,En l,Xb.here b m rfl⟩
 |_=>exact b.elim
def oW(x:D)(lo b:Option Int):M D:=λa=>match x with
 | Ϗ xs=>Y (Ϗ$ Ss xs lo b) a
 | ϯ ns=>Y (ύ$ Ss (ns.map Z) lo b) a
 |x=>(match uf a x with
  |some xs=>Y (ύ$ Ss xs lo b) a
  |none=>Ϙ)
def Au(x:D)(lo:Option Int)(a:Option Int):M D:=oW x lo a
def kM(x:D)(a:M$ Option Int)(lo:Option Int):M D:=Rc a$ Au x lo
def tO(lo a:M$ Option Int)(x:D):M D:=Rc lo$ kM x a
def vF(f:Ev->M D)(lo b:PF):Ev->M D:=λa=>Rc (f a)$ tO (lz lo a)$ lz b a
def RY{lo V}(hK:T.K=X.K)(he:FE T X e f)(hl:FO T X lo pl)(hh:FO T X V W):FE T X (ϥ e (.Slice lo V Α B) C)$ vF f pl W:=by
 intro w s ό H Q I h;refine Q5 (Cu.or kZ$ Cu.or GZ ybd) he hl hh w s ό H Q I ?_;obtain⟨μ,ϋ,σ,z,hr,hp⟩:=h;refine⟨μ,ϋ,σ,z,hr,hp.bind λd P J v H1 l S r1 q1 p1=>⟨J,ϋ,P,z.mono S,r1,p1.bind λl R L g H2 l U r2 q2 B=>⟨L,ϋ,R,(z.mono S).mono U,r2,B.bind λu m N i y l ϊ x q3 c=>?_⟩⟩⟩;have E:=q2;have F:=q3;subst E;subst F;have rd:=Oa.mono ϊ _ _$ Oa.mono U _ _ q1;have b:∀ ys,uf m d=BD ys->Xb T (XE X ό) (Oa T) N y (Y (ύ$ Ss ys g i) m) Q->GV X.K v g i y Q\/wP X.K v g i y Q\/TU X.K v g i y Q:=λys r p4=>by
  obtain⟨a,j,rfl,o,k⟩:=x.ls rd r;exact ϖ$ ϖ ⟨a,j,rfl,Ie.of o,λp t=>KH p4 x (BN k g i) t⟩
 cases d with
 |Sa xs=>
  have G:=rd;obtain⟨p,j,rfl,o,k⟩:=rd;by_cases A:HT.yf j.length 0 g=0/\HT.yf j.length j.length i=j.length
  ·refine ϖ$ ϑ ⟨p,j,rfl,Ig.of o,A,Xb.here c x ?_⟩;rw[è (by rw[k.length];exact A)];exact G
  ·exact ϑ ⟨p,j,rfl,Ig.of o,A,λq t=>OA c x (BN k g i) t⟩
 |ref n=>
  unfold Au oW at c;dsimp only at c;cases r:uf m _ with
  |none=>rw[r]at c;exact c.elim
  |some ys=>rw[r]at c;exact b ys r c
 |ra ys=>exact b ys rfl c
 |Rg ns=>
  obtain⟨p,rfl,o⟩:=rd;have k:=o.seq;rw[hK]at k;exact ϖ$ ϖ ⟨p,_,rfl,k,λp t=>KH c x (BN (jE ns) g i) t⟩
 |_=>exact c.elim
def LJ(K:ϕ)(j:Str->Option Value)(x:Str)(e:Stmt)(g:ac)(i:dl):Prop:=
 ∃ f b,j x=BD (Mb f)/\W.keepIn K (Mb f)=G6/\(∃ (k:Value) (l:Option Addr) (h kV c m:Value) (an:Option Addr) (a ct:Value) (d:Array (Option Value)),
  b=Ϯ x x (Qk e) (uj e) (zf e) h kV c m an a ct/\K.lookup f=BD ⟨k,l,.func b,d⟩/\W.codeIn K a x=G6)/\fq K b g []/\fq K b g i
def Nr(T:Tb)(P:Ca)(w:Ua)(c:Str->Option Value)(a:Heap)(k:Nat)(x:Str)(ps:ac)(d:dl)(e:B'->M D):Prop:=
 ∃ f b,c x=BD (Mb f)/\W.keepIn T.K (Mb f)=G6/\fq T.K b ps []/\fq T.K b ps d/\Sg P w T.K c a (qk P w) k f b ps (Mm T ps.length e)
section
def Ļ(h:Nr T X.prog X.w X.mg X.base k x ps n g)(o:T.K=X.K)(u:Nd k X.A)(s:Gl X x)
  (q:FA T X (e::a) i) (c:(x == ("__debug__" : Str))=İ:=by decide) (r:va (e::a) X.env=(İ,Lb e X.env)::va a X.env:=by rfl) (d:(pc b$ va a X.env).any (·.1)=İ:=by rfl) :
  FE T X (ϟ (ϛ x p) (e::a) [] b)$ og ps.length g [] i:=by
 obtain⟨f,v,t,m,l,_,j⟩:=h;rw[o]at m j l;exact AK j u s t m l Ϡ (λy y=>ub.nil) q c r d
def Ů(h:Nr T X.prog X.w X.mg X.base k x ps l m)(s:T.K=X.K)(z:Nd k X.A)(v:Gl X x)(B:ke b l)(i:∀ C H,ub T C H a b)
  (t:FA T X (e::c) n) (g:(x == ("__debug__" : Str))=İ:=by decide) (u:va (e::c) X.env=(İ,Lb e X.env)::va c X.env:=by rfl) (j:(pc d$ va c X.env).any (·.1)=İ:=by rfl) :
  FE T X (ϟ (ϛ x p) (e::c) [] d)$ og ps.length m a n:=by
 obtain⟨f,E,y,r,_,q,o⟩:=h;rw[s]at r o q;exact AK o z v y r q B i t g u j
def é:ke [V.ic] [Ic]:=Ϟ rfl Ϡ
def bZ a H:ub T a H [Ϛ] [V.ic]:=ub.cons (by rw[Oa]) ub.nil
variable{P:Ca}{w:Ua}{K:ϕ}{mg:Str->Option Value}{base:Heap}{ca:Nat->Addr}{tx:Tx}
def Y4{st}(h:LJ K mg x st ps d)(S:Oc N ps$ zf st)
  (l:∀ f a A b s H E,Nd k (A.deeper$ ag x (zf st) s.heap.objs.size f a)->dk ⟨K,ca,tx⟩ (mo (qk P w) P w K mg base N x (zf st) f a A b s H E) (uj st) g) :
  Nr ⟨K,ca,tx⟩ P w mg base (k+1) x ps d$ Vg N.length g:=by
 obtain⟨f,r,n,m,⟨t,u,q,kV,j,v,p,a,ct,o,rfl,lk,c⟩,e,i⟩:=h;exact⟨f,_,n,m,e,i,jB lk c S$ l f a⟩
def Nr.zd{k}{x}{ps}{a}{b}(h:Nr T P w mg base k x ps a b):Nr T P w mg base k x ps a (λc=>L4.zd$ b c):=by
 obtain⟨f,d,e,g,i,j,l⟩:=h;exact⟨f,d,e,g,i,j,LN l⟩
def B7{st}{B i w}{kV e j b ct}(X:K.In h)(G:h.Ns mainGlobals mg)
  (z:∀ t kV e j i b ct s o n g,s.heap.get? t=BD o->o.data=Ϧ m.toArray n->((g++[]).length=ps.length->Oe s (Ϯ x x (Qk st) (uj st) (zf st) (Mb t) kV e j i b ct) ⟨g,[]⟩ (ps.zip$ g++[]))/\
   ((g++m).length=ps.length->Oe s (Ϯ x x (Qk st) (uj st) (zf st) (Mb t) kV e j i b ct) ⟨g,[]⟩ (ps.zip$ g++m)))
  (a:W.nsIn K mainGlobals x=BD (BD$ Mb f)) (l:K.lookup f=BD ⟨A,B,.func$ Ϯ x x (Qk st) (uj st) (zf st) (Mb t) kV e j i b ct,p⟩)
  (c:W.codeIn K b x=G6) (k:W.keepIn K (Mb f)=G6) (d:K.lookup t=BD ⟨v,w,Ϧ m.toArray u,y⟩):LJ K mg x st ps m:=
 ⟨f,_,W.mg_of X G a,k,⟨A,B,_,kV,e,j,i,b,ct,p,rfl,l,c⟩,λs g q r=>(z t kV e j i b ct s _ u g (q _ _ d) rfl).1 r,λs g q r=>(z t kV e j i b ct s _ u g (q _ _ d) rfl).2 r⟩
end
noncomputable def sx(l:List$ Nat × Bool):Nat->Option Bool:=λc=>l.lookup c
abbrev AX:dl:=[Jh "ValueError",Jh "Exception",Jh "BaseException",Jh "object"]
def DI(K:ϕ)(a:Nat->Addr)(b:Value)(l:List$ Nat × Bool):Prop:=∀ p∈l,ϵ K (Mb$ a p.1) b=BD p.2
def B6{K}:DI K a b []:=λc h=>nomatch h
def uV{K}(h:ϵ K (Mb$ a c) d=BD b)(r:DI K a d l):DI K a d$ (c,b)::l:=λp e=>by
 rcases Ea.mp e with rfl|e
 ·exact h
 ·exact r p e
theorem QK:∀ {l:List$ Nat × Bool} {c:Nat} {b:Bool},l.lookup c=BD b->(c,b)∈l
 |[],_,_,h=>by simp at h
 |(n,d)::r,c,b,h=>by
  rw[Rb]at h;cases e:c == n with
  |true=>simp_all
  |false=>rw[e]at h;exact ma _$ QK h
def P1{K}(h:DI K a d l):∀ c b,sx l c=BD b->ϵ K (Mb$ a c) d=BD b:=λc b e=>h (c,b)$ QK e
def Ii.ee(h:Ii T P w c a k x ps b):Ii T P w c a k x ps$ L4.ee b:=by rw[vq];exact h
def Nr.ee(h:Nr T P w d a k x ps b c):Nr T P w d a k x ps b$ L4.ee c:=by rw[vq];exact h
section
variable{μ:b'}{H:Hp}{σ:Ha}
noncomputable def bj(σ:Ha):D->Option (Nat × List (Str × D))
 | ϻ c ns ds=>if ns.length=ds.length then BD (c,ns.zip ds)else Α
 | O n=>match σ[n]? with
  |some (ϓ c a)=>BD (c,a)
  |_=>Α
 |_=>Α
theorem rV:∀ {b:ac} {ds:B'} {a:List$ Str × V},a.map (·.1)=b->ub T μ H ds (a.map (·.2))->Mq T μ H (b.zip ds) a
 |[],ds,[],_,h=>by
  cases ds with
  |nil=>exact Ϡ
  |cons d ds=>have:=h.length;simp at this
 |[],ds,f::a,e,_=>by simp at e
 |n::b,ds,[],e,_=>by simp at e
 |n::b,[],f::a,e,h=>by have:=h.length;simp at this
 |n::b,d::ds,f::a,e,h=>by
  simp at e;obtain⟨v,r,c,i,j⟩:=h;simp at c;obtain⟨g,rfl⟩:=c;exact Ϟ ⟨e.1.symm,by rw[g];exact i⟩$ rV e.2 j
def xx(r:vd T μ H σ)(h:Oa T μ H d v)(e:bj σ d=BD (c,k)):∃ a f b,v=ϗ a/\H a=BD (.yb (T.ca c) f b)/\Mq T μ H k b:=by
 cases d with
 |obj m ns ds=>
  unfold bj at e;by_cases l:ns.length=ds.length
  ·simp[l]at e;obtain⟨rfl,rfl⟩:=e;obtain⟨a,f,b,rfl,_,g,i,s⟩:=h;exact⟨a,f,b,rfl,g,rV i s⟩
  ·simp[l]at e
 |ref n=>
  unfold bj at e;dsimp only at e;cases j:σ[n]? with
  |none=>simp_all
  |some o=>
   rw[j]at e;obtain⟨a,rfl,_,q⟩:=r.at h j;cases o with
   |yb m p=>cases e;obtain⟨f,b,g,i⟩:=q;exact⟨a,f,b,rfl,g,i⟩
   |ra _=>cases e
   |Pa _=>cases e
   |Qc _=>cases e
   |nc _=>cases e
 |_=>cases e
theorem Zx{f:Str}:∀ {b:List$ Str × D} {c:List$ Str × V},Mq T μ H b c->(∀ d,b.lookup f=BD d->∃ v,c.lookup f=BD v/\Oa T μ H d v)/\(b.lookup f=Α->c.lookup f=Α)
 |_,_,Ϡ=>⟨λd e=>by simp at e,λp=>rfl⟩
 |(g,x)::b,(o,v)::c,Ϟ ⟨e,h⟩ t=>by
  have i:=e;subst i;obtain⟨j,k⟩:=Zx t;by_cases l:(f == g)=G6
  ·refine⟨λd q=>?_,λq=>?_⟩;all_goals simp_all
  ·have a:(f == g)=İ:=by simpa using l
   refine⟨λd q=>?_,λq=>?_⟩
   ·rw[Rb,a]at q;obtain⟨w,m,n⟩:=j d q;exact⟨w,by rw[Rb,a];exact m,n⟩
   ·rw[Rb,a]at q;rw[Rb,a];exact k q
def qG(T:Tb)(a:h8)(f:Str):Prop:=∀ c,a.contains c=G6->jp T.K (T.ca c)/\Fv T.K (T.ca c) f
noncomputable def Gc(a:h8)(f:Str)(x:D):M D:=λσ=>match bj σ x with
 |some (c,b)=>if a.contains c=G6 then (match b.lookup f with
  |some d=>Y d σ
  |none=>Ϙ)else Ϙ
 |none=>Ϙ
def m3(F:T.K=X.K)(J:qG T k f)(L:FE T X e g)
  (G:Ed e f X.env (Lb e X.env)=Lb e X.env:=by rfl):FE T X (Ϝ e f n)$ Re (Gc k f) g:=by
 intro j s R H Q I h;refine VY L G j s R H Q I ?_;obtain⟨μ,V,σ,E,ϋ,N⟩:=h;refine⟨μ,V,σ,E,ϋ,Xb.bind N λd o U v W D ό t P b=>?_⟩;unfold Gc at b;cases l:bj o d with
 |none=>rw[l]at b;exact b.elim
 |some p=>
  obtain⟨c,x⟩:=p;rw[l]at b;dsimp only at b;by_cases i:k.contains c=G6
  ·rw[ka i]at b;obtain⟨a,u,S,rfl,z,A⟩:=xx t P l;cases m:x.lookup f with
   |none=>rw[m]at b;exact b.elim
   |some y=>
    rw[m]at b;obtain⟨w,B,C⟩:=(Zx A).1 y m;obtain⟨q,r⟩:=J c i;rw[F]at q r;exact⟨a,_,u,S,w,rfl,z,q,r,B,Xb.here b t C⟩
  ·rw[ua i]at b;exact b.elim
noncomputable def Rk(f:Str)(v:D):List (Str × D)->List (Str × D)
 |[]=>[(f,v)]
 |(g,x)::r=>if g=f then (g,v)::r else (g,x)::Rk f v r
theorem CK{f:Str}{d:D}{v:V}(c:Oa T μ H d v):∀ {b:List$ Str × D} {i:List$ Str × V},Mq T μ H b i->Mq T μ H (Rk f d b) (Tl f v i)
 |_,_,Ϡ=>Ϟ ⟨rfl,c⟩ Ϡ
 |(g,x)::b,(k,w)::i,Ϟ ⟨e,h⟩ t=>by
  have j:=e;subst j;unfold Rk Tl;by_cases a:g=f
  ·rw[ka a,ka a];exact Ϟ ⟨rfl,c⟩ t
  ·rw[ua a,ua a];exact Ϟ ⟨rfl,h⟩$ CK c t
def Mq.mono(e:Ld μ H a b)(h:Mq T μ H c d):Mq T a b c d:=Paired.wo h λf f q=>⟨q.1,Oa.mono e _ _ q.2⟩
def Mq.length(h:Mq T μ H a b):a.length=b.length:=Paired.length h
def MA(b:h8)(f:Str)(d x:D):M Unit:=λσ=>match x with
 | O n=>(match σ[n]? with
  |some (ϓ c a)=>if (b.contains c && decide (a.length<1000))=G6 then Y () (σ.set n$ ϓ c$ Rk f d a)else Ϙ
  |_=>Ϙ)
 |_=>Ϙ
def xy(c:Ev)(b:h8)(f:Str)(d x:D):M Fl:=λσ=>match MA b f d x σ with
 | Y _ a=>Y (ϙ c) a
 |_=>Ϙ
def MN(a:Ev)(b:h8)(f:Str)(c:Ev->M D)(d:D):M Fl:=xs a (c a)$ xy a b f d
def jl(b:h8)(f:Str)(d c:Ev->M D):Ev->M Fl:=λa=>xs a (d a)$ MN a b f c
def yf6(U:T.K=X.K)(V:qG T m f)(W:FE T X o C)(hv:FE T X e E)
  (hs:Bg e (BD$ Ϝ o f h) k.line X.env=pure İ:=by rfl):FS T X (.Assign [Ϝ o f h] e k)$ jl m f E C:=by
 intro j s P H D I ϊ;refine ý W hv hs j s P H D I ?_;obtain⟨μ,R,σ,i,hr,ό⟩:=ϊ;refine⟨μ,R,σ,i,hr,ό.xs i λd w u v H1 d q r1 q1 p1=>⟨u,R,w,i.mono q,r1,p1.xs (i.mono q) λx y l vo A d B ϋ q2 b=>?_⟩⟩;unfold xy MA at b;cases x with
 |ref n=>
  dsimp only at b;cases r:y[n]? with
  |none=>rw[r]at b;exact b.elim
  |some ob=>
   rw[r]at b;cases ob with
   |ra _=>exact b.elim
   |Pa _=>exact b.elim
   |Qc _=>exact b.elim
   |nc _=>exact b.elim
   |yb c S=>
    dsimp only at b;by_cases g:(m.contains c && decide (S.length<1000))=G6
    ·apply b_;intro z_;rw[ka g]at b;rw[Ma,Tc]at g;obtain⟨a,rfl,J,p,Q,F,G⟩:=ϋ.at q2 r;have ex:Ld l A l$ Yb A a$ .yb (T.ca c) p$ Tl f v Q:=At (Da J) F (λd z=>by cases z) (λd d z=>by cases z);have t:=ϋ.write (ob:=ϓ c _) J ⟨p,_,Lf,CK (Oa.mono ex _ _$ Oa.mono B _ _ q1)$ Mq.mono ex G⟩;obtain⟨L,N⟩:=V c g.1;rw[U]at L N;apply z_;exact⟨a,_,p,Q,rfl,F,L,N,by rw[<-G.length];exact g.2,b _ (Ϻ P) _ t.1 t.2$ (i.mono q).mono B |>.mono t.1⟩
    ·rw[ua g]at b;exact b.elim
 |_=>exact b.elim
noncomputable def kw(n:Nat):dh D->dh D
 | Y Ϛ a=>Y (O n) a
 | Y _ _=>Ϙ
 | .ex x a=>.ex x a
 | Ϙ=>Ϙ
def ck(c n:Nat)(b:B'->M D)(a:B'):M D:=λσ=>if a.length+1=n then kw σ.length (b (O σ.length::a)$ σ++[ϓ c []])else Ϙ
def Kn(c n:Nat)(a:B'->M D)(b:Ev->M (B')):Ev->M D:=λd=>Rc (b d)$ ck c n a
def qq(T:Tb)(P:Ca)(w:Ua)(e:Str->Option Value)(a:Heap)(k:Nat)(f:Addr)(ps:ac)(d:B'->M D):Prop:=
 ∃ c,(∀ b:dl,b.length=ps.length->bindArgs c ⟨b,[]⟩=pure (ps.zip b))/\Sg P w T.K e a (qk P w) k f c ps (Mm T ps.length d)
def YR(T:Tb)(P:Ca)(w:Ua)(b:Str->Option Value)(a:Heap)(k:Nat)(x:Str)(c:Nat)(ps:ac)(d:B'->M D):Prop:=
 ∃ f,b x=BD (Mb$ T.ca c)/\Mk T.K (T.ca c) f/\qq T P w b a k f ps d
def sW{ps:ac}(r:vd T μ H σ)(q:ub T μ H j w)(p:Xb T E (Oa T) μ H (ck c ps.length m j σ) Q) :
  ∀ x a,H x=Α->H a=Α->a≠x->Mm T ps.length m (ϗ x::(w++[])) (Yb (Yb H a$ .own x) x$ .yb (T.ca c) a []) (λv z=>v=.ic/\Q (ϗ x) z) E:=by
 intro x a B h o;unfold ck at p;by_cases n:j.length+1=ps.length
 ·rw[ka n]at p;have b:Ld μ H μ$ Yb H a$ .own x:=Ij h;have t:vd T μ (Yb H a$ .own x) σ:=r.fresh h;have i:Yb H a (.own x) x=Α:=by unfold Yb;rw[ua$ Vd o];exact B
  have f:Ld μ _ _$ Yb _ x$ .yb (T.ca c) a []:=Bu i;have F:vd T _ _$ σ++[ϓ c []]:=t.push i ⟨a,[],Lf,Ϡ⟩;refine⟨μ++[x],σ++[ϓ c []],O σ.length::j,ub.cons (ZA t) (by rw[Ce];exact ub.mono (b.trans f) _ _ q),by rw[lb];exact n,F,?_⟩;cases e:m _ _ with
  |Fb=>rw[e]at p;exact p.elim
  |ex y u=>rw[e]at p;exact λg l k s=>p g l ((b.trans f).trans k) s
  |ok d u=>
   rw[e]at p;intro g v l k s C;have A:d=Ϛ:=by cases d<;>first|rfl|exact p.elim
   subst A;exact⟨C,p g _ l ((b.trans f).trans k) s$ Oa.mono k _ _$ ZA t⟩
 ·rw[ua n]at p;exact p.elim
def IQ{st}(M:Mk X.K C f)(F:Sg X.prog X.w X.K X.mg X.base (qk X.prog X.w) k f m ps t)(L:Nd (k+1) X.A)(E:fq X.K m ps j)(G:ke c j)
  (I:db X b st H s) (r:ke n d)
  (h:∀ x l,H x=Α->H l=Α->l≠x->t (ϗ x::(n++c)) (Yb (Yb H l$ .own x) x$ .yb C l []) (λv y=>v=.ic/\Q (ϗ x) y) (XE X st)) :
  wpAny (model X.prog X.w) X.A (call (Mb C) d) (EP X b st Q) X.xe s:=by
 have p:=h _ s.heap.objs.size (I.Lc.fresh$ rg _) (I.Lc.fresh$ ya _)$ Ba$ Sb _;have i:=db.made (C:=C) I;have q:ke (ϗ _::(n++c))$ Mb (s.heap.objs.size+1)::(d++j):=Ϟ rfl$ r.append G;have J:(Mb (s.heap.objs.size+1)::d++j).length=ps.length:=by
  have e:=q.length;rw[F.len _ _ _ _ p]at e
  grind
 refine Ki$ Ō I.gi M.makes M.init (Jg.mp M.fn) (lf (F.Vg _ X.stack _ _ _ _ _ _ _ (L.make C d [])
  (i.pC.make C d []) (E _ _ i.gi J) q p) λr R a=>?_)
 cases r with
 |error e=>obtain⟨B,m,o,g,N⟩:=a;exact N.GF b _ _ e R i g
 |ok D=>
  cases D with
  |ret u=>
   obtain⟨v,o,z,P,rfl,ϋ⟩:=i.after a;exact⟨P,⟨ϗ _,o,z,rfl,ϋ⟩⟩
  |next=>exact ϳ a
  |brk=>exact ϳ a
  |cont=>exact ϳ a
def ĕ(h:YR T X.prog X.w X.mg X.base k x c ps n)(y:T.K=X.K)(J:Nd (k+1) X.A)(E:Gl X x)
  (z:FA T X (e::b) o) (i:(x == ("__debug__" : Str))=İ:=by decide) (C:va (e::b) X.env=(İ,Lb e X.env)::va b X.env:=by rfl) (j:(pc a$ va b X.env).any (·.1)=İ:=by rfl) :
  FE T X (ϟ (ϛ x p) (e::b) [] a)$ Kn c ps.length n o:=by
 obtain⟨f,F,g,ϊ,B,t⟩:=h;rw[y]at g t;rintro d s st H Q I ⟨μ,S,σ,v,l,G⟩;exact Ke$ xB I E F (Ϲ I.ok.mod.tu g.kp (Fd (z a d s st H _ I ⟨μ,S,σ,v,l,G.bind λV U R P u D ό ϋ L N=>sW ϋ L N⟩) (by rintro us s1 ⟨P,u,m,r,q⟩;exact ⟨m.gi,(IQ g t J (.all B) Ϡ m r q)⟩)) C j) i
structure EL(T:Tb)(P:Ca)(w:Ua)(mg:Str->Option Value)(base:Heap)(k:Nat)(m:Str)(c:Nat)(ps:ac)(fn:B'->M D):Prop where
 cl:jp T.K (T.ca c)
 ex:∃ f,Wq T.K (T.ca c) m f/\qq T P w mg base k f ps fn
abbrev Mt:=List$ Nat × (B'->M D)
noncomputable def An:Mt->Nat->Option (B'->M D)
 |[],_=>Α
 |(c,fn)::r,d=>if c == d then BD fn else An r d
noncomputable def Gi(n:Nat)(b:B'->M D)(x:D)(a:B'):M D:=if a.length+1=n then b (x::a)else Fb
def Qi(b:Mt)(n:Nat)(m:Str)(a:M$ B')(x:D):M D:=λσ=>match bj σ x with
 |some (c,gs)=>(match An b c,gs.lookup m with
  |some fn,Α=>Rc a (Gi n fn x) σ
  |_,_=>Ϙ)
 |none=>Ϙ
def Pf(c:Mt)(n:Nat)(m:Str)(f:Ev->M D)(b:Ev->M (B')):Ev->M D:=λa=>Rc (f a)$ Qi c n m$ b a
theorem cL:∀ {a:Mt} {c:Nat} {fn:B'->M D},An a c=BD fn->(c,fn)∈a
 |[],_,_,h=>by cases h
 |(d,g)::r,c,fn,h=>by
  unfold An at h;by_cases e:(d == c)=G6
  ·rw[ka e]at h;cases h
   simp_all
  ·rw[ua e]at h;exact ma _$ cL h
def fE(hK:T.K=X.K)(he:FE T X o f)(h:∀ q∈J,EL T X.prog X.w X.mg X.base k m q.1 ps q.2)(hr:Nd k X.A)(ha:FA T X (e::n) ϋ)
  (V:va (e::n) X.env=(İ,Lb e X.env)::va n X.env:=by rfl) (S:(pc b$ va n X.env).any (·.1)=İ:=by rfl)
  (ht:Lb (ϟ (Ϝ o m i) (e::n) [] b) X.env=(do
   let ov <-Lb o X.env
   ah i.atName
   let (f,first) <-we [ov] (lh ov m pl)
   km b f first (pc b$ va (e::n) X.env) (Fg b$ Ge [] X.env)):=by rfl) :
  FE T X (ϟ (Ϝ o m i) (e::n) [] b)$ Pf J ps.length m f ϋ:=by
 rintro j s st H Q I ⟨μ,ρ,σ,hE,U,hp⟩;refine W.methodCall_KW (Fd (he j s st H (λx t=>∃ a c G l C,x=ϗ a/\t a=BD (.yb (T.ca c) G l)/\An J c=BD C/\l.lookup m=Α/\tL T X ϋ st t λϊ L=>Mm T ps.length C (x::(ϊ++[])) L Q$ XE X st) I ⟨μ,ρ,σ,hE,U,hp.bind λd F a0 v t D e1 r1 q1 g=>?_⟩) λu s1 ⟨x,t,I1,rx,a,c,G,l,C,ex,ea,p,B,q⟩=>?_) ht
 ·unfold Qi at g;cases N:bj F d with
  |none=>rw[N]at g;exact g.elim
  |some z=>
   obtain⟨c,gs⟩:=z;rw[N]at g;dsimp only at g;cases p:An J c with
   |none=>rw[p]at g;exact g.elim
   |some C=>
    cases B:gs.lookup m with
    |some y=>rw[p,B]at g;exact g.elim
    |none=>
     rw[p,B]at g;dsimp only at g;obtain⟨a,G,l,rfl,h1,h2⟩:=xx r1 q1 N;refine⟨a,c,G,l,C,rfl,h1,p,(Zx h2).2 B,a0,ρ,F,hE.mono e1,r1,g.bind λds a2 a1 ϊ L D e2 r2 ό E=>?_⟩;unfold Gi at E;by_cases R:ds.length+1=ps.length
     ·rw[ka R]at E;exact⟨a1,a2,d::ds,ub.cons (Oa.mono e2 _ _ q1) (by rw[Ce];exact ό),by rw[lb];exact R,r2,E⟩
     ·rw[ua R]at E;exact E.elim
 ·subst ex;obtain rfl:u=Mb a:=rx;obtain⟨hC,f',P,fd,hb,hF⟩:=h _ (cL p);rw[hK]at hC P hF;exact HH I1 ea hC P B$ Ϲ I.ok.mod.tu P.kp (Fd (ha b j s1 st t _ I1 q) (by rintro ϊ s2 ⟨l,L,I2,r,ό⟩;exact ⟨I2.gi,(aE (vs:=ϗ a::l) hF hr (.all hb) Ϡ I2 (Ϟ rfl r) ό)⟩)) V S
def h9(hK:T.K=X.K)(he:FE T X o f)(h:∀ q∈F,EL T X.prog X.w X.mg X.base k m q.1 ps q.2)(hr:Nd k X.A)
  (ht:Lb (ϟ (Ϝ o m e) [] [] g) X.env=(do
   let S <-Lb o X.env
   ah e.atName
   let (f,first) <-we [S] (lh S m pl)
   km g f first (pc g$ va [] X.env) (Fg g$ Ge [] X.env)):=by rfl) :
  FE T X (ϟ (Ϝ o m e) [] [] g)$ Pf F ps.length m f Bb:=by
 rintro B s st H Q I ⟨μ,ρ,σ,hE,ϋ,hp⟩;refine W.methodCall_KW (Fd (he B s st H (λx p=>∃ a c E n l,x=ϗ a/\p a=BD (.yb (T.ca c) E n)/\An F c=BD l/\n.lookup m=Α/\Mm T ps.length l (x::([]++[])) p Q (XE X st)) I ⟨μ,ρ,σ,hE,ϋ,hp.bind λd i C v p D e1 V U b=>?_⟩) λu s1 ⟨x,p,G,rx,a,c,E,n,l,ex,ό,j,r,q⟩=>?_) ht
 ·unfold Qi at b;cases J:bj i d with
  |none=>rw[J]at b;exact b.elim
  |some z=>
   obtain⟨c,gs⟩:=z;rw[J]at b;dsimp only at b;cases j:An F c with
   |none=>rw[j]at b;exact b.elim
   |some l=>
    cases r:gs.lookup m with
    |some y=>rw[j,r]at b;exact b.elim
    |none=>
     rw[j,r]at b;dsimp only at b;obtain⟨a,E,n,rfl,ϊ,h2⟩:=xx V U J;have t:Xb T _ _ C p (Gi ps.length l d [] i) Q:=b;unfold Gi at t;by_cases N:([]:B').length+1=ps.length
     ·rw[ka N]at t;exact⟨a,c,E,n,l,rfl,ϊ,j,(Zx h2).2 r,C,i,[d],ub.cons U ub.nil,N,V,t⟩
     ·rw[ua N]at t;exact t.elim
 ·apply b_;intro z_;subst ex;obtain rfl:u=Mb a:=rx;obtain⟨P,f',L,fd,hb,R⟩:=h _ (cL j);rw[hK]at P L R;apply z_;exact HH G ό P L r$ W.callWith_K0 G.gi L.kp$ aE (vs:=[ϗ a]) R hr (.all hb) Ϡ G (Ϟ rfl Ϡ) q
end
structure Os(K:ϕ)(C:Addr)(x qual:Str)(st:Stmt)(ps:ac)(f:Addr):Prop where
 ex:∃ fd,pH K x qual st f fd/\∀ us:dl,us.length=ps.length->bindArgs fd ⟨us,[]⟩=pure (ps.zip us)
section
variable{P:Ca}{w:Ua}{K:ϕ}{mg:Str->Option Value}{base:Heap}{ca:Nat->Addr}{tx:Tx}
def QQ{st}(h:Os K C x a st ps f)(S:Oc N ps$ zf st)
  (j:∀ b A c s H E,Nd k (A.deeper$ ag a (zf st) s.heap.objs.size f b)->dk ⟨K,ca,tx⟩ (mo (qk P w) P w K mg base N a (zf st) f b A c s H E) (uj st) g) :
  qq ⟨K,ca,tx⟩ P w mg base (k+1) f ps$ Vg N.length g:=by
 obtain⟨n,F,d⟩:=h.ex;obtain⟨o,p,kV,i,q,m,b,ct,l,rfl,lk,e⟩:=F.ex;exact⟨_,d,jB lk e S$ j b⟩
def qq.zd{T}{k}{f}{ps}{a}(h:qq T P w mg base k f ps a):qq T P w mg base k f ps (λb=>L4.zd$ a b):=by
 obtain⟨c,d,e⟩:=h;exact⟨c,d,LN e⟩
def qq.ee(h:qq T P w mg base k f ps a):qq T P w mg base k f ps$ L4.ee a:=by rw[vq];exact h
end
noncomputable def jt(s:Stmt)(j:Nat):Stmt:=match s with
 | .ClassDef _ _ _ b _ _ _ _ _ _ _=>b.getD j (.Pass ⟨0,0,0,0⟩)
 |s=>s
def CU{K:ϕ}{st}{kV d g b ct}
  (j:∀ kV d g e b ct i,i.length=ps.length->bindArgs (Ϯ x a (Qk st) (uj st) (zf st) Ic kV d g e b ct) ⟨i,[]⟩=pure (ps.zip i))
  (l:K.lookup f=BD ⟨m,n,.func$ Ϯ x a (Qk st) (uj st) (zf st) Ic kV d g e b ct,h⟩)
  (c:W.codeIn K b a=G6) (k:W.keepIn K (Mb f)=G6):Os K C x a st ps f:=⟨⟨_,HU l c k,j kV d g e b ct⟩⟩
section
variable{T:Tb}{P:Ca}{w:Ua}{mg:Str->Option Value}{base:Heap}
def eH(T:Tb)(P:Ca)(w:Ua)(mg:Str->Option Value)(base:Heap)(k:Nat)(m:Str)(ps:ac)(a:Mt):Prop:=∀ q∈a,EL T P w mg base k m q.1 ps q.2
def w6:eH T P w mg base k m ps []:=λq h=>nomatch h
def g6(l:jp T.K$ T.ca c)(n:Wq T.K (T.ca c) m f)(o:qq T P w mg base j f ps e)(p:j<=k)(h:eH T P w mg base k m ps g):eH T P w mg base k m ps$ (c,e)::g:=λq d=>by
 rcases Ea.mp d with rfl|d
 ·obtain⟨i,a,b⟩:=o;exact⟨l,f,n,i,a,b.mono p⟩
 ·exact h q d
end
end L4
namespace L4
open L2
def nr{a b:c}(h:a=b):a=b:=h
section
variable{α β:Type}{ρ:Ev}{σ:Ha}
@[simp] theorem Sd a σ(k:α->M β):(Y a σ).bind k=k a σ:=rfl
@[simp] theorem ykb(a:α) σ:ret a σ=Y a σ:=rfl
@[simp] theorem tj m(k:α->M β) σ:Rc m k σ=(m σ).bind k:=rfl
@[simp] theorem xC d:eC d ρ σ=Y d σ:=rfl
@[simp] theorem Zr d r:Aa 0 (BD d::r) σ=Y d σ:=rfl
@[simp] theorem Aw i o r:Aa (i+1) (o::r) σ=Aa i r σ:=rfl
@[simp] theorem zun o a b:qb o a b ρ σ=(a ρ σ).bind (KN o$ b ρ):=rfl
@[simp] theorem ztt o m x:KN o m x σ=(m σ).bind (o x):=rfl
@[simp] theorem EK o a:Re o a ρ σ=(a ρ σ).bind o:=rfl
@[simp] theorem ylp b:kB (ϒ b) σ=Y b σ:=rfl
@[simp] theorem ypv(p q:M α):dj p q G6 σ=p σ:=rfl
@[simp] theorem ypu(p q:M α):dj p q İ σ=q σ:=rfl
@[simp] theorem zyp c:ON c σ=Y (!c) σ:=rfl
@[simp] theorem zsp(k:Bool->M α) b:Nw k (ϒ b) σ=k b σ:=rfl
@[simp] theorem zp0 c:MJ c σ=Y (ϒ$ !c) σ:=rfl
@[simp] theorem yoc f:eT f ρ σ=(f ρ σ).bind kB:=rfl
@[simp] theorem ztr a b:rO a b ρ σ=(a ρ σ).bind (dj (b ρ)$ ret İ):=rfl
@[simp] theorem ydb a b:Qr a b ρ σ=(a ρ σ).bind (dj (ret G6)$ b ρ):=rfl
@[simp] theorem zts a:Dq a ρ σ=(a ρ σ).bind ON:=rfl
@[simp] theorem zum a b:IM a b ρ σ=(a ρ σ).bind (Nw$ dj (b ρ)$ ret$ ϒ İ):=rfl
@[simp] theorem yet a b:RU a b ρ σ=(a ρ σ).bind (Nw$ dj (ret$ ϒ G6)$ b ρ):=rfl
@[simp] theorem zur a:EU a ρ σ=(a ρ σ).bind (Nw MJ):=rfl
@[simp] theorem yep t a b:wu t a b ρ σ=(t ρ σ).bind (dj (a ρ)$ b ρ):=rfl
@[simp] theorem Ct:Bb ρ σ=Y [] σ:=rfl
@[simp] theorem Rw e r:Ra e r ρ σ=(e ρ σ).bind (OK$ r ρ):=rfl
@[simp] theorem yw m x:OK m x σ=(m σ).bind (yM x):=rfl
@[simp] theorem mx x xs:yM x xs σ=Y (x::xs) σ:=rfl
@[simp] theorem Ψ a:Eh a ρ σ=(a ρ σ).bind Ru:=rfl
@[simp] theorem ylr:Ru [] σ=Y (Ϗ []) σ:=rfl
@[simp] theorem yls a:Ru [a] σ=Y (Ϗ [a]) σ:=rfl
@[simp] theorem Ι a b:Ru [a,b] σ=Y (Ϗ [a,b]) σ:=rfl
@[simp] theorem ylu a b c:Ru [a,b,c] σ=Y (Ϗ [a,b,c]) σ:=rfl
@[simp] theorem ylv a b c d:Ru [a,b,c,d] σ=Y (Ϗ [a,b,c,d]) σ:=rfl
@[simp] theorem ylw a b c d e:Ru [a,b,c,d,e] σ=Y (Ϗ [a,b,c,d,e]) σ:=rfl
@[simp] theorem Ŀ a:ci a ρ σ=(a ρ σ).bind Av:=nr rfl
theorem z8(h:Nat.ble a.length 1000=G6):Av a σ=Y (ύ a) σ:=by unfold Av;rw[ka (show a.length<=lg from xq h)];rfl
@[simp] theorem jU a:nv a ρ σ=(a ρ σ).bind XG:=rfl
@[simp] theorem yhs:XG [] σ=Y (O σ.length) (σ++[ϐ []]):=nr rfl
@[simp] theorem yrj g i j:oI g (Z i) (Z j) σ=Y (Z$ g i j) σ:=nr rfl
@[simp] theorem yrg g i j:oB g (Z i) (Z j) σ=Y (ϒ$ g i j) σ:=nr rfl
theorem qI(h:C i j=G6):sw C g (Z i) (Z j) σ=Y (Z$ g i j) σ:=by
 show (if C i j=G6 then ret _ else Fb) σ=_;rw[ka h];rfl
@[simp] theorem zyu i j(h:0<j)(a:j<1073741824):Wr (Z i) (Z j) σ=Y (Z$ i / j) σ:=qI (by simp[sK,h,a])
@[simp] theorem yB i j(h:0<j):Fi (Z i) (Z j) σ=Y (Z$ i % j) σ:=qI (by simp[mL,h])
theorem bz(h:uu i j=G6):Ap (Z i) (Z j) σ=Y (Z$ i ^ j.toNat) σ:=qI h
@[simp] theorem jM:Ap (Z 10) (Z 12) σ=Y (Z 1000000000000) σ:=bz (by simp[uu])
@[simp] theorem p6:Ap (Z 10) (Z 6) σ=Y (Z 1000000) σ:=bz (by simp[uu])
@[simp] theorem p4:Ap (Z 10) (Z 4) σ=Y (Z 10000) σ:=bz (by simp[uu])
@[simp] theorem p40:Ap (Z 10) (Z 40) σ=Y (Z$ 10 ^ 40) σ:=bz (by simp[uu])
@[simp] theorem zy7 i:US (Z i) σ=Y (Z$ -i) σ:=nr rfl
@[simp] theorem zp6 i j:Wj (Z i) (Z j) σ=Y (Z$ i+j) σ:=nr rfl
theorem Ġ{xs a}(h:xs.length+a.length<=lg):Wj (Ϗ xs) (Ϗ a) σ=Y (Ϗ$ xs++a) σ:=by show (if _ then _ else _:M D) σ=_;rw[ka h];rfl
def HI{xs a}(h:xs.length+a.length<=lg):Wj (ύ xs) (ύ a) σ=Y (ύ$ xs++a) σ:=by
 show kC (ύ xs) (ύ a) σ=_;unfold kC;simp only[uf];rw[ka h]
@[simp] theorem zqg σ:Ko Ϛ Ϛ σ=Y (ϒ G6) σ:=nr rfl
@[simp] theorem zqf b:Ko (Z b) Ϛ σ=Y (ϒ İ) σ:=nr rfl
@[simp] theorem zqh b:Ko (Ϗ b) Ϛ σ=Y (ϒ İ) σ:=nr rfl
@[simp] theorem zkb σ:dC Ϛ Ϛ σ=Y (ϒ İ) σ:=nr rfl
@[simp] theorem zka b:dC (Z b) Ϛ σ=Y (ϒ G6) σ:=nr rfl
theorem vw(h:xi σ 8 x y=BD b):wh x y σ=Y (ϒ b) σ:=by unfold wh;rw[h]
def pw(h:xi σ 8 x y=BD b):qh x y σ=Y (ϒ$ !b) σ:=by unfold qh;rw[h]
@[simp] theorem zyv i j:wh (Z i) (Z j) σ=Y (ϒ$ i == j) σ:=vw (by simp[xi,kd,Vo,zk])
@[simp] theorem zy6 i j:qh (Z i) (Z j) σ=Y (ϒ$ !(i == j)) σ:=pw (by simp[xi,kd,Vo,zk])
@[simp] theorem zyw i j:wh (ϔ i) (ϔ j) σ=Y (ϒ$ i == j) σ:=vw (by simp[xi,kd,Vo,zk])
theorem dA{xs}(h:So xs k=BD d):Nb (Ϗ xs) (Z k) σ=Y d σ:=by simp[Nb,pi,h]
def WA{xs}(h:So xs k=BD d):Nb (ύ xs) (Z k) σ=Y d σ:=by simp[Nb,pi,h]
@[simp] theorem yp4 a r:Nb (Ϗ$ a::r) (Z 0) σ=Y a σ:=dA$ Qo rfl
@[simp] theorem yp5 a b r:Nb (Ϗ$ a::b::r) (Z 1) σ=Y b σ:=dA$ Qo rfl
@[simp] theorem yp6 a b c r:Nb (Ϗ$ a::b::c::r) (Z 2) σ=Y c σ:=dA$ Qo rfl
@[simp] theorem yp7 a b c d r:Nb (Ϗ$ a::b::c::d::r) (Z 3) σ=Y d σ:=dA$ Qo rfl
@[simp] theorem QT xs:Il [Ϗ xs] σ=Y (Z xs.length) σ:=nr rfl
@[simp] theorem zqi xs:Il [ύ xs] σ=Y (Z xs.length) σ:=nr rfl
@[simp] theorem zqj xs:Il [ϯ xs] σ=Y (Z xs.length) σ:=by simp[Il,pi]
@[simp] theorem zge xs:NU [ύ xs] σ=Y (Ϗ xs) σ:=nr rfl
@[simp] theorem zmp o a:Uk o a ρ σ=(a ρ σ).bind o:=rfl
@[simp] theorem eM n f a b:og n f a b ρ σ=(b ρ σ).bind (lp n f a):=rfl
@[simp] theorem TY f a:lp 1 f [] [a] σ=f [a] σ:=by unfold lp;rw[ka ⋯];simp
@[simp] theorem YZ f a b:lp 2 f [] [a,b] σ=f [a,b] σ:=by unfold lp;rw[ka ⋯];simp
@[simp] theorem NZ f a b c:lp 3 f [] [a,b,c] σ=f [a,b,c] σ:=by unfold lp;rw[ka ⋯];simp
@[simp] theorem yfy f a b c:lp 3 f [c] [a,b] σ=f [a,b,c] σ:=by unfold lp;rw[ka ⋯];simp
@[simp] theorem yo0 f a b c d:lp 4 f [] [a,b,c,d] σ=f [a,b,c,d] σ:=by unfold lp;rw[ka ⋯];simp
@[simp] theorem yo1 f a b c d e:lp 5 f [] [a,b,c,d,e] σ=f [a,b,c,d,e] σ:=by unfold lp;rw[ka ⋯];simp
@[simp] theorem yar:Wh ρ σ=Y (ϙ ρ) σ:=rfl
@[simp] theorem Th g h:Qb g h ρ σ=(g ρ σ).bind (bD h):=rfl
@[simp] theorem Yh h ρ:bD h (ϙ ρ) σ=h ρ σ:=rfl
@[simp] theorem ya2 h d:bD h (ϭ d) σ=Y (ϭ d) σ:=rfl
@[simp] theorem ya3 h ρ x:bD h (.xc ρ x) σ=Y (.xc ρ x) σ:=rfl
noncomputable def vk(ρ:Ev)(k:α->M Fl):dh α->dh Fl
 | Y a b=>k a b
 | .ex x b=>Y (.xc ρ x) b
 | Ϙ=>Ϙ
@[simp] theorem kl ρ(m:M α) k:xs ρ m k σ=vk ρ k (m σ):=by unfold xs vk;cases m σ<;>rfl
@[simp] theorem ql ρ k(a:α):vk ρ k (Y a σ)=k a σ:=rfl
@[simp] theorem yl6 ρ(k:α->M Fl) x:vk ρ k (.ex x σ)=Y (.xc ρ x) σ:=rfl
@[simp] theorem yat f:gg f ρ σ=vk ρ SK (f ρ σ):=kl ..
@[simp] theorem yac d:SK d σ=Y (ϭ d) σ:=rfl
@[simp] theorem QV f:Bm f ρ σ=vk ρ (LM ρ) (f ρ σ):=kl ..
@[simp] theorem gQ d:LM ρ d σ=Y (ϙ ρ) σ:=rfl
@[simp] theorem RN i f:Ye i f ρ σ=vk ρ (VL i ρ) (f ρ σ):=kl ..
@[simp] theorem Ŗ i d:VL i ρ d σ=Y (ϙ$ ρ.set i$ BD d) σ:=rfl
@[simp] theorem N1 t a b:rh t a b ρ σ=vk ρ (dj (a ρ)$ b ρ) (t ρ σ):=kl ..
@[simp] theorem yak f a:zF f a ρ σ=vk ρ (uH a ρ) (f ρ σ):=kl ..
@[simp] theorem yda i j a b:uH (xk 2$ yg (ud i)$ yg (ud j) Tk) ρ (Ϗ [a,b]) σ=Y (ϙ$ (ρ.set i$ BD a).set j$ BD b) σ:=rfl
@[simp] theorem zky c a:eD c a ρ σ=vk ρ (iJ c ρ) (a ρ σ):=kl ..
@[simp] theorem zra c d:iJ c ρ [d] σ=Y (.xc ρ ⟨c⟩) σ:=rfl
@[simp] theorem yaw g a:GI g a ρ σ=(g ρ σ).bind (DG a):=rfl
@[simp] theorem ycf a:DG a (ϙ ρ) σ=Y (ϙ ρ) σ:=rfl
@[simp] theorem ycg a x:DG a (.xc ρ x) σ=Rs ρ x a σ:=rfl
theorem NV(e:h.t x.cls=BD G6):Rs ρ x (h::r) σ=hit h ρ x σ:=by unfold Rs;rw[e]
@[simp] theorem ygs t g x:hit ⟨t,Α,g⟩ ρ x σ=(g ρ σ).bind EH:=rfl
@[simp] theorem yh3 d:EH (ϭ d) σ=Y (ϭ d) σ:=rfl
@[simp] theorem aI n g a:Vg n g a σ=eo (g (a.map BD++List.replicate (n - a.length) Α) σ):=rfl
@[simp] theorem yah d:eo (Y (ϭ d) σ)=Y d σ:=rfl
@[simp] theorem mK:eo (Y (ϙ ρ) σ)=Y Ϛ σ:=rfl
@[simp] theorem yai x:eo (Y (.xc ρ x) σ)=.ex x σ:=rfl
@[simp] theorem yf2 f:zd f σ=Vf σ (f σ):=nr rfl
@[simp] theorem Jq f:rj f ρ σ=Vf σ (f ρ σ):=nr rfl
theorem Ow(h:cl d=G6):fz k σ m d=BD d:=by cases m<;>(unfold fz;rw[ka h])
def ZS(h:cl d=G6)(b:a.take σ.length=σ):Vf σ (Y d a)=Y d σ:=by
 unfold Vf;dsimp only;rw[ka b,Ow h]
@[simp] theorem zv4:Vf σ (.ex x σ)=.ex x σ:=by unfold Vf;dsimp only;rw[ka yc]
@[simp] theorem ziv(h:cl d=G6):Vf σ (Y d σ)=Y d σ:=ZS h yc
theorem CS{j j':Ha}{xs}(h:rf xs=G6):Vf σ (Y (O σ.length)$ σ++[ϐ xs]++j)=Y (ύ xs) σ:=by
 unfold Vf;dsimp only;rw[ka ⋯];have e:fz σ.length (σ++[ϐ xs]++j) 6 (O σ.length)=BD (ύ xs):=by
  unfold fz;dsimp only;rw[ua$ Ud _];have:(σ++[ϐ xs]++j)[σ.length]?=BD (ϐ xs):=by simp
  rw[this];dsimp only;have d:∀ a m,rf a=G6->Hk (fz σ.length (σ++[ϐ xs]++j) m) a=BD a:=by
   intro a m;induction a with
   |nil=>intro _;rfl
   |cons y a f=>
    intro c;have b:cl y=G6/\rf a=G6:=by simpa [rf]using c
    unfold Hk;rw[Ow b.1,f b.2]
  rw[d xs 5 h];rfl
 rw[e]
@[simp] theorem rZ i:cl (Z i)=G6:=by simp[cl]
@[simp] theorem yni i:cl (ϒ i)=G6:=by simp[cl]
@[simp] theorem yd4 i:cl (ϔ i)=G6:=by simp[cl]
@[simp] theorem yd0:cl Ϛ=G6:=by simp[cl]
@[simp] theorem yd6 xs:cl (Ϗ xs)=rf xs:=by simp[cl]
@[simp] theorem ydz xs:cl (ύ xs)=rf xs:=by simp[cl]
@[simp] theorem yd3 n:cl (O n)=İ:=by simp[cl]
@[simp] theorem zt7:rf []=G6:=by simp[rf]
@[simp] theorem QY d a:rf (d::a)=(cl d && rf a):=by simp[rf]
theorem Fn:∀ {a:B'},(∀ d∈a,cl d=G6)->rf a=G6
 |[],_=>by simp
 |d::a,h=>by rw[QY,h d na,Fn λx b=>h x$ ma _ b];rfl
def Ĭ{f:a->D}{l:List a}(h:∀ x,cl (f x)=G6):rf (l.map f)=G6:=Fn λd b=>by obtain⟨x,_,rfl⟩:=wa.mp b;exact h x
@[simp] theorem zmd(l:gV):rf (l.map Z)=G6:=Ĭ rZ
@[simp] theorem WK xs a:rf (xs++a)=(rf xs && rf a):=by
 induction xs with
 |nil=>simp
 |cons x xs b=>simp[b,Bx]
theorem lN(h:dt i j=G6):qz (Z i) (Z j) σ=Y (Z$ i * j) σ:=qI h
def CT(h:-(2 ^ 64)<i)(a:i<2 ^ 64):dt i j=G6:=by simp only[dt,vq,qf,Ma,Tc];exact ϑ ⟨h,a⟩
def oP(h:-(2 ^ 64)<j)(a:j<2 ^ 64):dt i j=G6:=by simp only[dt,vq,qf,Ma,Tc];exact ϖ ⟨h,a⟩
theorem A0{xs}{k}(a:0<=k)(h:k<xs.length):So xs k=BD (xs.getD k.toNat Ϛ):=by
 obtain⟨n,rfl⟩:=Int.eq_ofNat_of_zero_le a;have b:n<xs.length:=by lia
 refine Qo ?_;show xs[n]?=BD (xs.getD n Ϛ);rw[Dm,Db b];rfl
def U5{a:gV}{k:Int}(b:0<=k)(h:k<a.length):So (a.map Z) k=BD (Z$ a.getD k.toNat 0):=by
 rw[A0 b (by simpa using h)];have c:k.toNat<a.length:=by lia
 simp[c]
@[simp] theorem yqr a:Av [a] σ=Y (ύ [a]) σ:=nr rfl
@[simp] theorem yqq:Av [] σ=Y (ύ []) σ:=nr rfl
@[simp] theorem yqs a b:Av [a,b] σ=Y (ύ [a,b]) σ:=nr rfl
@[simp] theorem AN xs:jf (σ++[ϐ xs]) σ.length=BD xs:=by simp[jf]
@[simp] theorem gC a b:(σ++[a]).set σ.length b=σ++[b]:=by
 rw[Fe _ _$ ya _];simp
@[simp] theorem zms o f a:Qq o f a ρ σ=(f ρ σ).bind (Cr o$ a ρ):=rfl
theorem Lx{xs}(h:uf σ x=BD xs):Cr o m x σ=(m σ).bind (o x):=by unfold Cr;rw[h];rfl
def Rz{xs}(h:xs.length<1000):zi (O σ.length) [d] (σ++[ϐ xs])=Y Ϛ (σ++[ϐ$ xs++[d]]):=by
 unfold zi;simp only[AN];rw[ka (show xs.length<lg from h),gC]
def A6{ws:gV}(h:pi σ x=BD (ws.map Z)):zB neg (Z w) x σ=Y (ϒ (if neg then !(ws.any (·== w))else ws.any (·== w))) σ:=by
 have a:∀ l:gV,(l.map Z).all bv=G6:=λl=>by simp[bv,sc]
 have b:∀ l:gV,((l.map Z).any λz=>xw z$ Z w)=l.any (·== w):=λl=>by simp[xw,sc,zk,Function.comp_def]
 unfold zB;rw[h];simp only[a,b,show bv (Z w)=G6 from rfl,Bool.and_self,af]
@[simp] theorem K1 xs:pi σ (ύ xs)=BD xs:=nr rfl
@[simp] theorem j6 xs:pi σ (Ϗ xs)=BD xs:=nr rfl
@[simp] theorem NA f:bi f ρ σ=(f ρ σ).bind Uv:=nr rfl
@[simp] theorem ñ a:Uv (Ϗ a) σ=Y (.seq a) σ:=nr rfl
@[simp] theorem Sz a:Uv (ύ a) σ=Y (.seq a) σ:=nr rfl
@[simp] theorem V8 f:Zs f ρ σ=(f ρ σ).bind Yu:=nr rfl
theorem NF(h:-(2 ^ 62)<=j)(a:j<2 ^ 62):Yu (Z j) σ=Y (.seq$ fy j.toNat) σ:=by
 unfold Yu;dsimp only;rw[ka (by simp only[vu,vq,Ma,Tc];exact⟨h,a⟩)]
@[simp] theorem XD b c a:Bn b c a ρ σ=vk ρ (bI c a ρ) (b ρ σ):=kl ..
@[simp] theorem eJ c a b:bI c a ρ (.seq b) σ=Lj c a b ρ σ:=nr rfl
@[simp] theorem nF b a:Lj b a [] ρ σ=Y (ϙ ρ) σ:=nr rfl
theorem JQ(h:c d ρ=BD b):Lj c a (d::e) ρ σ=(a b σ).bind (fu$ Lj c a e):=by
 show (match c d ρ with|none=>Fb|some b=>Rc (a b) (fu$ Lj c a e)) σ=_;rw[h];rfl
@[simp] theorem iq i a d b:Lj (ud i) a (d::b) ρ σ=(a (ρ.set i$ BD d) σ).bind (fu$ Lj (ud i) a b):=JQ rfl
@[simp] theorem il k:fu k (ϙ ρ) σ=k ρ σ:=nr rfl
@[simp] theorem E6 k d:fu k (ϭ d) σ=Y (ϭ d) σ:=nr rfl
theorem yA(h:m σ=Y a b):Sr m σ=Y a b:=by unfold Sr;rw[h]
end
section
variable{α β:Type}{ρ:Ev}{σ:Ha}
@[simp] theorem zk5 a:pi σ (ϯ a)=BD (a.map Z):=nr rfl
theorem OQ(b:0<=k)(h:k<a.length):Nb (ϯ a) (Z k) σ=Y (Z$ a.getD k.toNat 0) σ:=by
 simp[Nb,U5 b h]
@[simp] theorem zqb c i:Dw c (Z i) σ=Y (ϒ$ match c with | .int=>G6|_=>İ) σ:=nr rfl
@[simp] theorem zyz c i:Dw c (ϒ i) σ=Y (ϒ$ match c with | .int=>G6 | .bool=>G6|_=>İ) σ:=nr rfl
@[simp] theorem zqe xs:Dw .tuple (Ϗ xs) σ=Y (ϒ G6) σ:=nr rfl
@[simp] theorem zib o d a b c:vS o d a b c ρ σ=(a ρ σ).bind (VN o d (b ρ)$ c ρ):=nr rfl
noncomputable def pl:Nat->D->Bool
 |_,Ϛ=>G6
 |_,ϒ _=>G6
 |_,Z _=>G6
 |_,ϔ _=>G6
 |n+1,Ϗ xs=>xs.all (pl n)
 |n+1,ύ xs=>xs.all (pl n)
 |_,_=>İ
theorem fF{f:D->D->Option Bool}:∀ {xs:B'},(∀ x∈xs,f x x=BD G6)->Gk f xs xs=BD G6
 |[],_=>rfl
 |x::xs,h=>by unfold Gk;rw[h x na,fF λy a=>h y$ ma _ a];rfl
theorem WI:∀ (n:Nat) (x:D),pl n x=G6->xi σ n x x=BD G6
 |0,x,h=>by cases x<;>simp[pl]at h<;>simp[xi,kd,Vo,zk]
 |n+1,x,h=>by
  cases x with
  |ic=>rfl
  |bl b=>simp[xi,kd,Vo,zk]
  |int b=>simp[xi,kd,Vo,zk]
  |str b=>simp[xi,kd,Vo,zk]
  |Sa xs=>
   simp[pl,gb]at h;exact fF λy a=>WI n y$ h y a
  |ra xs=>
   simp[pl,gb]at h;exact fF λy a=>WI n y$ h y a
  |_=>trivial
def Du(h:pl 8 x=G6):qh x x σ=Y (ϒ İ) σ:=pw$ WI 8 x h
@[simp] theorem zhz o a b c x:VN o a b c x σ=(b σ).bind (zN o a c x):=nr rfl
@[simp] theorem zh1 o a c x y:zN o a c x y σ=(o x y σ).bind (WN a c y):=nr rfl
@[simp] theorem zh0 a c y b:WN a c y (ϒ b) σ=dj (Rc c$ a y) (ret$ ϒ İ) b σ:=nr rfl
theorem UT(h:cl d=G6):Vf σ (Y d$ σ++[a])=Y d σ:=ZS h ⋯
@[simp] theorem zhk(f:a->Bool)(l:List a):UA (l.map λx=>ϒ$ f x)=BD (l.map f):=by
 induction l with
 |nil=>rfl
 |cons x l b=>simp[UA,b]
@[simp] theorem XT l:cr (l.map Z)=BD l:=by
 induction l with
 |nil=>rfl
 |cons x l a=>simp[cr,a]
theorem J6{f:a->Bool}{l:List a}:UF [ύ (l.map λx=>ϒ$ f x)] σ=Y (ϒ$ l.all f) σ:=by
 simp only[UF];simp
def ū(h:l.length<=1000):kG (ύ$ l.map Z) σ=Y (Z (Jk l).length) σ:=by
 simp only[kG,uf,kh,XT];rw[ka (show l.length<=lg from h)]
theorem gM:∀ (l s:gV),(l.foldl PyProof.Rows.step_dedup s).length<=s.length+l.length/\((l.foldl PyProof.Rows.step_dedup s).length=s.length+l.length ↔ (l.Nodup/\∀ x∈l,x ∉ s))
 |[],s=>by simp
 |x::l,s=>by
  rw[Ml];by_cases h:s.any (·== x)=G6
  ·have i:x∈s:=by simpa using h
   rw[show PyProof.Rows.step_dedup s x=s by unfold PyProof.Rows.step_dedup;rw[ka h]];obtain⟨g,d⟩:=gM l s;refine⟨by simp;lia,λe=>?_,λe=>absurd i$ e.2 x na⟩;simp[lb]at e;lia
  ·have i:x ∉ s:=by simpa using h
   rw[show PyProof.Rows.step_dedup s x=s++[x] by unfold PyProof.Rows.step_dedup;rw[ua h]];obtain⟨g,d⟩:=gM l (s++[x]);simp only[Gb,lb,vg]at g d;refine⟨by simp[lb];lia,?_⟩;rw[lb,show s.length+(l.length+1)=s.length+(0+1)+l.length by lia,d,Jd];constructor
   ·rintro ⟨a,b⟩;refine⟨⟨λj=>(b x j) ⋯,a⟩,λy f=>?_⟩;rcases Ea.mp f with rfl|f;all_goals grind
   ·rintro ⟨⟨a,b⟩,c⟩;refine⟨b,λy f k=>?_⟩;all_goals grind
def B4 l:((Jk l).length:Int)=(l.length:Int) ↔ l.Nodup:=by
 have:=(gM l []).2;simp at this;unfold Jk;rw[<-this];lia
end
section
variable{ρ:Ev}{σ:Ha}
@[simp] theorem NL c n a b:Kn c n a b ρ σ=(b ρ σ).bind (ck c n a):=nr rfl
theorem xO(h:a.length+1=n):ck c n b a σ=kw σ.length (b (O σ.length::a)$ σ++[ϓ c []]):=by unfold ck;rw[ka h]
@[simp] theorem gO c b a:ck c 2 b [a] σ=kw σ.length (b [O σ.length,a]$ σ++[ϓ c []]):=xO rfl
@[simp] theorem xA n:kw n (Y Ϛ σ)=Y (O n) σ:=nr rfl
@[simp] theorem DS a f c b:jl a f c b ρ σ=vk ρ (MN ρ a f b) (c ρ σ):=kl ..
@[simp] theorem MT a f b d:MN ρ a f b d σ=vk ρ (xy ρ a f d) (b ρ σ):=kl ..
theorem WG(h:cs.contains c=G6)(a:fs.length<1000):xy ρ cs f d (O σ.length) (σ++[ϓ c fs])=Y (ϙ ρ) (σ++[ϓ c$ Rk f d fs]):=by
 have e:MA cs f d (O σ.length) (σ++[ϓ c fs])=Y () (σ++[ϓ c$ Rk f d fs]):=by
  have:(σ++[ϓ c fs])[σ.length]?=BD (ϓ c fs):=by simp
  unfold MA;simp only[this];rw[ka ⋯];simp
 unfold xy;rw[e]
def XB(h:b.length=a.length):bj σ (ϻ c b a)=BD (c,b.zip a):=by unfold bj;dsimp only;rw[ka h]
def Ik(h:bj σ x=BD (c,b))(e:a.contains c=G6)(g:b.lookup f=BD d):Gc a f x σ=Y d σ:=by
 unfold Gc;rw[h];dsimp only;rw[ka e,g]
@[simp] theorem OW b n m f a:Pf b n m f a ρ σ=(f ρ σ).bind (Qi b n m$ a ρ):=nr rfl
theorem Ym(h:bj σ x=BD (c,gs))(f:An d c=BD a)(e:gs.lookup m=Α):Qi d n m b x σ=(b σ).bind (Gi n a x):=by
 unfold Qi;rw[h];dsimp only;rw[f,e];rfl
def VE(h:a.length+1=n):Gi n b x a σ=b (x::a) σ:=by unfold Gi;rw[ka h]
@[simp] theorem g5 a x:Gi 1 a x [] σ=a [x] σ:=VE rfl
@[simp] theorem M2 b x a:Gi 2 b x [a] σ=b [x,a] σ:=VE rfl
@[simp] theorem zye c x a b:Gi 3 c x [a,b] σ=c [x,a,b] σ:=VE rfl
theorem aY(h:rf (a.map (·.2))=G6):Vf σ (Y (O σ.length)$ σ++[ϓ c a])=Y (ϻ c (a.map (·.1)) (a.map (·.2))) σ:=by
 unfold Vf;dsimp only;rw[ka ⋯];have e:fz σ.length (σ++[ϓ c a]) 6 (O σ.length)=BD (ϻ c (a.map (·.1)) (a.map (·.2))):=by
  unfold fz;dsimp only;rw[ua$ Ud _];have:(σ++[ϓ c a])[σ.length]?=BD (ϓ c a):=by simp
  have i:∀ b (m:Nat),rf b=G6->Hk (fz σ.length (σ++[ϓ c a]) m) b=BD b:=by
   intro b m;induction b with
   |nil=>intro _;rfl
   |cons y b g=>
    intro f;have d:cl y=G6/\rf b=G6:=by simpa using f
    unfold Hk;rw[Ow d.1,g d.2]
  simp_all
 rw[e]
@[simp] theorem yd1 c b a:cl (ϻ c b a)=rf a:=by simp[cl]
@[simp] theorem zqm i j:wA [Z i,Z j] σ=Y (Z$ min i j) σ:=nr rfl
@[simp] theorem zql i j:EG [Z i,Z j] σ=Y (Z$ max i j) σ:=nr rfl
@[simp] theorem zqd i:Dw .str (ϔ i) σ=Y (ϒ G6) σ:=nr rfl
@[simp] theorem zqc c:Dw c Ϛ σ=Y (ϒ İ) σ:=by cases c<;>rfl
end
end L4
namespace L2
open Spec
section
variable{κ:Type}[DecidableEq κ]
noncomputable def Kl(a:List$ κ × V)(k:κ):Option V:=(a.find? λb=>decide$ b.1=k).map (·.2)
noncomputable def Rl(a:List$ κ × V)(k:κ)(v:V):List$ κ × V:=
 if (a.any λb=>decide$ b.1=k)=G6 then a.map (λb=>if b.1=k then (b.1,v)else b)else a++[(k,v)]
noncomputable def uv(a:List$ κ × V)(k:κ):List$ κ × V:=a.filter λb=>decide$ b.1≠k
def ZI{k:κ}(e:p.1=k):Kl (p::r) k=BD p.2:=by simp[Kl,wg,e]
def KI{k:κ}(e:¬ p.1=k):Kl (p::r) k=Kl r k:=by simp[Kl,wg,e]
theorem fW(k:κ):∀ a:List$ κ × V,(a.any λb=>decide$ b.1=k)=(Kl a k).isSome
 |[]=>rfl
 |p::r=>by
  rw[jh];by_cases e:p.1=k
  ·simp only[ZI e,Eb e,Bool.true_or,Option.isSome_some]
  ·rw[KI e,Xa e,Hz];exact fW k r
def fL a(k:κ) v:(Rl a k v).length<=a.length+1:=by
 unfold Rl;split;all_goals simp_all
theorem Wm.ug(r:Wm o u):o.isSome=u.isSome:=by
 cases o with
 |none=>cases u with
  |none=>rfl
  |some _=>exact(r).elim
 |some _=>cases u with
  |none=>exact(r).elim
  |some _=>rfl
def KV.val(r:KV a g)(k:κ):Wm (Kl a k)$ cp g k:=by
 induction r with
 |nil=>trivial
 |@cons p q ps d h t j=>
  obtain⟨f,i⟩:=h;by_cases e:p.1=k
  ·have c:=f.symm.trans e;have b:cp (q::d) k=BD q.2:=by simp[cp,c]
   rw[ZI e,b];exact i
  ·have c:¬ q.1=k:=λz=>e$ f.trans z;have b:cp (q::d) k=cp d k:=by simp[cp,c]
   rw[KI e,b];exact j
def KV.any(r:KV a c)(k:κ):(a.any λb=>decide$ b.1=k)=c.any λb=>decide$ b.1=k:=by
 induction r with
 |nil=>rfl
 |cons h t d=>simp_all
def KV.Py(r:KV b c)(k:κ)(j:qd y u) :
  KV (b.map λa=>if a.1=k then (a.1,y)else a) (c.map λa=>if a.1=k then (a.1,u)else a):=by
 induction r with
 |nil=>exact Ϡ
 |@cons p q ps i h t d=>
  refine Ϟ ?_ d;obtain⟨f,g⟩:=h;by_cases e:p.1=k;all_goals simp_all
def KV.put(r:KV a b)(k:κ)(c:qd y u):KV (Rl a k y)$ stored b k u:=by
 unfold Rl stored;rw[r.any k];by_cases e:(b.any λd=>decide$ d.1=k)=G6
 ·rw[ka e,ka e];exact r.Py k c
 ·rw[ua e,ua e];exact Paired.snoc r ⟨rfl,c⟩
def KV.drop(r:KV c f)(k:κ):KV (uv c k)$ without f k:=by
 unfold KV at r ⊢;unfold uv without;induction r with
 |nil=>exact Ϡ
 |@cons p q ps l h t j=>
  obtain⟨d,i⟩:=h;rw[se,se];by_cases e:p.1=k
  ·have a:¬ decide (p.1≠k)=G6:=by simp[e]
   grind
  ·have g:¬ q.1=k:=λz=>e$ d.trans z;have a:decide (p.1≠k)=G6:=by simp[e]
   have b:decide (q.1≠k)=G6:=by simp[g]
   rw[ka a,ka b];exact Ϟ ⟨d,i⟩ j
def KV.length(r:KV a b):a.length=b.length:=Paired.length r
def gR a(k:κ):(uv a k).length<=a.length:=Rf _ _
end
def Qu(r:qd (kV k) u):(pk P w).is k u=G6:=by
 cases k with
 |inl i=>obtain⟨t,e⟩:=(r);subst e;exact zeq P w i t
 |inr x=>obtain⟨t,e⟩:=(r);subst e;exact ļ P w x t
abbrev KT(H:Hp):List (TK × V)->List (TK × Addr × Value)->Prop:=Paired λp q=>p.1=q.1/\NR H 5 (.inr p.1) (ϗ q.2.1)/\qd p.2 q.2.2
def KT.val(r:KT H a xs) k:Wm (Kl a k) ((Fs xs k).map (·.2)):=by
 induction r with
 |nil=>trivial
 |@cons p q ps d h t i=>
  obtain⟨f,_,g⟩:=h;by_cases e:p.1=k
  ·have c:=f.symm.trans e;have b:Fs (q::d) k=BD q.2:=by simp[Fs,c]
   rw[ZI e,b];exact g
  ·have c:¬ q.1=k:=λz=>e$ f.trans z;have b:Fs (q::d) k=Fs d k:=by simp[Fs,c]
   rw[KI e,b];exact i
def KT.Py(r:KT H a xs) k(j:qd y u) :
  KT H (a.map λb=>if b.1=k then (b.1,y)else b)$ xs.map$ putAt k u:=by
 induction r with
 |nil=>exact Ϡ
 |@cons p q ps i h t c=>
  refine Ϟ ?_ c;obtain⟨d,f,g⟩:=h;unfold putAt;by_cases e:p.1=k;all_goals simp_all
def KT.put(r:KT H a xs) k(d:NR H 5 (.inr k)$ ϗ b)(c:qd y u) :
  KT H (Rl a k y)$ storedH xs k b u:=by
 have e:(a.any λf=>decide$ f.1=k)=(Fs xs k).isSome:=by
  rw[fW,(r.val k).ug,Aj]
 unfold Rl storedH;rw[e];by_cases q:(Fs xs k).isSome=G6
 ·rw[ka q,ka q];exact r.Py k c
 ·rw[ua q,ua q];exact Paired.snoc r ⟨rfl,d,c⟩
def KT.keeps(r:KT H a xs)(e:∀ b d,H b=BD (.Sa d)->c b=BD (.Sa d)):KT c a xs:=
 Paired.wo r λf f z=>⟨z.1,NR.keeps e 5 z.2.1,z.2.2⟩
section
variable{P:Ca}{w:Ua}{H:Hp}{h:Heap}{a:Addr}
def VR(ok:zh P w H h)(e:Rd H a u):Cj P w H h a u:=e.ok ok
def gu(ok:zh P w H h)(e:Rd H a$ ϝ b):b.length<=sizeLine/\(a == bf)=İ/\∃ c,KV b c/\h.DictOf (pk P w) a c:=
 VR ok e
def XF(ok:zh P w H h)(e:H a=BD (ϝ b)):b.length<=sizeLine/\(a == bf)=İ/\∃ c,KV b c/\h.DictOf (pk P w) a c:=gu ok$ ϑ e
theorem gP(ok:zh P w H h):∀ (n:Nat) {k:NK n} {v:V} {u:Value},NR H n k v->qd v u->lq P w h n k u
 |0,_,_,_,e,r=>by cases (e);exact Qu r
 |_+1,.inl _,_,_,e,r=>by cases (show _=kV _ from e);exact Qu r
 |n+1,.inr ks,_,_,e,r=>by
  obtain⟨b,c,rfl,e,p⟩:=e;cases (show _=Mb b from r);obtain⟨_,d,q,t⟩:=(ok b _ e)
  have f:∀ {ks:List$ NK n} {c:lv} {a:dl},Paired (NR H n) ks c->ke c a->Paired (lq P w h n) ks a:=by
   intro ks c a p;induction p generalizing a with
   |nil=>intro q;cases q;exact Ϡ
   |cons r _ g=>intro q;cases q with|cons i j=>exact Ϟ (gP ok n r i)$ g j
  exact⟨b,d.toArray,rfl,t,by simpa using f p q⟩
theorem wD(ok:zh P w H h)(e:NR H 5 (.inr ks)$ ϗ a):(JC P w).is h ks a:=gP ok 5 e rfl
def aD(ok:zh P w H h)(e:Rd H a$ .dT c):c.length<=sizeLine/\(a == bf)=İ/\
  ∃ xs,KT H c xs/\h.DictOfH (JC P w) a xs:=by
 obtain⟨z,y,xs,r,o,i,g,j,k,n,s,u⟩:=(show Cj P w H h a _ from VR ok e)
 refine⟨z,y,xs,r,o,i,g,j,k,n,s,λx b=>?_,u⟩;have d:∀ {l:List$ TK × V} {m:List$ TK × Addr × Value},KT H l m->∀ x∈m,(JC P w).is h x.1 x.2.1:=by
  intro l m q;induction q with
  |nil=>intro x b;exact nomatch b
  |@cons p q ps A f t v=>
   intro x b;rcases Ea.mp b with e|b
   ·subst e;exact wD ok (by rw[<-f.1];exact f.2.1)
   ·exact v x b
 exact d r x b
def ÿ(ok:zh P w H h)(e:H a=BD (.dT b)):b.length<=sizeLine/\(a == bf)=İ/\
  ∃ xs,KT H b xs/\h.DictOfH (JC P w) a xs:=aD ok$ ϑ e
end
def gk(H:Hp)(a:Addr)(y:V)(r:Option V):Prop:=
 (∃ c k,Rd H a (ϝ c)/\y=kV k/\r=Kl c k)\/∃ c k b,Rd H a (.dT c)/\y=ϗ b/\NR H 5 (.inr k) (ϗ b)/\r=Kl c k
def Pw(H:Hp)(a:Addr)(y v:V)(d:Hp):Prop:=
 (∃ c k,H a=BD (ϝ c)/\y=kV k/\c.length<sizeLine/\d=Yb H a (ϝ$ Rl c k v))\/
 ∃ c k b,H a=BD (.dT c)/\y=ϗ b/\NR H 5 (.inr k) (ϗ b)/\c.length<sizeLine/\d=Yb H a (.dT$ Rl c k v)
def Pw.k{H}{a}{b}{k}{v}(e:H a=BD (ϝ b))(c:b.length<sizeLine):Pw H a (kV k) v$ Yb H a$ ϝ$ Rl b k v:=ϑ ⟨b,k,e,rfl,c,rfl⟩
def Pw.t{k}(e:H a=BD (.dT c))(d:NR H 5 (.inr k)$ ϗ b)(f:c.length<sizeLine) :
  Pw H a (ϗ b) v$ Yb H a$ .dT$ Rl c k v:=ϖ ⟨c,k,b,e,rfl,d,f,rfl⟩
section
variable{pins:List$ Addr × Obj}{σ:St}{H:Hp}{s:Shared}{a:Addr}{y v:V}{u r:Value}{o:Option V}{A:Na}{E:Value->Shared->Prop}
def db.JK(I:db X pins σ H s):bf<s.heap.objs.size:=by
 have h:=(I.mod.glob.keeps I.bk).lt;exact Pp ⋯ h
def Ð(C:A.units+7<cLine)(I:db X pins σ H s)(g:gk H a y$ BD v)(q:qd y u)(h:∀ f r,db X pins σ H r->qd v f->Q f r) :
  wpAny (model X.prog X.w) A (Qh (Mb a) u) Q E s:=by
 rcases g with⟨o,k,e,j,l⟩|⟨o,k,b,e,j,t,l⟩
 ·subst j;obtain⟨z,x,D,c,i⟩:=gu I.Lc e;obtain⟨f,n,d⟩:=Wm.some_of (by rw[l];exact c.val k);exact wpAny_getItem_of (Qu q) i.mapOf n$ h f _ (I.tok _) d
 ·subst j;cases (q);obtain⟨z,x,xs,c,i⟩:=aD I.Lc e;obtain⟨f,n,d⟩:=Wm.some_of (by rw[l];exact c.val k);obtain⟨p,B,m⟩:=Ga.mp n;refine wpAny_getItem_heap (show A.units+1+5<cLine by lia) (wD I.Lc t) i B ?_;rw[m];exact h f _ (I.tok _) d
def m5(r:A.units+7<cLine)(I:db X pins σ H s)(g:gk H a y o)(m:qd y u)(h:∀ n,db X pins σ H n->Q (Dg o.isSome) n) :
  wpAny (model X.prog X.w) A (Pb .In u$ Mb a) Q E s:=by
 rcases g with⟨j,k,e,f,l⟩|⟨j,k,b,e,f,p,l⟩
 ·subst f;obtain⟨z,i,t,c,d⟩:=gu I.Lc e;refine wpAny_in_of (Qu m) i d.mapOf ?_;rw[<-(c.val k).ug,<-l];exact h _$ I.tok _
 ·subst f;cases (m);obtain⟨z,i,xs,c,d⟩:=aD I.Lc e;refine wpAny_in_heap (show A.units+1+5<cLine by lia) (wD I.Lc p) i d ?_;have q:=(c.val k).ug;rw[Aj]at q;rw[<-q,<-l];exact h _$ I.tok _
def ť(r:A.units+7<cLine)(I:db X pins σ H s)(g:gk H a y o)(m:qd y u)(h:∀ n,db X pins σ H n->Q (Dg$ !o.isSome) n) :
  wpAny (model X.prog X.w) A (Pb .NotIn u$ Mb a) Q E s:=by
 rcases g with⟨j,k,e,f,l⟩|⟨j,k,b,e,f,p,l⟩
 ·subst f;obtain⟨z,i,t,c,d⟩:=gu I.Lc e;refine wpAny_notIn_of (Qu m) i d.mapOf ?_;rw[<-(c.val k).ug,<-l];exact h _$ I.tok _
 ·subst f;cases (m);obtain⟨z,i,xs,c,d⟩:=aD I.Lc e;refine wpAny_notIn_heap (show A.units+1+5<cLine by lia) (wD I.Lc p) i d ?_;have q:=(c.val k).ug;rw[Aj]at q;rw[<-q,<-l];exact h _$ I.tok _
def eE(I:db X pins σ H s)(h:yD$ H a)(g:gd a s.heap h')(f:∃ q,h'.get? a=BD q)(c:Cj X.prog X.w (Yb H a d) h' a d) :
  db X pins σ (Yb H a d) { s with heap:=h',toks:=t' }:=
 I.write h (ϑ rfl) (λb q e z=>(g.2 b e).trans z) f c
def dD(z:b.length<=sizeLine)(h:(a == bf)=İ)(c:KV b d)(g:e.DictOf (pk P w) a d) :
  Cj P w f e a$ ϝ b:=⟨z,h,d,c,g⟩
def Z3(U:A.units+7<cLine)(I:db X pins σ H s)(g:Pw H a y v C)(J:qd y u)(G:qd v r)(h:∀ K,db X pins σ C K->Q () K) :
  wpAny (model X.prog X.w) A (Xt (Mb a) u r) Q E s:=by
 rcases g with⟨d,k,e,o,l,n⟩|⟨d,k,b,e,o,D,l,n⟩
 ·apply b_;intro z_;subst o n;obtain⟨z,p,T,f,m⟩:=XF I.Lc e;have B:T.length<=sizeLine:=by rw[<-f.length];exact z
  apply z_;have t:(Rl d k v).length<=sizeLine:=by have:=fL d k v;lia
  refine wpAny_setItem_pairs (hsz:=B) (Qu J) m λh' i x=>h _ ?_;have S:∃ q,h'.get? a=BD q:=let ⟨q,_,_,j,_⟩:=i;⟨q,j⟩;exact eE I (by rw[e];exact True.intro) x S$ dD t p (f.put k G) i
 ·subst o n;cases (show u=Mb b from J);obtain⟨z,p,xs,f,m⟩:=ÿ I.Lc e;have B:xs.length<=sizeLine:=by rw[<-Paired.length f];exact z
  have t:(Rl d k v).length<=sizeLine:=by have:=fL d k v;lia
  refine wpAny_setItem_heap (hsz:=B) (show A.units+1+5<cLine by lia) (wD I.Lc D) m λh' i x=>h _ ?_;obtain⟨q,M,L,j,N,ϋ,P,_,R⟩:=i;refine eE I (by rw[e];exact True.intro) x ⟨q,j⟩ ⟨t,p,_,(f.put k D G).keeps λc V F=>?_,q,M,L,j,N,ϋ,P,R⟩;rw[Dd$ zL F e (λz=>nomatch z)];exact F
end
section
variable{pins:List$ Addr × Obj}{σ:St}{H:Hp}{s:Shared}{a:Addr}{kvs:List$ Bd × V}{k:Bd}{u:Value}{A:Na}{E:Value->Shared->Prop}
def zh3(I:db X pins σ H s)(e:H a=BD (ϝ kvs))(n:qd (kV k) u)(l:(Kl kvs k).isSome=G6)(h:∀ f,db X pins σ (Yb H a$ ϝ$ uv kvs k) f->Q () f) :
  wpAny (model X.prog X.w) A (delItem (Mb a) u) Q E s:=by
 obtain⟨z,g,o,b,d⟩:=XF I.Lc e;refine wpAny_delItem_slot d.typeIs ⋯ Nl
  (Zl Nl d.typeIs PySem.F.entry_dict_delitem (PySem.F.args_dict_delitem_2 _ _) (meets_dict_delitem_pairs _ a$ Qu n) ⟨o,d,by rw[<-b.length];exact z,by rw[<-(b.val k).ug];exact l,λh' c m=>h _ ?_⟩)
 have i:∃ q,h'.get? a=BD q:=let ⟨q,_,_,j,_⟩:=c;⟨q,j⟩;exact eE I (by rw[e];exact True.intro) m i$ dD (Ya (gR kvs k) z) g (b.drop k) c
def Y6(I:db X pins σ H s)(e:H a=BD (ϝ kvs))(j:qd (kV k) u)(l:Kl kvs k=BD v)(n:b=[]\/∃ x,b=[x])
  (h:∀ f o,db X pins σ (Yb H a$ ϝ$ uv kvs k) o->qd v f->Q f o):wpAny (model X.prog X.w) A (call (ϣ "dict.pop")$ Mb a::u::b) Q E s:=by
 obtain⟨z,r,J,c,m⟩:=XF I.Lc e;obtain⟨f,G,g⟩:=Wm.some_of (by rw[<-l];exact c.val k);have B:(keyPart u).isSome=G6:=by
  cases k with
  |inl i=>obtain⟨t,q⟩:=(j);subst q;rfl
  |inr x=>obtain⟨t,q⟩:=(j);subst q;rfl
 have p:Vp "dict.pop" ⟨Mb a::u::b,[]⟩:=by
  rcases n with q|⟨x,q⟩
  ·subst q;exact PySem.F.args_dict_pop_2 _ _
  ·subst q;exact PySem.F.args_dict_pop_3 _ _ _
 refine Zl Pn m.typeIs PySem.F.entry_dict_pop p (meets_dict_pop_there _ a (Qu j) b n B)
  ⟨J,f,m,by rw[<-c.length];exact z,G,λh' d D=>h f _ ?_ g⟩
 have y:∃ q,h'.get? a=BD q:=let ⟨q,_,_,C,_⟩:=d;⟨q,C⟩;exact eE I (by rw[e];exact True.intro) D y$ dD (Ya (gR kvs k) z) r (c.drop k) d
end
def kK(i:Qa):Prop:=∀ b a,Yn i İ b a=operate [b,a] (Qh b a)
def Ô{T t}
  (p:typeLookup (Jh T) "__getitem__" = pure (BD$ ϣ t)) (q:kK b)
  (h:wpAny (model a w) A (Lb c j) (λo f=>wpAny (model a w) A (Lb b j) (λi d=>d.TypeIs o T/\wpAny (model a w) A (Qh o i) Q E d) E f) E s) :
  wpAny (model a w) A (Lb (ϥ c b m) j) Q E s:=by
 refine Ez (dc h (λo f k=>dc k (λi d e=>?_) λu u x=>x) λu u x=>x);obtain⟨n,e⟩:=e;refine aa ?_;refine aa$ Lg n p ?_;have Mf:wpAny (model a w) A (Yn b İ o i) (λr g=>wpAny (model a w) A (letTemporaryGo c o r >>= λu=>pure r) Q E g) E d:=by
  rw[q o i];exact wpAny_operating (dc e (λr g l=>aa$ wpAny_letTemporaryGo$ ga l) λu u x=>x)
 first
  |exact ga$ aa Mf
  |exact aa _
  |exact aa Mf
def Â(I:db X c h H s)(g:gk H a y o):s.TypeIs (Mb a) "dict":=by
 rcases g with⟨f,k,e,_,_⟩|⟨f,k,b,e,_,_,_⟩
 ·obtain⟨_,_,i,_,d⟩:=gu I.Lc e;exact d.typeIs
 ·obtain⟨_,_,xs,_,d⟩:=aD I.Lc e;exact d.typeIs
noncomputable def MZ(td ty:TE):TE:=λc H Q=>td c H λx d=>ty c d λy b=>∃ a v,x=ϗ a/\gk b a y (BD v)/\Q v b
section
variable{o i e value:Qa}{pos pos' tpos:Zd}{td ty tv:TE}
def Ų(p:X.A.units+7<cLine)(m:PE X o td)(l:PE X i ty)(n:kK i):PE X (ϥ o i pos)$ MZ td ty:=by
 intro b s e H Q I h;refine Ô PySem.F.slot_dict_getitem.lookup n (Fd (m b s e H _ I h) λu s1 zZ=>?_);obtain⟨x,H1,j,t,q⟩:=zZ;refine Fd (l b s1 e H1 _ j q) λz s2 zZ=>?_;obtain⟨y,f,d,w,a,v,ex,g,r⟩:=zZ;subst ex;obtain rfl:u=Mb a:=t;exact⟨Â d g,Ð p d g w λC B k c=>⟨v,f,k,c,r⟩⟩
end
def XY(h:Heap)(a:bf<h.objs.size):Cj P w H (h.push { cls:=Jh "dict",data:=.dict #[] }) h.objs.size$ ϝ []:=
 ⟨qg _,be.mpr$ Vd$ Ba a,[],Ϡ,KO h⟩
def C3(h:Heap)(a:bf<h.objs.size):Cj P w H (h.push { cls:=Jh "dict",data:=.dict #[] }) h.objs.size$ .dT []:=
 ⟨qg _,be.mpr$ Vd$ Ba a,[],Ϡ,_,#[],0,Fa _ rfl,⟨rfl,rfl,rfl⟩,rfl,rfl,Em⟩
def R3:TE:=λa H Q=>∀ p,H p=Α->Q (ϗ p) (Yb H p$ ϝ [])
def U9:TE:=λa H Q=>∀ p,H p=Α->Q (ϗ p) (Yb H p$ .dT [])
section
variable{pos:Zd}
def QP:PE X (.Dict [] [] pos) R3:=λa s b H Q I h=>
 oE ⟨ϗ s.heap.objs.size,_,I.laid (λa a q=>ja _ q) (ya _)$ XY s.heap I.JK,rfl,h _$ I.Lc.fresh$ ya _⟩
def Ň:PE X (.Dict [] [] pos) U9:=λa s b H Q I h=>
 oE ⟨ϗ s.heap.objs.size,_,I.laid (λc c q=>ja _ q) (ya _)$ C3 s.heap I.JK,rfl,h _$ I.Lc.fresh$ ya _⟩
end
section
variable{pins:List$ Addr × Obj}{σ:St}{H:Hp}{s:Shared}{a:Addr}{kvs:List$ Bd × V}{A:Na}{E:Value->Shared->Prop}
def o9(I:db X pins σ H s)(e:Rd H a$ ϝ kvs)(h:∀ p g,H p=Α->db X pins σ (Yb H p$ ϝ kvs) g->Q (Mb p) g):wpAny (model X.prog X.w) A (call (Jh "dict") [Mb a]) Q E s:=by
 obtain⟨z,j,l,c,i⟩:=gu I.Lc e;exact kt_call_dict j i (by rw[<-c.length];exact z) λh' d k=>(h _ _ (I.Lc.fresh$ ya _)$ I.laid (λb q f=>((k.2 b$ Ba$ za f).trans$ ja _ f)) (ya _)$ dD z (be.mpr$ Vd$ Ba I.JK) c d)
end
end L2
namespace L4
open Spec L2
noncomputable def Ai:D->Option Bd
 | Z i=>BD (.inl i)
 | ϔ x=>BD (.inr x)
 |_=>Α
noncomputable def ph(b:Ha):D->Option (List$ Bd × D)
 | ϩ ks xs=>if ks.length=xs.length then BD (ks.zip xs)else Α
 | O n=>(match b[n]? with
  |some (ώ a)=>BD a
  |some (ϧ a)=>BD a
  |_=>Α)
 |_=>Α
noncomputable def qi(a:List$ Bd × D)(k:Bd):Option D:=(a.find? λb=>decide$ b.1=k).map (·.2)
noncomputable def Ni(a:List$ Bd × D)(k:Bd)(d:D):List$ Bd × D:=
 if a.any (λb=>decide$ b.1=k)then a.map λb=>if b.1=k then (b.1,d)else b else a++[(k,d)]
section
variable{μ:b'}{H:Hp}
def cx(h:Oa T μ H y v)(e:Ai y=BD k):v=kV k:=by
 cases y<;>simp[Ai]at e<;>subst e<;>rw[Oa]at h<;>exact h
theorem JI:∀ {ks:List Bd} {ds:B'} {a:List$ Bd × V},a.map (·.1)=ks->ub T μ H ds (a.map (·.2))->Di T μ H (ks.zip ds) a
 |ks,[],a,c,b=>by
  rw[ub]at b;have:a=[]:=by simpa using b
  subst this;rw[<-c];exact Ϡ
 |ks,d::ds,a,c,b=>by
  obtain⟨v,r,e,f,g⟩:=b;cases a with
  |nil=>cases e
  |cons p a=>
   cases e;rw[<-c];exact Ϟ ⟨rfl,f⟩$ JI rfl g
def By(r:vd T μ H i)(h:Oa T μ H x v)(e:ph i x=BD f):∃ a b,v=ϗ a/\Rd H a (ϝ b)/\Di T μ H f b:=by
 cases x with
 |Pa ks xs=>
  obtain⟨a,b,rfl,_,c,d,j⟩:=h;unfold ph at e;dsimp only at e;split at e
  ·cases e;exact⟨a,b,rfl,c,JI d j⟩
  ·cases e
 |ref n=>
  unfold ph at e;dsimp only at e;cases q:i[n]? with
  |none=>simp_all
  |some o=>
   rw[q]at e;cases o with
   |Pa g=>
    cases e;obtain⟨a,rfl,_,b,c,d⟩:=r.at h q;exact⟨a,b,rfl,ϑ c,d⟩
   |Qc g=>
    cases e;obtain⟨a,rfl,_,ob,b,c,d⟩:=r.at h q;exact⟨a,b,rfl,ϖ ⟨ob,c⟩,d⟩
   |_=>cases e
 |_=>cases e
def Xz(h:Di T μ H a c) k:(qi a k=Α/\Kl c k=Α)\/∃ d v,qi a k=BD d/\Kl c k=BD v/\Oa T μ H d v:=by
 induction h with
 |nil=>exact ϑ ⟨rfl,rfl⟩
 |@cons p q ps l h t j=>
  obtain⟨g,i⟩:=h;by_cases e:p.1=k
  ·have b:=g.symm.trans e;exact ϖ ⟨p.2,q.2,by unfold qi;rw[wg,Eb e];rfl,ZI b,i⟩
  ·have b:=λz=>e$ g.trans z;have f:qi (p::ps) k=qi ps k:=by unfold qi;rw[wg,Xa e]
   rw[f,KI b];exact j
def QZ(h:Di T μ H a c) k:(a.any λb=>decide$ b.1=k)=(c.any λb=>decide$ b.1=k):=by
 induction h with
 |nil=>rfl
 |@cons p q ps e h t d=>simp_all
theorem QW{d e:Type}{F:d->e->Prop}{f:d->d}{g:e->e}(c:∀ a b,F a b->F (f a) (g b)):∀ {l:List d} {m:List e},Paired F l m->Paired F (l.map f) (m.map g)
 |_,_,Ϡ=>Ϡ
 |_,_,Ϟ h t=>Ϟ (c _ _ h) (QW c t)
theorem pV{d e:Type}{F:d->e->Prop}{a:d}{b:e}(c:F a b):∀ {l:List d} {m:List e},Paired F l m->Paired F (l++[a]) (m++[b])
 |_,_,Ϡ=>Ϟ c Ϡ
 |_,_,Ϟ h t=>Ϟ h (pV c t)
def qV(h:Di T μ H a b) k(c:Oa T μ H d v):Di T μ H (Ni a k d)$ Rl b k v:=by
 unfold Ni Rl;rw[QZ h k];split
 ·refine QW (λp q h=>?_) h;by_cases e:p.1=k;all_goals simp_all
 ·exact pV ⟨rfl,c⟩ h
def Di.mono(e:Ld μ H b c)(h:Di T μ H a d):Di T b c a d:=Paired.wo h λf f z=>⟨z.1,Oa.mono e _ _ z.2⟩
def _root_.L2.gk.kr(e:Rd H a$ ϝ b):gk H a (kV k)$ Kl b k:=ϑ ⟨b,k,e,rfl,rfl⟩
def Lh(x y:D):M D:=λb=>match Ai y with
 |some k=>(match ph b x with
  |some a=>(match qi a k with
   |some d=>Y d b
   |none=>Ϙ)
  |none=>Ϙ)
 |none=>Ϙ
def Qw(hu:X.A.units+9<cLine)(G:FE T X o p)(F:FE T X i fi)(L:kK i):FE T X (ϥ o i g)$ qb Lh p fi:=by
 intro c s st H Q I h;refine Ų ⋯ G F L c s st H Q I ?_;obtain⟨μ,t,ό,q,K,J⟩:=h;refine⟨μ,t,ό,q,K,J.bind λx m l v ϊ D z S P ϋ=>⟨l,t,m,q.mono z,S,ϋ.bind λy n W u H2 D B r R b=>?_⟩⟩;unfold Lh at b;cases f:Ai y with
 |none=>rw[f]at b;exact b.elim
 |some k=>
  rw[f]at b;cases e:ph n x with
  |none=>rw[e]at b;exact b.elim
  |some N=>
   rw[e]at b;dsimp only at b;obtain⟨a,vs,rfl,C,E⟩:=By r (Oa.mono B _ _ P) e;obtain rfl:=cx R f;rcases Xz E k with⟨j,_⟩|⟨d,w,j,U,V⟩
   ·rw[j]at b;exact b.elim
   ·rw[j]at b;exact⟨a,w,rfl,by rw[<-U];exact gk.kr C,Xb.here b r V⟩
noncomputable def zU:R2:=λy x H Q=>∃ a o,x=ϗ a/\gk H a y o/\Q (Ϭ o.isSome) H
def nU(f:X.A.units+9<cLine):yh X (Pb .In) zU:=by
 rintro b s j H y x h u Q I e d ⟨a,o,rfl,g,q⟩;obtain rfl:u=Mb a:=d;exact m5 ⋯ I g e λi c=>⟨Ϭ o.isSome,H,c,rfl,q⟩
def ju(y x:D):M D:=λb=>match Ai y with
 |some k=>(match ph b x with
  |some a=>Y (ϒ (qi a k).isSome) b
  |none=>Ϙ)
 |none=>Ϙ
theorem rP:Zj T zU ju:=by
 intro E μ H m y x u v Q r q p h;unfold ju at h;cases c:Ai y with
 |none=>rw[c]at h;exact h.elim
 |some k=>
  rw[c]at h;cases b:ph m x with
  |none=>rw[b]at h;exact h.elim
  |some j=>
   rw[b]at h;obtain⟨a,l,rfl,g,i⟩:=By r p b;obtain rfl:=cx q c;refine⟨a,Kl l k,rfl,gk.kr g,Xb.here h r ?_⟩;rcases Xz i k with⟨e,f⟩|⟨d,w,e,f,n⟩
   ·rw[e,f];rfl
   ·rw[e,f];rfl
noncomputable def lZ:NG:=λx y v H Q=>∃ a b,x=ϗ a/\Pw H a y v b/\Q b
def KP(k:X.A.units+9<cLine):YS X lZ:=by
 rintro b s st H o i v e l u Q I h f j ⟨a,c,rfl,g,q⟩;obtain rfl:e=Mb a:=h;exact Z3 ⋯ I g f j λm d=>⟨c,d,q⟩
def zn(c:Ev)(d x:D)(y:D):M Fl:=λb=>match x with
 | O n=>(match Ai y with
  |some k=>(match b[n]? with
   |some (ώ a)=>if a.length<lg then Y (ϙ c) (b.set n$ ώ$ Ni a k d)else Ϙ
   |_=>Ϙ)
  |none=>Ϙ)
 |_=>Ϙ
def HJ(a:Ev)(b:Ev->M D)(d x:D):M Fl:=xs a (b a)$ zn a d x
def BO(a:Ev)(c b:Ev->M D)(d:D):M Fl:=xs a (c a)$ HJ a b d
def Hr(f c b:Ev->M D):Ev->M Fl:=λa=>xs a (f a)$ BO a c b
def KG(hu:X.A.units+9<cLine)(he:FE T X e f)(ho:FE T X o R)(hi:FE T X i fi)
  (ϊ:∀ v,Sj (ϥ o i b) X.env v=(do
   let t <-we [v] (Lb o X.env);let F <-we [v,t] (Lb i X.env)
   ah b
   we [v,t,F] (Xt t F v)
   release [v,t,F] []):=by intro _;rfl)
  (hs:Xk [ϥ o i b] e p.line X.env=pure İ:=by rfl) (hw:Yk [ϥ o i b] e X.env=pure Α:=by rfl)
  (ό:(ge [ϥ o i b] X.env).map (·.2)=[Sj (ϥ o i b) X.env]:=by rfl):FS T X (.Assign [ϥ o i b] e p)$ Hr f R fi:=by
 intro m s st H D I hq;refine vO he (cW ho hi (KP hu) ϊ) hs hw ό m s st H D I ?_;obtain⟨μ,L,σ,g,hr,hp⟩:=hq;refine⟨μ,L,σ,g,hr,hp.xs g λd N J v H1 d h r1 q1 p1=>⟨J,L,N,g.mono h,r1,p1.xs (g.mono h) λx ϋ K vo H2 d r r2 q2 p2=>⟨K,L,ϋ,(g.mono h).mono r,r2,p2.xs ((g.mono h).mono r) λy P q vi Q d u V q3 c=>?_⟩⟩⟩;have hx:=Oa.mono u _ _ q2;unfold zn at c;cases x with
 |ref n=>
  dsimp only at c;cases w:Ai y with
  |none=>rw[w]at c;exact c.elim
  |some k=>
   rw[w]at c;cases B:P[n]? with
   |none=>rw[B]at c;exact c.elim
   |some ob=>
    rw[B]at c;cases ob with
    |Pa l=>
     dsimp only at c;by_cases E:l.length<lg
     ·rw[ka E]at c;obtain⟨a,rfl,U,W,S,C⟩:=V.at hx B;obtain rfl:=cx q3 w;have G:=V.write (ob:=ώ _) U ⟨_,Lf,by
       have ex:Ld q Q q$ Yb Q a$ ϝ$ Rl W k v:=At (Da U) S (λd z=>by cases z) (λd d z=>by cases z);exact qV (Di.mono ex C) k$ Oa.mono ex _ _$ Oa.mono u _ _$ Oa.mono r _ _ q1⟩
      have j:W.length=l.length:=by unfold Di at C;exact(Paired.length C).symm
      exact⟨a,_,rfl,Pw.k S (by rw[j];exact La E ⋯),c _ (Ϻ st) _ G.1 G.2$ ((g.mono h).mono r).mono u |>.mono G.1⟩
     ·rw[ua E]at c;exact c.elim
    |_=>exact c.elim
 |_=>exact c.elim
noncomputable def uo:Ev->M D:=λb a=>Y (O a.length)$ a++[ώ []]
def T4:FE T X (.Dict [] [] b) uo:=by
 rintro a s f H Q I ⟨μ,h,i,g,d,e⟩;exact QP a s f H Q I λp c=>(e _ _ _ (Bu c) (d.push c ⟨[],Lf,Ϡ⟩)$ ZA d)
def XP:FE T X (.Dict [] [] c)$ eC$ ϩ [] []:=by
 rintro a s h H Q I ⟨μ,j,k,i,d,g⟩;exact QP a s h H Q I λp b=>(g μ _ _ (Ij b) (d.fresh b)$ by rw[Oa];exact⟨p,[],rfl,λf=>(by obtain⟨u,e,_⟩:=d.mem f;rw[b]at e;cases e),(ϑ Lf),rfl,ub.nil⟩)
def SN:lv->Hp->VK->Prop:=λxs H Q=>∃ a b,xs=[ϗ a]/\Rd H a (ϝ b)/\∀ p,H p=Α->Q (ϗ p) (Yb H p$ ϝ b)
def rQ:Xl X (Jh "dict") SN:=by
 rintro b s h H xs i Q I r ⟨a,f,rfl,e,q⟩;obtain⟨u,rfl,rfl⟩:=bq r;exact o9 I e λp g d c=>⟨ϗ p,_,c,rfl,q p d⟩
def DD(c:B'):M D:=λb=>match c with
 |[x]=>(match ph b x with
  |some a=>Y (ϩ (a.map (·.1)) (a.map (·.2))) b
  |none=>Ϙ)
 |_=>Ϙ
theorem DV:∀ {a:List$ Bd × D} {b:List$ Bd × V},Di T μ H a b->b.map (·.1)=a.map (·.1)/\ub T μ H (a.map (·.2)) (b.map (·.2)):=by
 intro _ _ h;induction h with
 |nil=>exact⟨rfl,ub.nil⟩
 |cons h _ i=>exact⟨by rw[nb,nb,i.1,h.1],ub.cons h.2 i.2⟩
def N0:No T SN DD:=by
 intro E μ H q f t Q r p h
 match f with
 |[]=>trivial
 |[x]=>
  unfold DD at h;dsimp only at h;cases c:ph q x with
  |none=>rw[c]at h;exact h.elim
  |some k=>
   rw[c]at h;obtain⟨v,s,rfl,m,rfl⟩:=p;obtain⟨a,e,rfl,g,i⟩:=By r m c;refine⟨a,e,rfl,g,λl b=>?_⟩;obtain⟨n,o⟩:=DV i;exact h μ _ _ (Ij b) (r.fresh b) (by rw[Oa];exact⟨l,e,rfl,λj=>(by obtain⟨u,d,_⟩:=r.mem j;rw[b]at d;cases d),(ϑ Lf),n,ub.mono (Ij b) _ _ o⟩)
 |_::_::_=>trivial
end
noncomputable def GE(b:B'):M D:=λa=>match b with
 |[x]=>(match x with
  | Z i=>Y (Z i) a
  | ϒ k=>Y (Z$ if k then 1 else 0) a
  |_=>Ϙ)
 |_=>Ϙ
def Y1:No T (λxs H Q=>(∃ i,xs=[Ϣ i]/\Q (Ϣ i) H)\/∃ k,xs=[Ϭ k]/\Q (Ϣ$ if k then 1 else 0) H) GE:=by
 intro E d H e xs c Q r p h
 match xs with
 |[]=>exact h.elim
 |[x]=>
  obtain⟨v,w,rfl,a,b⟩:=p;rw[ub]at b;subst b;cases x with
  |int i=>rw[Oa]at a;subst a;exact ϑ ⟨i,rfl,Xb.here h r (by rw[Oa])⟩
  |bl k=>rw[Oa]at a;subst a;exact ϖ ⟨k,rfl,Xb.here h r (by rw[Oa])⟩
  |_=>exact h.elim
 |_::_::_=>exact h.elim
noncomputable def WC(o:Int->Int->Int)(i:Nat)(c:Ev)(x d:D):M Fl:=λe=>match x,d with
 | Z a,Z b=>Y (ϙ$ c.set i$ BD$ Z$ o a b) e
 |_,_=>Ϙ
def jx(o:Int->Int->Int)(i:Nat)(f:Ev->M D):Ev->M Fl:=λa=>match a[i]? with
 |some (BD x)=>xs a (f a) (WC o i a x)
 |_=>λb=>Ϙ
def cR(h:a[i]?=BD (BD x)):jx o i f a b=vk a (WC o i a x) (f a b):=by
 unfold jx;rw[h];exact kl ..
@[simp] theorem ztq o i c a b d:WC o i c (Z a) (Z b) d=Y (ϙ$ c.set i$ BD$ Z$ o a b) d:=nr rfl
section
variable{e:Qa}{f:Ev->M D}{pos:Zd}
def vP(C:ML X n$ fT o)(w:X.N.Nodup)(B:X.N[i]?=BD x)(G:Loc X.env.scope x)(z:FE T X e f)(A:X.fn x=G6\/X.env.scope.names.lookup x=BD .local:=by first|exact .inl rfl|exact .inr rfl|assumption) :
  FS T X (.AugAssign (ϛ x j) n e pos)$ jx o i f:=by
 intro h s st H D I F;refine R4 w B G z C A h s st H D I ?_;obtain⟨L,p,ϋ,l,E,c⟩:=F;unfold jx at c;cases k:p[i]? with
 |none=>rw[k]at c;exact c.elim
 |some q=>
  cases q with
  |none=>rw[k]at c;exact c.elim
  |some d=>
   rw[k]at c;obtain⟨v,t,u⟩:=l.2 i d k;refine⟨v,t,L,p,ϋ,l,E,c.xs l λy P M R Q O r K J m=>?_⟩;cases d with
   |int a=>
    cases y with
    |int b=>
     subst u J;exact⟨a,b,rfl,rfl,Xb.here (g:=Ϻ _) m K$ (l.mono r).set i (by rw[Oa])⟩
    |_=>exact m.elim
   |_=>exact m.elim
end
def mz(o:D->B'->M D)(m:M$ B')(x:D):M D:=λa=>match ph a x with
 |some _=>Rc m (o x) a
 |none=>Ϙ
def iI(o:D->B'->M D)(f:Ev->M D)(b:Ev->M (B')):Ev->M D:=λa=>Rc (f a)$ mz o$ b a
def BP:V->lv->Hp->VK->Prop:=λx c H Q=>∃ a b k d,x=ϗ a/\c=[kV k,d]/\H a=BD (ϝ b)/\b.length<sizeLine/\
 (∀ v,Kl b k=BD v->Q v H)/\(Kl b k=Α->Q d (Yb H a$ ϝ$ Rl b k d))
def Uu(x:D)(xs:B'):M D:=λb=>match x,xs with
 | O n,[y,d]=>(match Ai y with
  |some k=>(match b[n]? with
   |some (ώ a)=>if a.length<lg then (match qi a k with
    |some e=>Y e b
    |none=>Y d (b.set n$ ώ$ Ni a k d))else Ϙ
   |_=>Ϙ)
  |none=>Ϙ)
 |_,_=>Ϙ
section
variable{o e:Qa}{es:List Qa}{f:Ev->M D}{fs:Ev->M (B')}{name:Str}{apos cpos:Zd}{id:String}{r:V->lv->Hp->VK->Prop}{g:D->B'->M D}
def Æ:Jw X "dict.setdefault" BP:=by
 rintro l s st H x M v L Q I J G ⟨a,b,k,d,rfl,rfl,i,K,o,p⟩;cases J;obtain⟨u,r,rfl,E,m⟩:=G.two;obtain⟨z,j,n,c,h⟩:=XF I.Lc i;have D:n.length<=sizeLine:=by rw[<-c.length];exact z
 have g:(Rl b k d).length<=sizeLine:=by have:=fL b k d;lia
 refine Zl Ek h.typeIs PySem.F.entry_dict_setdefault (PySem.F.args_dict_setdefault_3 _ _ _) (kt_meets_setdefault _ a (Qu E) j r) ⟨n,h,D,λw C=>?_,λy h' f B=>?_⟩
 ·have q:=c.val k;rw[C]at q;cases e:Kl b k with
  |none=>rw[e]at q;exact absurd q (by simp[Wm])
  |some x=>rw[e]at q;exact⟨x,H,I.tok _,q,o x e⟩
 ·have q:=c.val k;rw[y]at q;cases e:Kl b k with
  |some x=>rw[e]at q;exact absurd q (by simp[Wm])
  |none=>
   have t:∃ q,h'.get? a=BD q:=let ⟨q,_,_,A,_⟩:=f;⟨q,A⟩;exact⟨d,_,eE I (by rw[i];exact True.intro) B t$ dD g j (c.put k m) f,m,p e⟩
def IX(I:db X b h H s)(g:Rd H p$ ϝ c):s.TypeIs (Mb p) "dict"/\∀ a,Mb p=Mb a->∃ d,s.heap.get? a=BD d/\d.dict=Α:=by
 obtain⟨_,_,_,_,o,_,_,e,ex,_⟩:=gu I.Lc g;refine⟨⟨o,e,ex.1⟩,λa f=>?_⟩;cases f;exact⟨o,e,ex.2.1⟩
def U8(r:V->lv->Hp->VK->Prop)(d:TE):TE:=λe H Q=>d e H λx c=>(∃ a b,x=ϗ a/\Rd c a (ϝ b))/\r x [] c Q
def ī(r:V->lv->Hp->VK->Prop)(f:TE)(t:TA):TE:=λd H Q=>f d H λx c=>(∃ a b,x=ϗ a/\Rd c a (ϝ b))/\t d c λxs e=>r x xs e Q
def JT(t:xl "dict")(e:XO "dict" name id)(f:kn (ϣ id)=pure (Jh "method_descriptor"))(n:Jw X id r)(p:PE X o i)
  (c:Ed o name X.env (Lb o X.env)=Lb o X.env:=by rfl) (d:(apos.endLine == cpos.line)=G6:=by rfl):PE X (ϟ (Ϝ o name apos) [] [] cpos)$ U8 r i:=by
 intro b s j H Q I h;refine wpAny_Call_method0_late c d (Fd (p b s j H _ I h) λv s1 ſ=>?_);obtain⟨x,H1,g,w,ty,u⟩:=ſ;obtain⟨a,q,rfl,m⟩:=ty;cases w;obtain⟨k,l⟩:=IX g m;exact⟨"dict",id,t,e,f,k,l,Hh rfl$ PySem.evalArgs_none$ n b s1 j H1 (ϗ a) [] (Mb a) [] Q g rfl Ϡ u⟩
def ż(E:xl "dict")(g:XO "dict" name id)(j:kn (ϣ id)=pure (Jh "method_descriptor"))(A:Jw X id r)(B:PE X o n)(y:PA X (e::es) t)
  (c:Ed o name X.env (Lb o X.env)=Lb o X.env:=by rfl)
  (f:((pc cpos$ va (e::es) X.env).all (λx=>!x.1) && (Fg cpos$ Ge [] X.env).all (λx=>x.1.isSome)
   && decide ((e::es).length+([]:List Mi).length+(if ([]:List Mi).isEmpty then 0 else 1)<30))=G6:=by rfl)
  (d:(apos.endLine == cpos.line)=G6:=by rfl) (C:va (e::es) X.env=(İ,Lb e X.env)::va es X.env:=by rfl) (i:(pc cpos$ va es X.env).any (·.1)=İ:=by rfl) :
  PE X (ϟ (Ϝ o name apos) (e::es) [] cpos)$ ī r n t:=by
 intro b s k H Q I h;refine Kt c f d rfl (Fd (B b s k H _ I h) λv s1 ſ=>?_);obtain⟨x,H1,l,J,ty,F⟩:=ſ;obtain⟨a,D,rfl,z⟩:=ty;cases J;obtain⟨u,w⟩:=IX l z;refine⟨"dict",id,E,g,j,u,w,?_⟩;have m:=y cpos b s1 k H1 _ l F;rw[C]at m ⊢;refine Hh ⋯$ ri (Fd m λus s2 zZ=>?_);obtain⟨L,p,q,K,G⟩:=zZ;exact A b s2 k p (ϗ a) L _ us Q q rfl K G
def hV(R:xl "dict")(l:XO "dict" name id)(q:kn (ϣ id)=pure (Jh "method_descriptor"))(K:Jw X id r)(ϋ:tz T r g)(L:FE T X o f)(J:FA T X (e::es) fs)
  (c:Ed o name X.env (Lb o X.env)=Lb o X.env:=by rfl)
  (i:((pc cpos$ va (e::es) X.env).all (λx=>!x.1) && (Fg cpos$ Ge [] X.env).all (λx=>x.1.isSome)
   && decide ((e::es).length+([]:List Mi).length+(if ([]:List Mi).isEmpty then 0 else 1)<30))=G6:=by rfl)
  (d:(apos.endLine == cpos.line)=G6:=by rfl) (p:va (e::es) X.env=(İ,Lb e X.env)::va es X.env:=by rfl) (b:(pc cpos$ va es X.env).any (·.1)=İ:=by rfl) :
  FE T X (ϟ (Ϝ o name apos) (e::es) [] cpos)$ iI g f fs:=by
 intro j s V H Q I h;refine ż R l q K L J c i d p b j s V H Q I ?_;obtain⟨ϊ,B,σ,y,N,M⟩:=h;refine⟨ϊ,B,σ,y,N,M.bind λx m t v H1 O E A z k=>?_⟩;unfold mz at k;cases n:ph m x with
 |none=>rw[n]at k;exact k.elim
 |some xs=>
  rw[n]at k;obtain⟨a,W,rfl,G,h2⟩:=By A z n;exact⟨⟨a,W,rfl,G⟩,t,B,m,y.mono E,A,k.bind λD w u ό C O F U P S=>(ϋ _ u C w x D _ ό Q U (Oa.mono F _ _ z) P S)⟩
def į:tz T BP Uu:=by
 intro E G H M x xs v N Q r p q h;cases x with
 |ref n=>
  match xs with
  |[]=>exact h.elim
  |[_]=>exact h.elim
  |[y,d]=>
   obtain⟨w,z,rfl,J,K⟩:=q;obtain⟨D,f,rfl,B,C⟩:=K;rw[ub]at C;subst C;unfold Uu at h;cases m:Ai y with
   |none=>simp[m]at h;exact h.elim
   |some k=>
    simp[m]at h;cases b:M[n]? with
    |none=>simp[b]at h;exact h.elim
    |some ob=>
     cases ob with
     |Pa j=>
      simp[b]at h;by_cases o:j.length<lg
      ·rw[ka o]at h;obtain⟨a,rfl,A,s,u,g⟩:=r.at p b;obtain rfl:=cx J m;have i:s.length=j.length:=by unfold Di at g;exact(Paired.length g).symm
       refine⟨a,s,k,D,rfl,rfl,u,by rw[i];exact mS o,λv e=>?_,λe=>?_⟩
       ·rcases Xz g k with⟨l,f⟩|⟨I,L,l,f,F⟩
        ·rw[f]at e;cases e
        ·rw[f]at e;cases e;rw[l]at h;exact Xb.here h r F
       ·rcases Xz g k with⟨l,f⟩|⟨I,L,l,f,F⟩
        ·rw[l]at h;have t:=r.write (ob:=ώ _) A ⟨_,Lf,by
          have ex:Ld G H G$ Yb H a$ ϝ$ Rl s k D:=At (Da A) u (λO z=>by cases z) (λO O z=>by cases z);exact qV (Di.mono ex g) k$ Oa.mono ex _ _ B⟩
         exact h _ _ _ t.1 t.2$ Oa.mono t.1 _ _ B
        ·rw[f]at e;cases e
      ·rw[ua o]at h;exact h.elim
     |ra ϋ=>simp[b]at h;exact h.elim
     |yb c fs=>simp[b]at h;exact h.elim
     |Qc _=>simp only[b]at h;exact h.elim
     |nc _=>simp only[b]at h;exact h.elim
  |_::_::_::_=>exact h.elim
 |_=>exact h.elim
end
def Mv(a:Ha)(x:D):B'->Option (List Bool)
 |[]=>BD []
 |y::c=>match xi a 7 y x,Mv a x c with
  |some b,BD bs=>BD (b::bs)
  |_,_=>Α
def TF(a:Bool)(x y:D):M D:=λb=>match pi b y with
 |some xs=>(match Mv b x xs with
  |some bs=>Y (ϒ$ if a then !(bs.any id)else bs.any id) b
  |none=>Ϙ)
 |none=>Ϙ
theorem zV{a:Ha}{x:D}:∀ {xs:B'} {bs:List Bool},Mv a x xs=BD bs->bs.length=xs.length/\∀ (j:Nat) (d:D) (b:Bool),xs[j]?=BD d->bs[j]?=BD b->xi a 7 d x=BD b
 |[],bs,h=>by cases h;exact⟨rfl,λj d b h=>by simp at h⟩
 |y::k,bs,h=>by
  unfold Mv at h;cases f:xi a 7 y x with
  |none=>simp_all
  |some l=>
   cases c:Mv a x k with
   |none=>simp_all
   |some e=>
    rw[f,c]at h;cases h;obtain⟨g,i⟩:=zV c;refine⟨by simp[g],λj d b n m=>?_⟩;cases j with
    |zero=>simp_all
    |succ j=>exact i j d b (by trivial) (by trivial)
open Classical in
def Uz(a:dl)(b:List Bool)(u:Value):Bool:=decide$ ∃ j:Nat,a[j]?=BD u/\b[j]?=BD G6
def VF:Uz a b u=G6 ↔ ∃ j:Nat,a[j]?=BD u/\b[j]?=BD G6:=by unfold Uz;exact @decide_eq_true_iff _$ Classical.propDecidable _
def CW{a:dl}(k:c.length=a.length):a.toArray.any (Uz a c)=c.any id:=by
 rw[show a.toArray.any _=a.any (Uz a c) by simp,Zh,Uc,Uc];constructor
 ·rintro ⟨u,_,i⟩;obtain⟨j,_,h⟩:=VF.mp i;exact⟨G6,Da h,rfl⟩
 ·rintro ⟨b,d,g⟩;cases (g);obtain⟨j,f,h⟩:=vr d;have e:j<a.length:=by lia
  exact⟨a[j],Ch e,VF.mpr ⟨j,by simp,by simp[f,h]⟩⟩
def yes(m:c.length=a.length)(h:∀ (j:Nat) u b,a[j]?=BD u->c[j]?=BD b->Pc A s u x b) w(k:w∈a):Pc A s w x$ Uz a c w:=by
 cases e:Uz a c w with
 |true=>obtain⟨j,f,g⟩:=VF.mp e;exact h j w G6 f g
 |false=>
  obtain⟨j,d,rfl⟩:=vr k;have i:j<c.length:=by lia
  have l:c[j]=İ:=by
   cases q:c[j]with
   |false=>rfl
   |true=>exact absurd (VF.mpr ⟨j,Db d,by rw[Db i,q]⟩) ⋯
  exact h j _ İ (Db d) ⋯
def ŕ(L:T.K=X.K)(W:X.A.units+9<cLine){st}(I:db X m st H s)(r:vd T B H C)(N:Oa T B H x v)(ϋ:Oa T B H y u)(R:qd v n)(P:qd u t)
  {xs} (e:pi C y=BD xs) (J:Mv C x xs=BD h) :
  (Q (Dg$ h.any id) s->wpAny (model X.prog X.w) X.A (Pb .In n t) Q X.xe s)/\(Q (Dg$ !h.any id) s->wpAny (model X.prog X.w) X.A (Pb .NotIn n t) Q X.xe s):=by
 obtain⟨p,U,rfl,E,f⟩:=Yx r ϋ e;rw[L]at f;obtain⟨ό,M⟩:=zV J;cases P;have l:∀ {a:dl},ke U a->(h.length=a.length/\∀ w∈a,Pc X.A.in1 s w n _):=fun {a} q=>by
  have l1:=E.length;have l2:=q.length;have g:h.length=a.length:=by lia
  refine⟨g,yes g λj w b c o=>?_⟩;obtain⟨z,F,S⟩:=cJ q c;obtain⟨d,G,rd⟩:=AL E F;exact LG I r 7 X.A.in1 d x z v w n b ⋯ rd N S R$ M j d b G o
 rcases f with f|f
 ·apply b_;intro z_;obtain⟨a,q,pl,_⟩:=L2.db.list I f;obtain⟨g,k⟩:=l q;apply z_;refine⟨λi=>Lu _ pl.isList (λw c=>k w (by simpa using c)) ?_,λi=>SeqAt.notIn_listAt _ pl.isList (λw c=>k w ⋯) ?_⟩<;>rw[CW g]<;>exact i
 ·apply b_;intro z_;obtain⟨a,q,pl,_⟩:=L2.db.tuple I f;obtain⟨g,k⟩:=l q;apply z_;refine⟨λi=>Jt _ pl (λw c=>k w (by simpa using c)) ?_,λi=>SeqAt.notIn_tupleAt _ pl (λw c=>k w ⋯) ?_⟩<;>rw[CW g]<;>exact i
def FX(f:T.K=X.K)(g:X.A.units+9<cLine):yh X (Pb .In)$ rD T$ TF İ:=by
 rintro c s st H v u m l Q I k j ⟨E,n,d,x,y,r,h,i,a⟩;unfold TF at a;cases e:pi d y with
 |none=>rw[e]at a;exact a.elim
 |some xs=>
  rw[e]at a;dsimp only at a;cases b:Mv d x xs with
  |none=>rw[b]at a;exact a.elim
  |some bs=>
   rw[b]at a;exact(ŕ f g I r h i k j e b).1 ⟨Ϭ _,H,I,rfl,Xb.here a r (by rw[Oa];rfl)⟩
noncomputable def Xx:Ev->M Fl:=λa a=>Ϙ
def j8:FS T X e Xx:=by rintro pins s st H D I ⟨b,c,σ,_,_,a⟩;exact a.elim
section
variable{pins:List$ Addr × Obj}{σ:St}{H:Hp}{s:Shared}{h':Heap}
def QD(e:H b=BD u)(n:H a=Α):b≠a:=λz=>by rw[z,n]at e;cases e
def _root_.L2.db.Ys{a:b'}(I:db X pins σ H s)(k:∀ b u,b ∉ a->s.heap.get? b=BD u->h'.get? b=BD u)(h:∀ b∈a,Ak X pins H b)(j:s.heap.objs.size<=p)(i:Cj X.prog X.w (Yb H p o) h' p o) :
  db X pins σ (Yb H p o) { s with heap:=h',toks:=t' }:=by
 have f:=I.Lc.fresh j;have E:∀ b u,H b=BD u->b ∉ a:=λb u e z=>by rw[(h b z).1]at e;cases e
 refine I.step (λb g=>?_) (λb o m m d e m=>k b o d e) (λb o m m d e m=>⟨o.slots,k b o d e⟩) (λb u m q n=>by rw[Dd$ Ba$ La (za q) j];exact n)
  (λb o d e=>⟨o,k b o d e⟩) (λb xs q=>by rw[Dd$ QD q f];exact q) (λb u xs q=>by rw[Dd$ QD q f];exact q) (λb ps q=>⟨#[],by rw[Dd$ QD q f,q];simp⟩) (λm C=>?_) (λb u e=>?_) I.bare
 ·obtain⟨F,x,G,y,A,B⟩:=h b g;exact⟨y,x,A,B⟩
 ·obtain⟨o,t,l,D,r⟩:=C;exact⟨o,t,l,k _ o (λz=>(h _ z).2.1 rfl) D,r⟩
 ·by_cases g:b=p
  ·subst g;rw[Lf]at e;cases e;exact i
  ·rw[Dd g]at e;refine(I.Lc b u e).mj (λc v d q=>k c v ?_ q) (λc q=>by rw[Dd$ QD q f];exact q) λc xs q=>by rw[Dd$ QD q f];exact q
   grind
def _root_.L2.db.Ls{a:b'}(I:db X pins σ H s)(k:∀ b u,b ∉ a->s.heap.get? b=BD u->h'.get? b=BD u)(f:∀ b∈a,Ak X pins H b):db X pins σ H { s with heap:=h',toks:=t' }:=by
 have y:∀ b u,H b=BD u->b ∉ a:=λb u e z=>by rw[(f b z).1]at e;cases e
 refine I.step (λb t=>?_) (λb o m m d e m=>k b o d e) (λb o m m d e m=>⟨o.slots,k b o d e⟩) (λb u m q n=>n)
  (λb o d e=>⟨o,k b o d e⟩) (λb xs q=>q) (λb u xs q=>q) (λb ps q=>⟨#[],by rw[q];simp⟩) (λm w=>?_) (λb u e=>?_) I.bare
 ·obtain⟨A,i,B,j,l,p⟩:=f b t;exact⟨j,i,l,p⟩
 ·obtain⟨o,h,g,x,r⟩:=w;exact⟨o,h,g,k _ o (λz=>(f _ z).2.1 rfl) x,r⟩
 ·refine(I.Lc b u e).mj (λc v d q=>k c v ?_ q) (λm q=>q) λm m q=>q
  grind
end
def Om{h:Heap}(e:h.get? a=BD o)(i:h.get? b=BD f)(c:o.cls=Jh n)(g:f.cls=Jh d)(j:n≠d):a≠b:=λz=>by
 simp_all
noncomputable def sQ(K:ϕ)(l:Addr):It:=
 ⟨λi H=>∃ xs x,Ie K H l xs/\xs[i]?=BD x,λi H v a=>∃ p x,H p=Α/\v=ϗ p/\(∀ xs,Ie K H l xs->xs[i]?=BD x)/\a=Yb H p (.Sa [Ϣ i,x]),λi H=>∃ xs,Ie K H l xs/\i=xs.length⟩
noncomputable def ET(K:ϕ)(l m:Addr):It:=
 ⟨λi H=>∃ xs a x y,Ie K H l xs/\Ie K H m a/\xs[i]?=BD x/\a[i]?=BD y,λi H v b=>∃ p x y,H p=Α/\v=ϗ p/\(∀ xs,Ie K H l xs->xs[i]?=BD x)/\(∀ a,Ie K H m a->a[i]?=BD y)/\b=Yb H p (.Sa [x,y]),
  λi H=>∃ xs a,Ie K H l xs/\Ie K H m a/\i=min xs.length a.length⟩
def ĸ{P:Ca}{w:Ua}{K:PySem.W.Frag}{j:List Qa}{kk:Nat}{F:Zd}(l e r:Addr):Vm P w K (ϲ j kk F) (sQ K l) [e,r] e (λi h=>(∃ a,IsEnum h e r i a)/\h.IsListIter r l i) where
 mem:=by simp
 obj:=λi h st b f=>by
  obtain⟨⟨a,s1⟩,o,s2,c,d⟩:=st;simp only[Ea,kc,Qg]at f;rcases f with rfl|rfl;all_goals grind
 keep:=λi h h' st k=>by
  obtain⟨⟨a,s1⟩,s2⟩:=st;exact⟨⟨a,k e ⋯ _ s1⟩,s2.at λo q=>k r ⋯ o q⟩
 item:=by
  intro X ϋ V N S i D s σ H E I J st U;subst ϋ V N;obtain⟨xs,x,L,ό⟩:=U;obtain⟨g,rv,p,hz⟩:=I.list L;obtain⟨u,hu,ru⟩:=rv.get ό;obtain⟨⟨a,s1⟩,s2⟩:=st;obtain⟨oa,ea,ca,_⟩:=id p.isList;obtain⟨ob,G,cb,_⟩:=id s2;have a0:l≠e:=Om ea s1 ca rfl ⋯;have a1:l≠r:=Om ea G ca cb ⋯;have ϊ:e≠r:=Om s1 G rfl cb ⋯;have W:=WalksT.enumerate (prog:=X.prog) (w:=X.w) (I.ok.hd S) e r l ϊ a0 a1 g.toArray;have hi:i<g.toArray.size:=by
   have:=(da.mp hu).1;omega
  refine W.item i s _ E hi ⟨⟨a,s1⟩,s2,p.isList⟩ λT a2 h' tk R hT v m hk=>?_;obtain⟨t,y,M,rfl⟩:=R;have ey:y=u:=by
   have:g.toArray[i]?=BD u:=by simpa using hu
   rw[this]at M;cases M;rfl
  subst ey;refine⟨Mb T,rfl,W.go j kk F i T { s with heap:=h',toks:=tk } _ E m λh2 hS C=>?_⟩;have B:=W.apart i T h' m;have n:h2.IsTuple T #[Tn i t,y]:=by
   obtain⟨o,e1,c1⟩:=v;exact⟨o,C T o B e1,c1⟩
  have hn:H T=Α:=I.Lc.fresh hT;refine⟨ϗ T,Yb H T _,I.Ys (λb o f q=>C b o f$ hk b o f q) J hT ?_,rfl,⟨T,x,hn,rfl,λys M=>by rw[I.Yi M L];exact ό,rfl⟩,⟨hS.1,hS.2.1⟩,λb f=>?_⟩
  ·exact⟨(show 2<=sizeLine by decide),[Tn i t,y],Ϟ ⟨t,rfl⟩$ Ϟ ru Ϡ,n⟩
  ·rw[Dd (λz=>B (by rw[<-z];exact f))];exact(J b f).1
 done:=by
  intro X ϋ V N S i D s σ H E I J st U;subst ϋ V N;obtain⟨xs,L,ό⟩:=U;obtain⟨g,rv,p,hz⟩:=I.list L;obtain⟨⟨a,s1⟩,s2⟩:=st;have hl:=rv.length;exact wpAny_pyNext_enum_end (I.ok.hd S) s1 s2 p.isList (by simp;lia) λh' G=>⟨rfl,I.Ls (λb o f q=>G b o (λz=>f (by simp[z])) q) J⟩
 self:=λA i s Q E st h=>by
  obtain⟨⟨a,s1⟩,s2⟩:=st;exact JB s1 h
def yW{l m z TI TO q r}{xs B}(s:TI≠TO)(t:q≠r)(w:h.IsList l xs)(x:h.IsList m B)(s1:IsZip h z TI TO f)(s2:ZO h TI a b)(j:ZO h TO c d)(y:h.IsListIter q l u)(A:h.IsListIter r m v):ZipApart z TI TO q r l m:=by
 obtain⟨C,o,k,_⟩:=w;obtain⟨D,p,n,_⟩:=x;obtain⟨E,g,e,_⟩:=y;obtain⟨F,i,c5,_⟩:=A;exact⟨Om s2 s1 rfl rfl ⋯,Om j s1 rfl rfl ⋯,Om g s1 e rfl ⋯,Om i s1 c5 rfl ⋯,s,Om s2 g rfl e ⋯,Om s2 i rfl c5 ⋯,Om j g rfl e ⋯,Om j i rfl c5 ⋯,t,
  Om o s1 k rfl ⋯,Om o j k rfl ⋯,Om o g k e ⋯,Om o i k c5 ⋯,Om p s1 n rfl ⋯,Om p j n rfl ⋯,Om p g n e ⋯,Om p i n c5 ⋯⟩
def À{P:Ca}{w:Ua}{K:PySem.W.Frag}{D:List Qa}{kk:Nat}{a0:Zd}(l m z TI TO g j:Addr)(d1:TI≠TO)(d2:g≠j) :
  Vm P w K (ϲ D kk a0) (ET K l m) [z,TI,TO,g,j] z (λi h=>IsZip h z TI TO Ic/\ZO h TI (Mb g) (Mb j)/\(∃ a b,ZO h TO a b)/\h.IsListIter g l i/\h.IsListIter j m i) where
 mem:=by simp
 obj:=λi h st b e=>by
  obtain⟨s1,s2,⟨a,c,n⟩,⟨o4,r,c4,d4⟩,⟨o5,t,c5,d5⟩⟩:=st;simp at e;rcases e with rfl|rfl|rfl|rfl|rfl
  ·exact⟨_,s1,λv z=>by cases z⟩
  ·exact⟨_,s2,λv z=>by cases z⟩
  ·exact⟨_,n,λv z=>by cases z⟩
  ·exact⟨o4,r,λv z=>by rw[d4]at z;cases z⟩
  ·exact⟨o5,t,λv z=>by rw[d5]at z;cases z⟩
 keep:=λi h h' st k=>by
  obtain⟨s1,s2,⟨a,c,n⟩,r,t⟩:=st;exact⟨k z ⋯ _ s1,k TI ⋯ _ s2,⟨a,c,k TO ⋯ _ n⟩,r.at λo q=>k g ⋯ o q,t.at λo q=>k j ⋯ o q⟩
 item:=by
  intro X hP hw hK hc i ϊ s σ H E I hf st hg;subst hP hw hK;obtain⟨xs,ys,x,y,hq,B,hx,hy⟩:=hg;obtain⟨f,rv,p,V⟩:=I.list hq;obtain⟨d,J,ό,a2⟩:=I.list B;obtain⟨u,hu,ru⟩:=rv.get hx;obtain⟨u2,R,a4⟩:=J.get hy;obtain⟨s1,s2,⟨a,c,n⟩,r,t⟩:=st;have W:=Iz (prog:=X.prog) (w:=X.w) (I.ok.hd hc) z TI TO g j l m (yW d1 d2 p.isList ό.isList s1 s2 n r t) f.toArray d.toArray;have hi:i<min f.toArray.size d.toArray.size:=by
   have h1:=(da.mp hu).1;have h2:=(da.mp R).1;simp;lia
  refine W.item i s _ E hi ⟨s1,s2,⟨a,c,n⟩,r,t,p.isList,ό.isList⟩ λT a5 h' tk a1 hT M F hk=>?_;obtain⟨v1,v2,S,U,rfl⟩:=a1;have e1:v1=u:=by
   have:f.toArray[i]?=BD u:=by simpa using hu
   rw[this]at S;cases S;rfl
  have e2:v2=u2:=by
   have:d.toArray[i]?=BD u2:=by simpa using R
   rw[this]at U;cases U;rfl
  subst e1;subst e2;refine⟨Mb T,rfl,W.go D kk a0 i T { s with heap:=h',toks:=tk } _ E F λh2 L N=>?_⟩;have G:h2.IsTuple T #[v1,v2]:=by
   obtain⟨o,e1,c1⟩:=M;exact⟨o,N T o (W.apart i T h' F) e1,c1⟩
  have hn:H T=Α:=I.Lc.fresh hT;have C:∀ b,b ∉ [z,TI,TO,g,j]->b ∉ [z,TO,g,j]:=λb e ϋ=>e (by simp at ϋ ⊢;rcases ϋ with h|h|h|h<;>simp[h]);have a3:∀ b∈[z,TI,TO,g,j],b<s.heap.objs.size:=λb e=>by
   simp at e;rcases e with rfl|rfl|rfl|rfl|rfl
   ·exact za s1
   ·exact za s2
   ·exact za n
   ·obtain⟨o,q,_⟩:=r;exact za q
   ·obtain⟨o,q,_⟩:=t;exact za q
  refine⟨ϗ T,Yb H T _,I.Ys (λb o e q=>N b o (C b e)$ hk b o (C b e) q) hf hT ?_,rfl,⟨T,x,y,hn,rfl,λzs V=>by rw[I.Yi V hq];exact hx,λzs V=>by rw[I.Yi V B];exact hy,rfl⟩,⟨L.1,L.2.1,L.2.2.1,L.2.2.2.1,L.2.2.2.2.1⟩,λb e=>?_⟩
  ·exact⟨(show (2:Nat)<=sizeLine by decide),[v1,v2],Ϟ ru$ Ϟ a4 Ϡ,G⟩
  ·rw[Dd$ Ba$ La (a3 b e) hT];exact(hf b e).1
 done:=by
  intro X hP hw hK hc i ϊ s σ H E I hf st hg;subst hP hw hK;obtain⟨xs,ys,hq,B,hx⟩:=hg;obtain⟨f,rv,p,V⟩:=I.list hq;obtain⟨d,J,ό,a2⟩:=I.list B;obtain⟨s1,s2,⟨a,c,n⟩,r,t⟩:=st;have hl:=rv.length;have a6:=J.length;have ei:i=min f.toArray.size d.toArray.size:=by simp;lia
  subst ei;have C:∀ b,b ∉ [z,TI,TO,g,j]->b ∉ [z,TO,g,j]:=λb e ϋ=>e (by simp at ϋ ⊢;rcases ϋ with h|h|h|h<;>simp[h]);exact(Iz (prog:=X.prog) (w:=X.w) (A:=X.A) (I.ok.hd hc) z TI TO g j l m (yW d1 d2 p.isList ό.isList s1 s2 n r t) f.toArray d.toArray).done s _ E ⟨s1,s2,⟨a,c,n⟩,r,t,p.isList,ό.isList⟩ λh' tk hk=>⟨rfl,I.Ls (t':=tk) (λb o e q=>hk b o (C b e) q) hf⟩
 self:=λA i s Q E st h=>pE st.1 h
abbrev NX:=Nat->Ha->Option (Option D)
def yz(T:Tb)(c:b')(f:Hp)(nx:NX)(J:It):Prop:=∀ a H e i,Ld c f a H->vd T a H e->match nx i e with
 |none=>True
 |some Α=>J.stop i H
 |some (BD d)=>J.go i H/\∀ x b,J.zA i H x b->Ld a H a b/\vd T a b e/\Oa T a b d x
def Ũ(T:Tb)(X:Cx)(f:Ev->M NX):TI:=λb H R=>∃ a c d,Wg T a H c b/\vd T a H d/\Xb T (XE X b) (yz T) a H (f c d) R
abbrev dq(T:Tb)(X:Cx)(b a:Qa)(f:Ev->M NX):Prop:=PI X b a$ Ũ T X f
def Hn(nx:NX)(e:D->Ev->Option Ev)(a:Ev->M Fl):Nat->Nat->Ev->M Fl
 |0,_,_=>Fb
 |k+1,i,f=>λc=>match nx i c with
  |none=>Ϙ
  |some Α=>Y (ϙ f) c
  |some (BD d)=>match e d f with
   |none=>Ϙ
   |some b=>Rc (a b) (fu$ Hn nx e a k$ i+1) c
def MI(b:D->Ev->Option Ev)(a:Ev->M Fl)(c:Ev)(nx:NX):M Fl:=Hn nx b a 1001 0 c
def xp(b:Ev->M NX)(d:D->Ev->Option Ev)(a:Ev->M Fl):Ev->M Fl:=λc=>xs c (b c)$ MI d a c
section
variable{tgt iter:Qa}{body:List Stmt}{src:Ev->M NX}{t:D->Ev->Option Ev}{g:Ev->M Fl}{pos:Zd}
def Jy(M:gn (model X.prog X.w) X.A X.env X.xe)(hc:X.Wb=G6)(hi:dq T X tgt iter src)(hg:FG T X tgt t)(hb:dk T X body g)
  (hs:∀ x,pe iter X.env x=pure x:=by intro _;rfl):FS T X (.For tgt iter body [] pos)$ xp src t g:=by
 intro v s st H D I hq;refine gW M hc hi hg hb hs v s st H D I ?_;obtain⟨b,p,r,F,hr,M⟩:=hq;refine⟨b,p,r,F,hr,M.xs F λnx Q l J S O ό r1 q1 p1=>?_⟩;refine⟨λi m j q=>∃ b p r,Ld l S b q/\Wg T b q p j/\vd T b q r/\Xb T EN _ b q (Hn nx t g m i p r) _,⟨1001,l,p,Q,ϰ _ _,F.mono ό,r1,p1⟩,?_⟩;rintro i m j q ⟨n,z,c,ex,u,U,a⟩;cases m with
 |zero=>exact a.elim
 |succ m=>
  unfold Hn at a;have C:=q1 n q c i ex U;cases E:nx i c with
  |none=>simp only[E]at a;exact a.elim
  |some o=>
   cases o with
   |none=>
    simp only[E]at a C;exact ϑ ⟨C,Xb.here (g:=Ϻ j) a U u⟩
   |some d=>
    simp only[E]at a C;obtain⟨L,hy⟩:=C;refine ϖ ⟨L,λk e=>∃ b p r,Ld l S b e/\Wg T b e p k/\vd T b e r/\Xb T EN _ b e _ (io X D),λk e h=>⟨m,Sb _,h⟩,λx e y=>?_⟩;obtain⟨f,V,hx⟩:=hy x e y;cases N:t d z with
    |none=>simp only[N]at a;exact a.elim
    |some B=>
     simp only[N]at a;exact⟨n,c,z,d,B,u.mono f,V,hx,N,λk G=>⟨n,B,c,G,V,(Xb.mono f a).bind λfl R ϋ gl H4 O ϊ W q4 p4=>HN W q4 p4 λP a0 K p5=>⟨ϋ,P,R,(ex.trans f).trans ϊ,K,W,p5⟩⟩⟩
end
def Ms(a:D):NX:=λi b=>match uf b a with
 |some xs=>(match xs[i]? with
  |some x=>BD (BD$ Ϗ [Z (i:Int),x])
  |none=>if i=xs.length then BD Α else Α)
 |none=>Α
def pD(a b:D):NX:=λi d=>match uf d a with
 |some xs=>(match uf d b with
  |some c=>(match xs[i]? with
   |some x=>(match c[i]? with
    |some y=>BD (BD$ Ϗ [x,y])
    |none=>if i=min xs.length c.length then BD Α else Α)
   |none=>if i=min xs.length c.length then BD Α else Α)
  |none=>Α)
 |none=>Α
def Ox(d:D):M NX:=λa=>match uf a d with
 |some _=>Y (Ms d) a
 |none=>Ϙ
def yG(f:Ev->M D):Ev->M NX:=λa=>Rc (f a) Ox
def WW(a b:D):M NX:=λc=>match uf c a with
 |some _=>(match uf c b with
  |some _=>Y (pD a b) c
  |none=>Ϙ)
 |none=>Ϙ
def lV(m:M D)(a:D):M NX:=Rc m$ WW a
def GK(f g:Ev->M D):Ev->M NX:=λa=>Rc (f a)$ lV$ g a
section
variable{elts:List Qa}{kk:Nat}{p0 p pos:Zd}{f g:Ev->M D}
def Í:bootBuiltins "enumerate" = BD (Jh "enumerate"):=by decide +kernel
def π:bootBuiltins "zip" = BD (Jh "zip"):=by decide +kernel
def Ĩ(K:ϕ)(b:TA):TI:=λd H R=>b d H λc a=>∃ l xs,c=[ϗ l]/\Ie K a l xs/\R (sQ K l) a
def HZ(o:Gl X "enumerate")(t:X.mg "enumerate" = Α)(n:PA X [a] j)(v:va [a] X.env=[(İ,Lb a X.env)]:=by rfl):PI X (ϲ elts kk p0) (ϟ (ϛ "enumerate" p) [a] [] pos)$ Ĩ X.K j:=by
 intro d s A H R I h;refine Call_$ vv I o t Í$ Cd (Fd (n pos d s A H _ I h) λus s1 ſ=>?_) v rfl;obtain⟨E,H1,f,y,x⟩:=ſ;obtain⟨l,xs,e,u,q⟩:=x;subst e;cases y with
 |cons r z=>
  cases z;cases r;obtain⟨w,D,pl,C⟩:=f.list u;refine call_enumerate_list pl.isList λh' g k B m=>JB g ⟨s1.heap.objs.size+1,[s1.heap.objs.size+1,s1.heap.objs.size],_,_,H1,rfl,f.kept m,ĸ l _ _,⟨⟨_,g⟩,k⟩,λb i=>?_,q⟩;have c:s1.heap.objs.size<=b:=by simp at i;rcases i with rfl|rfl<;>lia
  exact f.Nm c$ f.Lc.fresh c
def P7(ϋ:Gl X "enumerate")(P:X.mg "enumerate" = Α)(h:FE T X e f)(A:va [e] X.env=[(İ,Lb e X.env)]:=by rfl):dq T X (ϲ elts kk p0) (ϟ (ϛ "enumerate" p) [e] [] pos)$ yG f:=by
 intro k s st H R I U;refine HZ ϋ P (Oq h ku A) A k s st H R I ?_;obtain⟨ό,ρ,σ,N,S,Q⟩:=U;refine⟨ό,ρ,σ,N,S,Q.bind λd r ϊ v H1 z e1 D C j=>?_⟩;unfold Ox at j;cases n:uf r d with
 |none=>rw[n]at j;exact j.elim
 |some ds=>
  rw[n]at j;obtain⟨l,W,rfl,L,h2⟩:=D.ls C n;refine⟨l,W,rfl,Ie.of L,Xb.here j D λa0 F t i ex E=>?_⟩;unfold Ms;cases o:uf t d with
  |none=>trivial
  |some xs=>
   apply b_;intro z_;obtain⟨l',m,G,M,u⟩:=E.ls (Oa.mono ex _ _ C) o;cases G;have b:Ie X.K F l m:=Ie.of M;apply z_;dsimp only;cases J:xs[i]? with
   |none=>
    by_cases w:i=xs.length
    ·rw[ka w];exact⟨m,b,by rw[w];exact u.length⟩
    simp_all
   |some d'=>
    obtain⟨x,B,V⟩:=u.get J;refine⟨⟨m,x,b,B⟩,λz H' y=>?_⟩;obtain⟨q,x',a,rfl,c,rfl⟩:=y;have g:=c m b;rw[B]at g;cases g;exact⟨Ij a,E.fresh a,⟨q,_,rfl,Lf,ub.cons (by rw[Oa])$ ub.cons (Oa.mono (Ij a) _ _ V) ub.nil⟩⟩
def ν(K:ϕ)(b:TA):TI:=λe H R=>b e H λc a=>∃ l m xs d,c=[ϗ l,ϗ m]/\Ie K a l xs/\Ie K a m d/\R (ET K l m) a
def U2(A:Gl X "zip")(B:X.mg "zip" = Α)(z:PA X [a,b] t)(ϋ:va [a,b] X.env=[(İ,Lb a X.env),(İ,Lb b X.env)]:=by rfl)(g:va [b] X.env=[(İ,Lb b X.env)]:=by rfl):PI X (ϲ elts kk p0) (ϟ (ϛ "zip" p) [a,b] [] pos)$ ν X.K t:=by
 intro e s M H R I h;refine Call_$ vv I A B π$ Cd (Fd (z pos e s M H _ I h) λus s1 ⟨S,H1,c,J,F⟩=>?_) ⋯ (by rw[g];rfl);apply b_;intro z_;obtain⟨l,m,xs,T,rfl,C,f,q⟩:=F;apply z_;cases J with
 |cons r j=>
  cases j with
  |cons G j=>
   cases j;cases r;cases G;obtain⟨E,Q,pl,P⟩:=c.list C;obtain⟨o,L,i,D⟩:=c.list f;refine call_zip_2 pl.isList i.isList λh' k u v w x N y=>pE k ⟨s1.heap.objs.size+4,[s1.heap.objs.size+4,s1.heap.objs.size+2,s1.heap.objs.size+3,s1.heap.objs.size,s1.heap.objs.size+1],_,_,H1,rfl,c.kept y,À l m (s1.heap.objs.size+4) _ _ s1.heap.objs.size (s1.heap.objs.size+1) (show (s1.heap.objs.size+2)≠s1.heap.objs.size+3 by omega) (show s1.heap.objs.size≠s1.heap.objs.size+1 by lia),⟨k,u,⟨_,_,v⟩,w,x⟩,λb n=>?_,q⟩;have d:s1.heap.objs.size<=b:=by simp at n;rcases n with rfl|rfl|rfl|rfl|rfl<;>lia
   exact c.Nm d$ c.Lc.fresh d
def g8(hg:Gl X "zip")(hm:X.mg "zip" = Α)(h:FE T X e f)(h':FE T X b g)(hs:va [e,b] X.env=[(İ,Lb e X.env),(İ,Lb b X.env)]:=by rfl)(w:va [b] X.env=[(İ,Lb b X.env)]:=by rfl) :
  dq T X (ϲ elts kk p0) (ϟ (ϛ "zip" p) [e,b] [] pos)$ GK f g:=by
 intro C s st H R I hw;refine U2 hg hm (Oq h (Oq h' ku w)$ by simp_all) hs w C s st H R I ?_;obtain⟨μ,ρ,σ,ό,hr,hp⟩:=hw;refine⟨μ,ρ,σ,ό,hr,hp.bind λd Q P v H1 z e1 r1 q1 p1=>⟨P,ρ,Q,ό.mono e1,r1,p1.bind λU F a2 v2 H2 z e2 N q2 n=>?_⟩⟩;unfold WW at n;cases L:uf F d with
 |none=>rw[L]at n;exact n.elim
 |some ds=>
  rw[L]at n;cases o:uf F U with
  |none=>rw[o]at n;exact n.elim
  |some a1=>
   apply b_;intro z_;rw[o]at n;have D:=Oa.mono e2 _ _ q1;obtain⟨l,vs,rfl,h1,h2⟩:=N.ls D L;obtain⟨m,ws,rfl,h3,h4⟩:=N.ls q2 o;apply z_;refine⟨l,m,vs,ws,rfl,Ie.of h1,Ie.of h3,Xb.here n N λa3 S G i ex ϋ=>?_⟩;unfold pD;cases fl:uf G d with
   |none=>trivial
   |some xs=>
    apply b_;intro z_;obtain⟨l',E,b,h5,V⟩:=ϋ.ls (Oa.mono ex _ _ D) fl;cases b;apply z_;cases M:uf G U with
    |none=>trivial
    |some ys=>
     apply b_;intro z_;obtain⟨m',a,b,h7,W⟩:=ϋ.ls (Oa.mono ex _ _ q2) M;cases b;have j:Ie X.K S l E:=Ie.of h5;have k:Ie X.K S m a:=Ie.of h7;have l1:=V.length;have l2:=W.length;apply z_;dsimp only;cases ei:xs[i]? with
     |none=>
      by_cases u:i=min xs.length ys.length
      ·rw[ka u];exact⟨E,a,j,k,by rw[u,l1,l2]⟩
      simp_all
     |some d'=>
      cases J:ys[i]? with
      |none=>
       by_cases u:i=min xs.length ys.length
       ·rw[ka u];exact⟨E,a,j,k,by rw[u,l1,l2]⟩
       all_goals simp_all
      |some a0=>
       apply b_;intro z_;obtain⟨x,ϊ,rx⟩:=V.get ei;obtain⟨y,hy,ry⟩:=W.get J;apply z_;refine⟨⟨E,a,x,y,j,k,ϊ,hy⟩,λz H' yy=>?_⟩;obtain⟨q,x',y',c,rfl,t,r,rfl⟩:=yy;have A:=t E j;rw[ϊ]at A;cases A;have B:=r a k;rw[hy]at B;cases B;exact⟨Ij c,ϋ.fresh c,⟨q,_,rfl,Lf,ub.cons (Oa.mono (Ij c) _ _ rx)$ ub.cons (Oa.mono (Ij c) _ _ ry) ub.nil⟩⟩
end
open PySem.Builtin.Str (occurrences partsBetween subAt)
end L4
namespace L4
open Spec L2
def xM(h:Ev)(c:Nat)(f:Str)(x:D)(a:Int)(y:D):M Fl:=λe=>match y with
 | Z b=>(match x with
  | O n=>(match e[n]? with
   |some (ϓ g d)=>if (g == c && decide (d.length<1000))=G6 then Y (ϙ h) (e.set n$ ϓ c$ Rk f (Z$ a+b) d)else Ϙ
   |_=>Ϙ)
  |_=>Ϙ)
 |_=>Ϙ
def wz(b:Ev)(e:h8)(f:Str)(h:Ev->M D)(x:D):M Fl:=λd=>match bj d x with
 |some (c,g)=>if e.contains c=G6 then (match g.lookup f with
  |some (Z a)=>xs b (h b) (xM b c f x a) d
  |_=>Ϙ)else Ϙ
 |none=>Ϙ
def RE(b:h8)(f:Str)(d c:Ev->M D):Ev->M Fl:=λa=>xs a (c a)$ wz a b f d
def iT{W V}(hK:T.K=X.K)(hc:qG T F f)(ho:FE T X o V)(hv:FE T X e W):FS T X (.AugAssign (Ϝ o f v) .Add e N)$ RE F f W V:=by
 intro u s st H D I hq;refine V7 ho hv Z4 u s st H D I ?_;obtain⟨μ,ρ,σ,t,hr,hp⟩:=hq;refine⟨μ,ρ,σ,t,hr,hp.xs t λx C Q vo H1 M G r1 q1 d=>?_⟩;unfold wz at d;cases J:bj C x with
 |none=>rw[J]at d;exact d.elim
 |some p=>
  obtain⟨c,fs⟩:=p;rw[J]at d;dsimp only at d;by_cases l:F.contains c=G6
  ·apply b_;intro z_;rw[ka l]at d;obtain⟨a,dx,vs,rfl,h1,h2⟩:=xx r1 q1 J;apply z_;cases L:fs.lookup f with
   |none=>rw[L]at d;exact d.elim
   |some y=>
    rw[L]at d;cases y with
    |int i=>
     obtain⟨w,h3,h4⟩:=(Zx h2).1 _ L;obtain⟨ϊ,k2⟩:=hc c l;rw[hK]at ϊ k2;refine⟨a,_,dx,vs,w,rfl,h1,ϊ,k2,h3,Q,ρ,C,t.mono G,r1,d.xs (t.mono G) λz R B vz S M U r2 q2 b=>?_⟩;unfold xM at b;cases z with
     |int j=>
      refine⟨i,j,En h4,En q2,?_⟩;have ϋ:=Oa.mono U _ _ q1;cases x with
      |ref n=>
       dsimp only at b;cases k:R[n]? with
       |none=>rw[k]at b;exact b.elim
       |some ob=>
        rw[k]at b;cases ob with
        |ra _=>exact b.elim
        |Pa _=>exact b.elim
        |Qc _=>exact b.elim
        |nc _=>exact b.elim
        |yb E m=>
         dsimp only at b;by_cases g:(E == c && decide (m.length<1000))=G6
         ·apply b_;intro z_;rw[ka g]at b;rw[Ma,Tc,Jg]at g;obtain⟨rfl,hl⟩:=g;obtain⟨a',ea,ό,h,A,q,r⟩:=r2.at ϋ k;cases ea;have ex:Ld B S B$ Yb S a$ .yb (T.ca E) h$ Tl f (Ϣ$ i+j) A:=At (Da ό) q (λM z=>by cases z) (λM M z=>by cases z);have P:=r2.write (ob:=ϓ E$ Rk f (Z _) m) ό ⟨h,_,Lf,CK (by rw[Oa])$ Mq.mono ex r⟩;apply z_;exact⟨h,A,q,by rw[<-r.length];exact hl,b _ (Ϻ st) _ P.1 P.2$ (t.mono G).mono U |>.mono P.1⟩
         ·rw[ua g]at b;exact b.elim
      |_=>exact b.elim
     |_=>exact b.elim
    |_=>exact d.elim
  ·rw[ua l]at d;exact d.elim
def zp(y x:D):M D:=λb=>match Ai y with
 |some k=>(match ph b x with
  |some a=>Y (ϒ$ !(qi a k).isSome) b
  |none=>Ϙ)
 |none=>Ϙ
noncomputable def BW:R2:=λy x H Q=>∃ a o,x=ϗ a/\gk H a y o/\Q (Ϭ$ !o.isSome) H
def pT(f:X.A.units+9<cLine):yh X (Pb .NotIn) BW:=by
 rintro b s j H y x h u Q I e d ⟨a,o,rfl,g,q⟩;obtain rfl:u=Mb a:=d;exact ť ⋯ I g e λi c=>⟨Ϭ _,H,c,rfl,q⟩
theorem GR:Zj T BW zp:=by
 intro E o H m y x u v Q r q p h;unfold zp at h;cases c:Ai y with
 |none=>rw[c]at h;exact h.elim
 |some k=>
  rw[c]at h;cases b:ph m x with
  |none=>rw[b]at h;exact h.elim
  |some j=>
   rw[b]at h;obtain⟨a,l,rfl,g,i⟩:=By r p b;obtain rfl:=cx q c;refine⟨a,Kl l k,rfl,gk.kr g,Xb.here h r ?_⟩;rcases Xz i k with⟨e,f⟩|⟨d,w,e,f,n⟩
   ·rw[e,f];rfl
   ·rw[e,f];rfl
def Rq(T:Tb)(P:Ca)(w:Ua)(e:Str->Option Value)(a:Heap)(k:Nat)(f:Addr)(ps:ac)(c:dl)(d:B'->M D):Prop:=
 ∃ b,fq T.K b ps []/\fq T.K b ps c/\Sg P w T.K e a (qk P w) k f b ps (Mm T ps.length d)
structure xo(K:ϕ)(C:Addr)(x qual:Str)(st:Stmt)(ps:ac)(dv:dl)(f:Addr):Prop where
 ex:∃ fd,(∃ (oc:Value) (od:Option Addr) (dV kV doc pm:Value) (an:Option Addr) (cdv ct:Value) (osl:Array (Option Value)),
  fd=Ϯ x qual (Qk st) (uj st) (zf st) dV kV doc pm an cdv ct/\K.lookup f=BD ⟨oc,od,.func fd,osl⟩/\W.codeIn K cdv qual=G6)/\fq K fd ps []/\fq K fd ps dv
section
variable{P:Ca}{w:Ua}{K:ϕ}{mg:Str->Option Value}{base:Heap}{ca:Nat->Addr}{tx:Tx}
def gL{st}(h:xo K C x a st ps e f)(S:Oc N ps$ zf st)
  (m:∀ b A c s H E,Nd k (A.deeper$ ag a (zf st) s.heap.objs.size f b)->dk ⟨K,ca,tx⟩ (mo (qk P w) P w K mg base N a (zf st) f b A c s H E) (uj st) g) :
  Rq ⟨K,ca,tx⟩ P w mg base (k+1) f ps e$ Vg N.length g:=by
 obtain⟨q,⟨r,t,p,kV,l,u,o,b,ct,n,rfl,lk,d⟩,i,j⟩:=h.ex;exact⟨_,i,j,jB lk d S$ m b⟩
def Rq.ee(h:Rq T P w mg base k f ps a b):Rq T P w mg base k f ps a$ L4.ee b:=by rw[vq];exact h
def rM{st}{kV e i a ct}
  (w:∀ t kV e i h a ct s o n g,s.heap.get? t=BD o->o.data=Ϧ j.toArray n->((g++[]).length=ps.length->Oe s (Ϯ x b (Qk st) (uj st) (zf st) (Mb t) kV e i h a ct) ⟨g,[]⟩ (ps.zip$ g++[]))/\
   ((g++j).length=ps.length->Oe s (Ϯ x b (Qk st) (uj st) (zf st) (Mb t) kV e i h a ct) ⟨g,[]⟩ (ps.zip$ g++j)))
  (l:K.lookup f=BD ⟨y,z,.func$ Ϯ x b (Qk st) (uj st) (zf st) (Mb t) kV e i h a ct,k⟩)
  (c:W.codeIn K a b=G6) (d:K.lookup t=BD ⟨r,u,Ϧ j.toArray q,v⟩):xo K C x b st ps j f:=
 ⟨⟨_,⟨y,z,_,kV,e,i,h,a,ct,k,rfl,l,c⟩,λs g m p=>(w t kV e i h a ct s _ q g (m _ _ d) rfl).1 p,λs g m p=>(w t kV e i h a ct s _ q g (m _ _ d) rfl).2 p⟩⟩
end
def X3{pl}(hK:T.K=X.K)(he:FE T X o f)(hC:jp T.K$ T.ca c)(R:Wq T.K (T.ca c) m fa)
  (h:Rq T X.prog X.w X.mg X.base k fa ps dv p) (hr:Nd k X.A) (ha:FA T X (e::n) ϋ)
  (ό:va (e::n) X.env=(İ,Lb e X.env)::va n X.env:=by rfl) (U:(pc b$ va n X.env).any (·.1)=İ:=by rfl)
  (ht:Lb (ϟ (Ϝ o m i) (e::n) [] b) X.env=(do
   let ov <-Lb o X.env
   ah i.atName
   let (f,first) <-we [ov] (lh ov m pl)
   km b f first (pc b$ va (e::n) X.env) (Fg b$ Ge [] X.env)):=by rfl) :
  FE T X (ϟ (Ϝ o m i) (e::n) [] b)$ Pf [(c,p)] ps.length m f ϋ:=by
 rintro j s st H Q I ⟨μ,ρ,σ,hE,V,hp⟩;have P:=hE;refine W.methodCall_KW (Fd (he j s st H (λx t=>∃ a G l,x=ϗ a/\t a=BD (.yb (T.ca c) G l)/\l.lookup m=Α/\tL T X ϋ st t λus L=>Mm T ps.length p (x::(us++[])) L Q$ XE X st) I ⟨μ,ρ,σ,hE,V,hp.bind λd F a0 v t D e1 r1 q1 g=>?_⟩) λu s1 ⟨x,t,I1,rx,a,G,l,ex,ea,B,q⟩=>?_) ht
 ·unfold Qi at g;cases N:bj F d with
  |none=>rw[N]at g;exact g.elim
  |some z=>
   obtain⟨c',gs⟩:=z;rw[N]at g;dsimp only at g;by_cases C:c=c'
   ·subst C;have J:An [(c,p)] c=BD p:=by unfold An;rw[ka$ bp c]
    cases B:gs.lookup m with
    |some y=>rw[J,B]at g;exact g.elim
    |none=>
     apply b_;intro z_;rw[J,B]at g;dsimp only at g;obtain⟨a,G,l,rfl,h1,h2⟩:=xx r1 q1 N;apply z_;refine⟨a,G,l,rfl,h1,(Zx h2).2 B,a0,ρ,F,P.mono e1,r1,g.bind λds a2 a1 us L D e2 r2 ϊ E=>?_⟩;unfold Gi at E;by_cases S:ds.length+1=ps.length
     ·rw[ka S]at E;exact⟨a1,a2,d::ds,ub.cons (Oa.mono e2 _ _ q1) (by rw[Ce];exact ϊ),by rw[lb];exact S,r2,E⟩
     ·rw[ua S]at E;exact E.elim
   ·have J:An [(c,p)] c'=Α:=by unfold An;rw[ua (by simpa using C)];rfl
    rw[J]at g;exact g.elim
 ·subst ex;obtain rfl:u=Mb a:=rx;obtain⟨fd,hb,_,hF⟩:=h;rw[hK]at hC R hF hb;refine HH I1 ea hC R B ?_;refine Ϲ I.ok.mod.tu R.kp (Fd (ha b j s1 st t _ I1 q) λus s2 ⟨l,L,I2,r,ϊ⟩=>⟨I2.gi,?_⟩) ό U;exact aE (vs:=ϗ a::l) hF hr hb Ϡ I2 (Ϟ rfl r) ϊ
noncomputable def uC(a:h8)(b:Ev):Ev:=Α::Α::a.map λi=>(b[i]?).getD Α
noncomputable def Nx(a:h8)(st:St):St:=Α::Α::a.map λi=>(st[i]?).getD Α
def Ν{st} a(h:Wg T b H c st):Wg T b H (uC a c)$ Nx a st:=by
 refine⟨by simp[uC,Nx],λi d e=>?_⟩;cases i with
 |zero=>cases e
 |succ j=>exact(sU a h).2 j d e
section
variable{pins:List$ Addr × Obj}{st:St}{H:Hp}{s:Shared}{x z0:Str}{M':ac}{ix:h8}{scope:Scope}{fp:b'}
def ó(I:db X pins st H s)(L:Gj X x M' ix scope)(g:∀ b∈fp,Ak X pins H b/\b<s.heap.objs.size)(M:h'.Ns s.heap.objs.size m)
  (D:∀ b o,s.heap.get? b=BD o->h'.get? b=BD o) :
  db (yn X (x::z0::M') scope (Ci X.env scope.names []) s.heap.objs.size s H fp) [] (Nx ix st) H { s with heap:=h',toks:=t' }:=by
 have d:∀ n c,(Ci X.env scope.names []).lookup n=BD c->X.env.cells.lookup n=BD c:=λn c e=>DO X.env scope.names [] n c (λO O q=>by simp at q) e;have t:H s.heap.objs.size=Α:=I.Lc.fresh$ ya _;refine⟨⟨I.ok.mod,L.kind,I.ok.glob,I.ok.blt,ya _,λa b c A r=>I.ok.inj a b c (d a c A)$ d b c r,λa ha=>?_,λa c h=>(by cases h),I.ok.hd,I.ok.frames,ϑ rfl,λb w=>⟨Ba (g b w).2,λa c e=>?_⟩,λb o e=>I.bs b o e,Ya I.ok.xt I.sz,λb o e w=>?_,λb w z=>?_,I.stack,I.lj⟩,
  rfl,I.bare,Un.kept D,⟨m,M,λi y v W F e3=>?_⟩,λa c e=>?_,t,λa c e=>I.Qf a c$ d a c e,λp hp=>absurd (show p∈[]from hp) ⋯,I.Lc.kept D,?_⟩
 ·
  have G:(scope.names.map λ(n,k)=>if (k == xb && X.env.scope.kind == Ϥ && X.env.kindOf n == BD Kc)then (n,Kc)else (n,k)).lookup a=BD Kc\/(scope.names.map λ(n,k)=>if (k == xb && X.env.scope.kind == Ϥ && X.env.kindOf n == BD Kc)then (n,Kc)else (n,k)).lookup a=BD xb:=ha;have T:scope.names.lookup a=BD xb:=by
   rcases G with z|z
   ·obtain⟨k0,A,r⟩:=GJ z;rcases r with r|⟨r,_⟩
    ·subst r;exact absurd rfl$ EC L _$ iu A
    ·rw[r]at A;exact A
   ·obtain⟨k0,A,r⟩:=GJ z;all_goals simp_all
  exact sD X.env scope.names [] a (iu T)$ Wx I L _ (iu T) rfl
 ·exact(g b w).1.2.2.2.2.1 a c$ d a c e
 ·rcases(g b w).1.2.2.2.1 with z|z
  ·exact I.ok.br b o e z
  ·exact absurd (La (za e)$ Ya I.ok.xt z)$ Ud _
 ·rcases Ea.mp (I.Op b z)with q|q
  ·exact(g b w).1.2.1 q
  ·exact(g b w).1.2.2.1 q
 ·
  cases i with
  |zero=>simp[Nx]at F
  |succ i=>
  cases i with
  |zero=>simp[Nx]at F
  |succ j=>
   have E:M'[j]?=BD y:=W;have f:(ix.map λi=>(st[i]?).getD Α)[j]?=BD _:=F;rw[Ja]at f;cases S:ix[j]? with
   |none=>rw[S]at f;cases f
   |some C=>
    rw[S]at f;have Q:(st[C]?).getD Α=BD v:=cc f;have ό:st[C]?=BD (BD v):=by
     cases q:st[C]? with
     |none=>rw[q]at Q;cases Q
     |some o=>simp_all
    have ϊ:X.N[C]?=BD y:=by
     have z:=Cb (λl=>l[j]?) L.at_
     simp_all
    have q:=gb.mp L.xV y$ Da E;simp only[Ma,qf]at q;have U:X.env.scope.names.lookup y=BD Kc\/X.env.scope.names.lookup y=BD xb:=by
     all_goals simp_all
    have P:scope.names.lookup y=BD xb:=eq_of_beq q.2;obtain⟨m0,a0,K⟩:=I.loc;obtain⟨u,ru,lu⟩:=K C y v ϊ ό (by rcases U with z|z;exact ϖ$ ϑ z;exact ϖ$ ϖ z);refine⟨u,ru,ϖ ⟨HQ (env:=X.env) P,?_⟩⟩;rcases lu with⟨z,_⟩|⟨_,c,ec,zc⟩
    ·rcases U with k|k
     ·rw[show X.env.kindOf y=X.env.scope.names.lookup y from rfl,k]at z;cases z
     ·rw[show X.env.kindOf y=X.env.scope.names.lookup y from rfl,k]at z;cases z
    ·obtain⟨V,B⟩:=sD X.env scope.names [] y (iu P) (Wx I L _ (iu P) rfl);have R:=d y V B;rw[ec]at R;cases R;obtain⟨o,ϋ,J⟩:=zc;exact⟨c,B,o,D _ _ ϋ,J⟩
 ·obtain⟨v,o,ϋ,J⟩:=I.cell a c (d a c e);exact⟨v,o,D _ _ ϋ,J⟩
 ·simp[Nx,yn];simpa using (Cb List.length L.at_)
end
noncomputable def Iq(l:gV):gV:=l.mergeSort λa b=>decide$ a<=b
def Tw l:(Iq l).Perm l:=List.mergeSort_perm l _
def tD l:(Iq l).Pairwise (·<=·):=by
 have:=List.pairwise_mergeSort (le:=λa b:Int=>decide$ a<=b) (λa b c d e=>by simp at *;lia) (λa b=>by simp;lia) l;exact this.imp λh=>by simpa using h
theorem rB:∀ {l m:gV},l.Perm m->l.Pairwise (·<=·)->m.Pairwise (·<=·)->l=m
 |[],m,h,_,_=>by rw[List.nil_perm]at h;exact h.symm
 |a::l,[],h,_,_=>by have:=h.length_eq;simp at this
 |a::l,b::m,h,c,d=>by
  rw[List.pairwise_cons]at c d;have f:=h.subset na;have g:=h.symm.subset na;have e:a=b:=by
   rcases Ea.mp f with e|f
   ·exact e
   ·rcases Ea.mp g with e|g
    ·exact e.symm
    ·have:=c.1 b g;have:=d.1 a f;lia
  subst e;rw[rB (zaE h) c.2 d.2]
def YK(K:ϕ):lv->Hp->VK->Prop:=λxs H Q=>∃ (p:Addr) (is:gV),xs=[ϗ p]/\Ie K H p (is.map Ϣ)/\is.length<64/\∀ l,H l=Α->Q (ϗ l) (Yb H l$ ϱ$ (Iq is).map Ϣ)
def zl5:Xl X (ϣ "sorted")$ YK X.K:=by
 rintro f s v H xs t Q I r ⟨p,c,rfl,m,b,q⟩;obtain⟨u,rfl,rfl⟩:=bq r;obtain⟨d,g,pl,o⟩:=I.list m;have a:=g.length;rw[Ia]at a;refine sorted_ints pl.isList (TM g) ⋯ λout n h i j=>?_;obtain⟨e,l⟩:=sortedAll_at s.heap d out;have k:=rB (i.trans (Tw c).symm) j$ tD c;subst k;exact⟨ϗ _,_,I.laid (λx x=>sortedAll_old) (rg _) (show Cj X.prog X.w _ _ _ (ϱ _)from⟨by rw[Ia,((Tw c).length_eq)];exact Ya (yd b) ⋯,out.toList,e,ZD h,by rw[si];exact l⟩),rfl,q _$ I.Lc.fresh$ rg _⟩
def oM(xs:B'):M D:=λa=>match xs with
 |[x]=>(match uf a x with
  |some b=>(match cr b with
   |some is=>if is.length<64 then uB ((Iq is).map Z) a else Ϙ
   |none=>Ϙ)
  |none=>Ϙ)
 |_=>Ϙ
theorem xK{b:b'}{H:Hp}:∀ a:gV,ub T b H (a.map Z) (a.map Ϣ)
 |[]=>ub.nil
 |i::a=>ub.cons (by rw[Oa]) (xK a)
def C8(n:T.K=X.K):No T (YK X.K) oM:=by
 intro E s H m xs q Q r p h
 match xs with
 |[]=>trivial
 |[x]=>
  obtain⟨v,w,rfl,j,d⟩:=p;rw[ub]at d;subst d;unfold oM at h;cases e:uf m x with
  |none=>simp[e]at h;exact h.elim
  |some k=>
   simp[e]at h;cases a:cr k with
   |none=>simp[a]at h;exact h.elim
   |some is=>
    simp[a]at h;by_cases c:is.length<64
    ·rw[ka c]at h;obtain⟨b,o,rfl,f,g⟩:=r.ls j e;obtain rfl:=fD g a;exact⟨b,is,rfl,Ie.of f,c,λl i=>ZB h r (xK _) i⟩
    ·rw[ua c]at h;exact h.elim
 |_::_::_=>cases h
noncomputable def apart(n:Nat):D->Bool
 | O m=>!(m == n)
 |_=>G6
def dY:bootBuiltins "sorted" = BD (ϣ "sorted"):=by decide +kernel
theorem pQ:∀ {ks:List Bd} {a:dl},a.length=ks.length->(∀ (j:Nat) (v:Value) (k:Bd),a[j]?=BD v->ks[j]?=BD k->qd (kV k) v)->ke (ks.map kV) a
 |[],[],_,_=>Ϡ
 |[],_::_,h,_=>by simp at h
 |_::_,[],h,_=>by simp at h
 |k::ks,v::a,h,b=>Ϟ (b 0 v k rfl rfl) (pQ ⋯ λj v k c d=>b (j+1) v k c d)
def O3(h:(pk P w).is k v=G6):qd (kV k) v:=by
 rcases Bp h with⟨i,t,rfl,rfl⟩|⟨x,t,rfl,rfl⟩<;>exact⟨t,rfl⟩
theorem kU:∀ {a:List$ Bd × V} {ws:List$ Bd × Value},KV a ws->ws.map (·.1)=a.map (·.1)
 |[],_,h=>by cases h;rfl
 |p::a,_,h=>by
  cases h with
  |cons q h=>simp only[nb];rw[kU h,q.1]
noncomputable def MC:Bd->D
 | .inl i=>Z i
 | .inr x=>ϔ x
end L4
namespace L4
open Spec Calls W PyProof.V
def Ć
  (K:KdlSrc j w v r d n P u) (B:A.handled=Α) (m:u s.heap) (C:n<=sizeLine)
  (Mf:∀ a i acc,(∀ b o,s.heap.get? b=BD o->a.get? b=BD o)->s.heap.objs.size<=a.objs.size->lm P acc n->R acc.toList { s with heap:=a,toks:=i }) :
  wpAny (model j w) A (collect$ Mb r) R E s:=by
 have lt:=K.there _ m;let S:Addr:=s.heap.objs.size;let ϊ:jn->Shared->Prop:=λq t=>∃ (a:Heap) (i:Nat) (acc:Array Value) (c:Nat),q=.ok (.ret$ Mb S)/\t={ s with heap:=a,toks:=i }/\(∀ b o,s.heap.get? b=BD o->a.get? b=BD o)/\
  a.get? S=BD { cls:=Jh "list",dict:=Α,data:=Ϧ acc c,slots:=#[] }/\lm P acc n
 have h:∀ {a:Heap} {i c:Nat} {acc:Array Value},(∀ b o,s.heap.get? b=BD o->a.get? b=BD o)->a.get? S=BD { cls:=Jh "list",dict:=Α,data:=Ϧ acc c,slots:=#[] }->lm P acc n->R acc.toList { s with heap:=a,toks:=i }:=
  λl g k=>Mf _ _ _ l (yd$ za g) k
 have p:(s.heap.push { cls:=Jh "list",data:=Ϧ ([]:dl).toArray }).get? S=BD { cls:=Jh "list",data:=Ϧ #[] }:=Fa _ rfl;have Vg:=kdl_extend (A:=A) (s:={ s with heap:=s.heap.push { cls:=Jh "list",data:=Ϧ ([]:dl).toArray } }) (R:=ϊ) K B (K.keep _ _ m λb F o e=>ja _ e) S (Td lt.1) (Td lt.2) (Mb S) 0 p
  (λa i acc c l g k=>⟨a,i,acc,c,rfl,rfl,λb o e=>l b o (Ba$ za e)$ ja _ e,g,k⟩) C
 refine aa$ Qp$ Vc aw$ aa$ qc$ ga ⟨ce Fm _,Vc qE$ dc Vg (λf t x=>?_) (λe t x=>by obtain⟨_,_,_,_,z,_⟩:=x;cases z)⟩;cases f with
 |done f=>
  obtain⟨a,i,acc,c,e,rfl,l,g,k⟩:=x;cases e;exact aa$ ul g$ ga$ h l g k
 |again D=>
  refine⟨x.1,lf x.2 λq s2 y=>?_⟩;obtain⟨a,i,acc,c,rfl,rfl,l,g,k⟩:=y;exact aa$ ul g$ ga$ h l g k
end L4
namespace L4
open Spec L2
def DL:lv->Hp->VK->Prop:=λxs H Q=>∃ (a:Addr) (b:List (Bd × V)) (is:gV),xs=[ϗ a]/\Rd H a (ϝ b)/\b.map (·.1)=is.map Sum.inl/\is.length<64/\∀ l,H l=Α->Q (ϗ l) (Yb H l$ ϱ$ (Iq is).map Ϣ)
theorem JR:∀ {a:gV} {b:dl},ke ((a.map (Sum.inl:Int->Bd)).map kV) b->bh b a
 |[],_,h=>by cases h;exact .nil
 |i::a,_,h=>by
  cases h with
  |cons q h=>
   obtain⟨t,rfl⟩:=q;exact .cons i t$ JR h
def zhw(V:X.Wb=G6):Xl X (ϣ "sorted") DL:=by
 rintro M s σ H xs us Q I r ⟨a,f,i,rfl,U,g,n,q⟩;obtain⟨u,rfl,rfl⟩:=bq r;obtain⟨z,ό,l,B,R⟩:=gu I.Lc U;obtain⟨E,p⟩:=R.dictAt;have F:=kU B;have a4:l.length=f.length:=by have:=Cb List.length F;simpa using this
 have a0:f.length=i.length:=by have:=Cb List.length g;simpa using this
 have J:l.length<=sizeLine:=by lia
 refine Gm kind_sorted plain_sorted entry_sorted (args_sorted1 _) ?_;unfold Rh.«sorted»;refine aa (m:=checkCount "sorted" 1 1 _)$ ga$ aa (Ć (A:=X.A.in1) (W.kdl_dict (knd:=pk X.prog X.w) (kvs:=l) (ep:=E) ό) (I.ok.hd V) p J λh' tk acc L h c=>?_);have G:acc.toList.length=l.length:=by rw[Kb];exact c.1
 have K:ke ((l.map (·.1)).map kV) acc.toList:=pQ (by rw[Ia];exact G) λj v k S C=>by
  obtain⟨k',x,hx,t⟩:=c.2 j v (by rw[<-Yd];exact S);rw[Ja,hx]at C;cases C;exact O3 t
 rw[F,g]at K;refine aa$ wr ?_ (by rw[G];exact J);have d:(h'.push _).get? h'.objs.size=BD (yl "list" acc.toList.toArray 0):=Fa _ rfl;refine aa$ gc$ Mc LO ⟨_,d,rfl⟩ oJ (MO d (JR K) ⋯ λout y N ϋ P=>⟨_,rfl,(ga ⟨_,rfl,?_⟩)⟩)$ NO _;have T:y=Iq i:=rB (ϋ.trans (Tw i).symm) P$ tD i;subst T;obtain⟨e,ϊ⟩:=GY (out:=out) d;exact⟨ϗ h'.objs.size,_,I.laid (t':=tk) (λb o D=>by
  have lt:b<h'.objs.size:=za$ L b o D;rw[OO (Ba lt) (by rw[Jz];exact Ub lt)];exact ja _$ L b o D) h (show Cj X.prog X.w _ _ _ (ϱ _)from⟨by rw[Ia,((Tw i).length_eq)];exact Ya (yd n) ⋯,out.toList,e,ZD N,by rw[si];exact ϊ⟩),rfl,q _$ I.Lc.fresh h⟩
noncomputable def lx:List (Bd × D)->Option (gV)
 |[]=>BD []
 |(.inl i,_)::r=>(lx r).map (i::·)
 |_::_=>Α
theorem EV{c:b'}{H:Hp}:∀ {a:List$ Bd × D} {us:List$ Bd × V} {is:gV},Di T c H a us->lx a=BD is->us.map (·.1)=is.map Sum.inl
 |[],_,is,h,e=>by unfold Di at h;cases h;cases e;rfl
 |(k,d)::a,_,is,h,e=>by
  cases h with
  |cons q h=>
   cases k with
   |inr x=>cases e
   |inl i=>
    unfold lx at e;cases b:lx a with
    |none=>simp_all
    |some f=>
     rw[b]at e;cases e;simp only[nb];rw[EV h b,<-q.1]
def iH(xs:B'):M D:=λb=>match xs with
 |[x]=>(match ph b x with
  |some a=>(match lx a with
   |some is=>if is.length<64 then uB ((Iq is).map Z) b else Ϙ
   |none=>Ϙ)
  |none=>Ϙ)
 |_=>Ϙ
def D2:No T DL iH:=by
 intro E q H n xs o Q r p h
 match xs with
 |[]=>trivial
 |[x]=>
  obtain⟨v,w,rfl,k,f⟩:=p;rw[ub]at f;subst f;unfold iH at h;cases e:ph n x with
  |none=>simp only[e]at h;exact h.elim
  |some d=>
   simp only[e]at h;cases b:lx d with
   |none=>simp[b]at h;exact h.elim
   |some is=>
    simp only[b]at h;by_cases c:is.length<64
    ·rw[ka c]at h;obtain⟨a,m,rfl,g,i⟩:=By r k e;exact⟨a,m,is,rfl,g,EV i b,c,λl j=>ZB h r (xK _) j⟩
    ·rw[ua c]at h;exact h.elim
 |_::_::_=>exact h.elim
def OV(K:ϕ):lv->Hp->VK->Prop:=λxs H Q=>YK K xs H Q\/DL xs H Q
def zhv(d:X.Wb=G6):Xl X (ϣ "sorted")$ OV X.K:=by
 intro a s c H xs b Q I r h;rcases h with h|h
 ·exact zl5 a s c H xs b Q I r h
 ·exact zhw d a s c H xs b Q I r h
def bE(xs:B'):M D:=λa=>match xs with
 |[x]=>(match uf a x with
  |some _=>oM [x] a
  |none=>iH [x] a)
 |_=>Ϙ
def ï(d:T.K=X.K):No T (OV X.K) bE:=by
 intro E c H a xs b Q r p h
 match xs with
 |[]=>trivial
 |[x]=>
  unfold bE at h;cases e:uf a x with
  |some f=>simp[e]at h;exact ϑ$ C8 d E c H a [x] b Q r p h
  |none=>simp[e]at h;exact ϖ$ D2 E c H a [x] b Q r p h
 |_::_::_=>trivial
def å{pl}(hK:T.K=X.K)(he:FE T X o f)(hC:jp T.K$ T.ca c)(R:Wq T.K (T.ca c) m fa)
  (h:Rq T X.prog X.w X.mg X.base k fa ps dv B) (hv:ke dvs dv) (U:∀ μ H,ub T μ H dds dvs) (hn:n+dds.length=ps.length) (hr:Nd k X.A) (ha:FA T X (e::t) P)
  (a0:va (e::t) X.env=(İ,Lb e X.env)::va t X.env:=by rfl) (ό:(pc b$ va t X.env).any (·.1)=İ:=by rfl)
  (ht:Lb (ϟ (Ϝ o m i) (e::t) [] b) X.env=(do
   let ov <-Lb o X.env
   ah i.atName
   let (f,first) <-we [ov] (lh ov m pl)
   km b f first (pc b$ va (e::t) X.env) (Fg b$ Ge [] X.env)):=by rfl) :
  FE T X (ϟ (Ϝ o m i) (e::t) [] b)$ Pf [(c,λj=>B$ j++dds)] n m f P:=by
 rintro l s st H Q I ⟨μ,ρ,σ,hE,ϊ,hp⟩;refine W.methodCall_KW (Fd (he l s st H (λx C=>∃ a J p,x=ϗ a/\C a=BD (.yb (T.ca c) J p)/\p.lookup m=Α/\tL T X P st C λus N=>Mm T ps.length B (x::(us++dvs)) N Q$ XE X st) I ⟨μ,ρ,σ,hE,ϊ,hp.bind λd G a1 v C D e1 r1 q1 g=>?_⟩) λu s1 ⟨x,C,I1,rx,a,J,p,ex,ea,E,q⟩=>?_) ht
 ·unfold Qi at g;cases ϋ:bj G d with
  |none=>rw[ϋ]at g;exact g.elim
  |some z=>
   apply b_;intro z_;obtain⟨c',gs⟩:=z;rw[ϋ]at g;dsimp only at g;apply z_;by_cases S:c=c'
   ·subst S;have L:An [(c,λj=>B$ j++dds)] c=BD (λj=>B$ j++dds):=by unfold An;rw[ka$ bp c]
    cases E:gs.lookup m with
    |some y=>rw[L,E]at g;exact g.elim
    |none=>
     rw[L,E]at g;dsimp only at g;obtain⟨a,J,p,rfl,h1,h2⟩:=xx r1 q1 ϋ;refine⟨a,J,p,rfl,h1,(Zx h2).2 E,a1,ρ,G,hE.mono e1,r1,g.bind λj a3 a2 us N D e2 r2 q2 F=>?_⟩;unfold Gi at F;by_cases hl:j.length+1=n
     ·rw[ka hl]at F;exact⟨a2,a3,d::(j++dds),ub.cons (Oa.mono e2 _ _ q1)$ ub.append q2$ U _ _,by rw[lb,Gb];lia,r2,F⟩
     ·rw[ua hl]at F;exact F.elim
   ·have L:An [(c,λj=>B$ j++dds)] c'=Α:=by unfold An;rw[ua ⋯];rfl
    rw[L]at g;exact g.elim
 ·subst ex;obtain rfl:u=Mb a:=rx;obtain⟨fd,_,hb,hF⟩:=h;rw[hK]at hC R hF hb;exact HH I1 ea hC R E$ Ϲ I.ok.mod.tu R.kp (Fd (ha b l s1 st C _ I1 q) (by rintro us s2 ⟨p,N,I2,r,q2⟩;exact ⟨I2.gi,(aE (vs:=ϗ a::p) hF hr hb hv I2 (Ϟ rfl r) q2)⟩)) a0 ό
end L4
namespace L4
def vx(xs:Array Nat):Prop:=∀ i k:Nat,∀ a b:Nat,i<k->xs[i]?=BD a->xs[k]?=BD b->a<b
def Cut(xs:Array Nat)(j p:Nat):Prop:=p<=xs.size/\(∀ i a:Nat,i<p->xs[i]?=BD a->a<j)/\∀ i a:Nat,p<=i->xs[i]?=BD a->j<=a
def ľ{xs}(p:vx xs) j:∀ c lo b,b - lo<=c->lo<=b->b<=xs.size->(∀ i a:Nat,i<lo->xs[i]?=BD a->a<j)->(∀ i a:Nat,b<=i->xs[i]?=BD a->j<=a)->Cut xs j (mm xs j c lo b):=by
 intro c;induction c with
 |zero=>
  intro lo b t u h k l;have e:lo=b:=by lia
  subst e;exact⟨h,k,l⟩
 |succ f r=>
  intro lo b t u h k l;unfold mm;by_cases o:lo<b
  ·rw[ka o];dsimp only;have q:(lo+b) / 2<xs.size:=by lia
   have g:=Ib q;have s:xs.getD ((lo+b) / 2) j=xs[(lo+b) / 2]:=by simp[q]
   rw[s];by_cases m:xs[(lo+b) / 2]<j
   ·rw[ka m];refine r _ _ ⋯ ⋯ h (λi a n d=>?_) l;by_cases e:i=(lo+b) / 2
    ·subst e;rw[g]at d;cases d;exact m
    ·have:=p i _ a _ ⋯ d g;lia
   ·rw[ua m];refine r _ _ ⋯ ⋯ ⋯ k (λi a n d=>?_);by_cases e:i=(lo+b) / 2
    ·subst e;rw[g]at d;cases d;lia
    ·have:=p _ i _ a ⋯ g d;lia
  ·rw[ua o];have e:lo=b:=by lia
   subst e;exact⟨h,k,l⟩
def wW{xs}(c:vx xs) j:Cut xs j$ He xs j:=by
 exact ľ c j _ _ _ ⋯ ⋯ (ya _) (λi a h=>by lia) (λi a h b=>by
  have:=(Xc.mp b).1;lia)
def fZ{xs}(a:Cut xs j p)(b:Cut xs j q):p=q:=by
 rcases Mu p q with h|h|h
 ·have f:=La h b.1;have e:=Ib f;have c:=b.2.1 p _ h e;have d:=a.2.2 p _ (ya _) e
  lia
 ·exact h
 ·have g:=La h a.1;have e:=Ib g;have c:=a.2.1 q _ h e;have d:=b.2.2 q _ (ya _) e
  lia
def G7{xs:Array Nat}(d:p<=xs.size) i:(Vi xs p x)[i]?=if i<p then xs[i]? else if i=p then BD x else xs[i - 1]?:=by
 unfold Vi;have s1:(xs.extract 0 p).size=p:=by simp;lia
 rw[Array.getElem?_append,Array.size_push,s1];by_cases a:i<p
 ·rw[ka ⋯,ka a,yq,ua (by rw[s1];lia),Do];simp;lia
 ·rw[ua a];by_cases b:i=p
  ·subst b;rw[ka ⋯,ka rfl,yq,ka (by rw[s1])]
  ·rw[ua ⋯,ua b,Do];by_cases c:i - 1<xs.size
   ·rw[ka ⋯];congr 1;lia
   ·rw[ua ⋯,Eo ⋯]
def O5{xs}(m:vx xs)(l:Cut xs x p)(t:¬ xs[p]?=BD x):vx$ Vi xs p x:=by
 have r:∀ i a:Nat,p<=i->xs[i]?=BD a->x<a:=λi a s c=>by
  have g:=l.2.2 i a s c;rcases Nat.lt_or_ge x a with h|h
  ·exact h
  ·have e:a=x:=by lia
   subst e;by_cases o:i=p
   ·subst o;exact absurd c t
   ·have v:=(Xc.mp c).1;have u:p<xs.size:=by lia
    have q:=Ib u;have:=m p i _ _ ⋯ q c;have:=l.2.2 p _ (ya _) q
    lia
 intro i k a b n c d;rw[G7 l.1]at c d;by_cases g:i<p
 ·rw[ka g]at c;by_cases j:k<p
  ·rw[ka j]at d;exact m i k a b n c d
  ·rw[ua j]at d;by_cases f:k=p
   ·rw[ka f]at d;cases d;exact l.2.1 i a g c
   ·rw[ua f]at d;exact m i _ a b ⋯ c d
 ·rw[ua g]at c;have j:¬ k<p:=by lia
  rw[ua j,ua ⋯]at d;by_cases f:i=p
  ·rw[ka f]at c;cases c;exact r _ b ⋯ d
  ·rw[ua f]at c;exact m (i - 1) (k - 1) a b ⋯ c d
structure aj(b:Bool)(t:Xd):Prop where
 led:t.led = !b
 rH:vx t.place
 pM:t.dummies=#[]
def uW j:Pu #[] j=İ:=by
 unfold Pu;simp
def Ž(h:aj b t) j:t.slot j=.empty/\¬ t.place[He t.place j]?=BD j\/∃ i,t.slot j=.live i:=by
 unfold SetTable.slot;by_cases e:(t.place[He t.place j]? == BD j)=G6
 ·rw[ka e];exact ϖ ⟨_,rfl⟩
 ·rw[ua e,h.pM,uW]
  simp_all
def F3(h:aj b t) d l:∀ a p m,p.dummy=Α->eg t d l a p=BD m->(∃ j,m=.empty j Α/\¬ t.place[He t.place j]?=BD j)\/∃ j i nx,m=.candidate j i nx:=by
 intro a;induction a with
 |zero=>intro p m _ e;unfold eg at e;cases e
 |succ f o=>
  intro p m k e;unfold eg at e;rcases Ž h p.j with⟨c,n⟩|⟨i,c⟩
  ·rw[c]at e;dsimp only at e;cases e;rw[k];exact ϑ ⟨_,rfl,n⟩
  ·rw[c]at e;dsimp only at e;by_cases g:(d i == l)=G6
   ·rw[ka g]at e;cases e;exact ϖ ⟨_,_,_,rfl⟩
   ·rw[ua g]at e;refine o _ m ?_ e;unfold SetTable.advance;split<;>exact k
def v9(h:aj b t)(e:t.freeSlot c=BD (j,wd)):¬ t.place[He t.place j]?=BD j:=by
 unfold SetTable.freeSlot SetTable.probe at e;cases a:eg t _ c _ _ with
 |none=>rw[a]at e;cases e
 |some m=>
  rcases F3 h _ _ _ _ m rfl a with⟨d,rfl,f⟩|⟨d,i,nx,rfl⟩;all_goals simp_all
theorem aj.put(h:aj b t)(a:¬ t.place[He t.place j]?=BD j):aj b (t.put j).1:=by
 unfold SetTable.put;refine⟨h.led,O5 h.rH (wW h.rH j) a,?_⟩;rw[h.pM,uW];rfl
def aj.plain(h:aj b t):aj b { t with plain:=p }:=⟨h.led,h.rH,h.pM⟩
def ù n:vx$ Array.range n:=by
 intro i k a c e b d;have l1:=(Xc.mp b).1;have l2:=(Xc.mp d).1
 simp_all
def aj.mq(h:aj b t) n:aj b$ t.standIn n:=⟨h.led,ù n,rfl⟩
def aj.or(h:aj b t) n:aj b$ t.orStandIn n:=by
 unfold SetTable.orStandIn;split
 ·exact h
 ·exact h.mq n
def aj.lay(h:aj b t) c a x:aj b (layNew t c a x).2.1:=by
 unfold layNew;cases e:t.freeSlot a with
 |none=>exact h.mq _
 |some q=>
  obtain⟨j,wd⟩:=q;dsimp only;exact(h.put$ v9 h e).or _
def ŗ m(f:Nat->Option Nat):vx ((((List.range m).filterMap λj=>(f j).map (j,·)).map (·.1)).toArray):=by
 have p:List.Pairwise (·<·) (((List.range m).filterMap λj=>(f j).map (j,·)).map (·.1)):=by
  have n:List.Pairwise (·<·)$ List.range m:=List.pairwise_lt_range;have e:((List.range m).filterMap λj=>(f j).map (j,·)).map (·.1)=(List.range m).filter λj=>(f j).isSome:=by
   rw[List.map_filterMap];rw[<-List.filterMap_eq_filter];congr 1;funext j;cases o:f j<;>simp[Option.guard,o]
  rw[e];exact n.sublist xr
 intro i k a c b d g;rw[oi]at d g;obtain⟨l1,h⟩:=da.mp d;obtain⟨l2,l⟩:=da.mp g;rw[<-h,<-l];exact dn.mp p i k l1 l2 b
def aj.sC(h:aj b t) d c:aj b (om t d c).2.1:=by
 unfold om;cases e:t.relaid _ c with
 |none=>exact h.mq _
 |some q=>
  obtain⟨g,f⟩:=q;dsimp only;split
  ·unfold SetTable.relaid SetTable.laid at e;cases a:SetTable.layClean _ _ with
   |none=>rw[a]at e;cases e
   |some ow=>
    rw[a]at e;cases e;exact⟨h.led,ŗ _ _,rfl⟩
  ·exact h.mq _
def aj.fresh b:aj b$ Gs 0 0$ !b:=⟨rfl,λi k a c e d e=>by simp[Gs]at d,rfl⟩
end L4
namespace L4
open Spec
section
variable{prog:Ca}{w:Ua}{K:Type}[DecidableEq K][BEq K][LawfulBEq K]{knd:KeyKind prog w K}{A:Na}{E:Value->Shared->Prop}{s:Shared}{b:Bool}{a:Addr}{k:K}{x:Value}
def qp(knd:KeyKind prog w K)(b:Bool)(h:Heap)(a:Addr)(S:K->Bool)(n:Nat):Prop:=
 ∃ o c d t,h.get? a=BD o/\o.ExactSet/\o.data=.set c d t/\SB knd c.toList/\(∀ k,S k=G6 ↔ ∃ e∈c.toList,knd.is k e.2=G6)/\c.size<scanBound/\t.fits c.size=G6/\c.size=n/\aj b t
def fU{h:Heap}(q:h.get? a=BD o)(i:o.ExactSet)(r:o.data=.set p f t)(j:SB knd c.toList)
  (l:∀ k,S' k=G6 ↔ ∃ e∈c.toList,knd.is k e.2=G6) (m:c.size<scanBound) (n:d.fits c.size=G6) (s:aj b d) :
  (h.update a$ Zt c d).get? a=BD { o with data:=.set c (f+1) d }/\qp knd b (h.update a$ Zt c d) a S' c.size:=by
 obtain⟨g,_⟩:=SetOf_store q i r j l m n;exact⟨g,_,c,f+1,d,g,i,rfl,j,l,m,n,rfl,s⟩
def vQ{g:Bool->Ql Unit}(N:∀ c s1 n,n () s1->wpAny (model prog w) A (g c) n E s1)
  (u:s.heap.get? a=BD o) (v:o.ExactSet) (x:o.data=.set L J t) (B:SB knd d.toList) (C:∀ k,j k=G6 ↔ ∃ e∈d.toList,knd.is k e.2=G6) (D:d.size<scanBound) (M:f.fits d.size=G6) (F:aj b f)
  (q:∀ m,gd a s.heap m->qp knd b m a j d.size->R (BD G6) { s with heap:=m }) :
  wpAny (model prog w) A (do
    storeSet a d f
    if (!wd && f.tooFull)=G6 then do
      g (om f d$ sf d.size).2.2
      storeSet a (om f d$ sf d.size).1 (om f d$ sf d.size).2.1
      pure (BD G6)
     else pure (BD G6)) R E s:=by
 refine aa$ LB u x ?_$ Yf D;obtain⟨r,I⟩:=fU u v x B C D M F;have h:=bc s.heap a$ Zt d f;split
 ·have i:=relayAll_perm f d$ sf d.size;have G:=relayAll_fits f d$ sf d.size;have H:=F.sC d$ sf d.size;generalize om f d _=ϊ at i G H ⊢;obtain⟨l,P,ϋ⟩:=ϊ;have z:l.size=d.size:=by rw[<-Kb,i.length_eq,Kb]
  refine aa$ N _ _ _$ aa$ LB r rfl ?_$ Yf ⋯;obtain⟨_,p⟩:=fU (S':=j) r v rfl (B.perm i) (λk=>(C k).trans ⟨(by rintro ⟨e,he,y⟩;exact ⟨e,i.mem_iff.mpr he,y⟩),(by rintro ⟨e,he,y⟩;exact ⟨e,i.mem_iff.mp he,y⟩)⟩) ⋯ G H;rw[z]at p;exact ga$ q _ (h.trans$ bc _ a _) p
 ·exact ga$ q _ h I
def KY(L:knd.is k x=G6)(M:x.scannable=G6)(ό:qp knd b s.heap a S n)(hn:n+1<scanBound)
  (q:∀ d,gd a s.heap d->qp knd b d a (λD=>S D || decide (D=k)) (if S k then n else n+1)->Q (!S k) { s with heap:=d }):wpAny (model prog w) A (setAddHashed a x$ knd.hash k) Q E s:=by
 apply b_;intro z_;obtain⟨o,f,X,t,l,I,m,B,C,R,J,T,U⟩:=ό;apply z_;refine gc$ aa$ Ve l m J ?_;dsimp only;rw[byScan_of M R B];refine aa$ aa$ rl$ aa$ wpAny_setScan_of L l m J B ?_;cases V:List.findIdx? (λe=>knd.is k e.2) f.toList with
 |some j=>
  obtain⟨hj,pj,_⟩:=List.findIdx?_eq_some_iff_getElem.mp V;have u:=(C k).mpr ⟨f.toList[j],Ch hj,pj⟩;refine ga$ ga ?_;have z:=q s.heap (pJ a s.heap) ⟨o,f,X,t,l,I,m,B,λD=>by
   rw[qf,Tc,<-C D];exact⟨λy=>y.elim id λe=>e ▸ u,ϑ⟩,R,J,by rw[u];exact T,U⟩
  rw[u]at z
  simp_all
 |none=>
  have u:S k=İ:=by
   cases y:S k with
   |false=>rfl
   |true=>obtain⟨e,he,p⟩:=(C k).mp y;have:=List.findIdx?_eq_none_iff.mp V e he;rw[p]at this;cases this
  have H:∀ c {s1:Shared} {i:Unit->Shared->Prop},i () s1->wpAny (model prog w) A (match c with|true=>rule "set.scan.the-table-gave-way" | false=>pure ()) i E s1:=λc s1 i y=>by
   cases c
   ·exact ga y
   ·exact rl y
  have r:=layNew_perm t f (knd.hash k) x;have F:=layNew_fits t f (knd.hash k) x;have G:=U.lay f (knd.hash k) x;generalize layNew t f _ x=ϊ at r F G ⊢;apply b_;intro z_;obtain⟨g,t1,wd,gv⟩:=ϊ;rw[Array.toList_push]at r;have N:=(B.push L M).perm r;have ϋ:=mem_push_iff L C r;have W:g.size=n+1:=by rw[<-Kb,r.length_eq,Gb,Kb,T];rfl
  apply z_;have P:g.size<scanBound:=by omega
  have Mf:∀ d,gd a s.heap d->qp knd b d a _ g.size->Q G6 { s with heap:=d }:=λd v h=>by
   have:=q d v;rw[u]at this;rw[W]at h;exact this h
  refine aa$ H _ ?_;split
  ·refine aa ?_;rw[hashByValue_scannable 8 M];refine ga$ vQ (b:=b) ?_ l I m N ϋ P ?_ ?_ ?_
   ·exact λc s1 i y=>H c y
   ·split
    ·exact F
    ·exact SetTable.fits_plain_off F
   ·split
    ·exact G
    ·exact G.plain
   ·exact λd v h=>ga$ Mf d v h
  ·refine aa$ ga ?_;refine vQ ?_ l I m N ϋ P F G ?_
   ·exact λc s1 i y=>H c y
   ·exact λd v h=>ga$ Mf d v h
end
noncomputable def bT(w:Ua):Bool:=w.params.followText "set-order"
section
variable{prog:Ca}{w:Ua}{A:Na}
def G0(g:qp (Hf prog w) b h a S n)(e:∀ k,S k=c k)(f:n=d):qp (Hf prog w) b h a c d:=by
 obtain rfl:S=c:=funext e
 simp_all
def YM(f:qp (Hf prog w) b h a S n)(k:∀ o,h.get? a=BD o->c.get? a=BD o):qp (Hf prog w) b c a S n:=by
 obtain⟨o,e,d,t,g,r⟩:=f;exact⟨o,e,d,t,k o g,r⟩
def W3{St}(W:WalksS prog w A.in1 I u j G n P St) a(x:a ∉ u) f(H:∀ i v,P i v->∃ t,v=Tn (f i) t)(N:n+1<scanBound) :
  ∀ k i s,n - i=k->i<=n->St i s->qp (Hf prog w) b s.heap a (λy=>(Af f i).any (·== y)) (Af f i).length->
   (∀ d,Moved (a::j) G s d->qp (Hf prog w) b d.heap a (λy=>(Af f n).any (·== y)) (Af f n).length->R (.ok$ .ret Ic) d)->codeAny (model prog w) A (.builtin "set.update.loop" ⟨[Mb a,Mb I],[]⟩) R s:=by
 have r:a ∉ j:=λz=>x$ W.sub _ z;have h:∀ c∈j,c∈a::j:=λc g=>ma _ g;intro k;induction k with
 |zero=>
  intro i s K J st l q;obtain rfl:i=n:=by lia
  exact Vc zq$ aa (W.done s _ _ st λd m=>(ga$ q d (m.mono h)$ YM l λo e=>m.heap a _ r e))
 |succ k L=>
  intro i s K J st l q;have lt:i<n:=by lia
  refine Vc zq$ aa (W.item i s _ _ lt st λv d E p m=>?_);obtain⟨t,rfl⟩:=H i v E;refine aa$ gc$ gc$ aa$ (Hf prog w).pyHash (intKind_is _ _ _ _) ?_;refine KY (intKind_is _ _ _ _) rfl (YM l λo e=>m.heap a _ r e) (by have:=Kz f i;lia) λh' sb B=>?_;have C:qp _ b h' a (λy=>(Af f$ i+1).any (·== y)) (Af f$ i+1).length:=G0 B (λy=>by rw[HY,step_any]) (by rw[HY,step_length]);refine ga ⟨ce F.plain_set_update_loop _,L (i+1) _ ⋯ lt (W.frame _ d _ _ p (rg _) λc g o e=>?_) C λs2 M D=>?_⟩
  ·rw[sb.2 c (λz:c=a=>x (by rw[<-z];exact g))];exact e
  ·refine q s2 (Moved.trans W.gtrans ((m.mono h).then_heap (rg _) λc o g e=>?_) M) D;rw[sb.2 c (λz:c=a=>g (by rw[z];exact na))];exact e
variable{E:Value->Shared->Prop}{s:Shared}
def Χ x(q:Q (Mb s.heap.objs.size) { s with heap:=s.heap.push { cls:=Jh "set",dict:=Α,data:=.set #[] 0 (.fresh 0 0$ !bT w) } }) :
  codeAny (model prog w) A (.call (ϣ "set.__new__") ⟨[Jh "set",x],[]⟩) (wants Q E) s:=by
 refine qJ$ aa$ bw (PySem.F.newCall_set_1 x)$ ga ⟨ce PySem.F.plain_set_new _,Vc PySem.F.entry_set_new ?_⟩;unfold Rh.«set.__new__» fw;have a:=sub_set_self;obtain⟨b,g,d,e,c⟩:=s
 wp_walk
 exact zg$ ga$ aa$ wpAny_alloc$ ga$ ga q
end
section
variable{prog:Ca}{w:Ua}{A:Na}{E:Value->Shared->Prop}{s:Shared}
abbrev iv(w:Ua):Obj:={ cls:=Jh "set",dict:=Α,data:=.set #[] 0 (.fresh 0 0$ !bT w) }
set_option maxHeartbeats 3200000 in
def V2{l}{a}{h}{Q}(V:A.handled=Α)(X:s.heap.IsList l a)(W:bh a.toList h)(T:a.size+1<scanBound)
  (q:∀ d t,qp (Hf prog w) (bT w) d s.heap.objs.size (λy=>(Af (λi=>h.getD i 0) a.size).any (·== y)) (Af (λi=>h.getD i 0) a.size).length->
   (∀ b o,b<s.heap.objs.size->s.heap.get? b=BD o->d.get? b=BD o)->Q (Mb s.heap.objs.size) { s with heap:=d,toks:=t }) :
  wpAny (model prog w) A (call (Jh "set") [Mb l]) Q E s:=by
 obtain⟨c,tl,K⟩:=md.mro;have f1:=md.made;have f2:=md.sub;refine Ki$ qJ (show wpAny _ _ (callAny (Jh "set") _) _ _ _ from ga ⟨Code.quiet_builtin _ (by decide +kernel),Vc PySem.F.entry_type_call ?_⟩);rw[Around.under_plain (weight_type_call_type "set" [Mb l] []) rfl];have f3:=md.notType;have f4:=md.canCreate;have f5:=PySem.F.typeCall_set_1$ Mb l;repeat (any_goals (first|assumption|wp_step))
 refine lf (Χ (Mb l) (E:=E) (Q:=λob s1=>ob=Mb s.heap.objs.size/\s1={ s with heap:=s.heap.push (iv w) }) ⟨rfl,rfl⟩) λr s1 C=>?_;cases r with
 |error e=>exact C
 |ok ϋ=>
  cases ϋ with
  |ret ob=>
   obtain⟨rfl,rfl⟩:=C;have I:(s.heap.push$ iv w).get? s.heap.objs.size=BD (iv w):=Fa _ rfl;have tS:Km { s with heap:=s.heap.push (iv w) } (Mb s.heap.objs.size) "set":=⟨_,I,rfl⟩
   have i1:=md.init.lookup;have i2:=md.init.bind$ Mb s.heap.objs.size;repeat (any_goals (first|assumption|wp_step))
   refine lf (Pj (R:=wants (λr s2=>r=Ic/\∃ d t,s2={ s with heap:=d,toks:=t }/\qp (Hf prog w) (bT w) d s.heap.objs.size (λy=>(Af (λi=>h.getD i 0) a.size).any (·== y)) (Af (λi=>h.getD i 0) a.size).length/\
     (∀ b o,b<s.heap.objs.size->s.heap.get? b=BD o->d.get? b=BD o)) E) md.init.plain PySem.F.entry_set_init$ check_set_init_1 tS ?_) λr2 s2 g=>?_
   ·obtain⟨⟨oc,od,a0,G⟩,J,j,M,m⟩:=X;simp only at j m;subst j;subst m;have x:(s.heap.push$ iv w).get? l=BD { cls:=Jh "list",dict:=od,data:=Ϧ a M,slots:=G }:=ja _ J;have g1:=PySem.F.sub_list_set;have g2:=PySem.F.sub_list_frozenset;have g3:(Jh "list" == Jh "dict")=İ:=by decide
    have n:(s.heap.push$ iv w).IsList l a:=⟨_,x,rfl,M,rfl⟩
    unfold Rh.«set.__init__» noKeywords gw;generalize z:pyIter=PI
    wp_walk
    subst z;refine Oh n$ aa$ Qp ?_;have L:l<s.heap.objs.size:=za J;have S:A.in1.in1.in1.handled=Α:=by simp[V]
    have ϊ:l≠(s.heap.push$ iv w).objs.size:=by rw[Yc];exact Ba$ Ub L
    have nf:s.heap.objs.size ∉ [(s.heap.push$ iv w).objs.size,l]:=by
     rw[Yc];simp only[Ea,kc,Qg,not_or];exact⟨Ba$ Sb _,Td L⟩
    refine W3 (b:=bT w) ((oj S _ l ϊ a).toS) s.heap.objs.size nf (λi=>h.getD i 0) (λi v ό=>IntsAre.int_at W i v (by rw[Yd];exact ό)) T (a.size - 0) 0 _ ⋯ (qg _) ⟨⟨_,Fa _ rfl,rfl,rfl⟩,(n.push _)⟩ ?S0 ?RR;case S0=>
     exact⟨iv w,#[],0,_,ja _ I,⟨rfl,rfl,rfl⟩,rfl,λe U=>by simp at U,λk=>by simp[IY],by decide,by rfl,by simp[IY],aj.fresh _⟩
    case RR=>
     intro s' p f;obtain⟨d,P,N,H,D⟩:=s';obtain rfl:P=s.gens:=p.gens;obtain rfl:N=s.drawn:=p.drawn;obtain rfl:D=s.os:=p.os;refine ga$ ga ⟨rfl,d,H,rfl,f,λb o lt e=>?_⟩;refine p.heap b o ?_$ ja _$ ja _ e;rw[Yc];simp only[Ea,kc,Qg,not_or];exact⟨Ba lt,Ba$ Ub lt⟩
   ·cases r2 with
    |error e=>exact g
    |ok u=>
     cases u with
     |ret r=>
      obtain⟨rfl,d,t,rfl,f,B⟩:=g;repeat (any_goals (first|assumption|wp_step))
      exact q _ _ f B
     |_=>exact g
  |_=>exact C
end
def zt:XO "set_iterator" "__next__" "set_iterator.__next__":=.of (owner:="set_iterator") (n:="__next__") (by rw[rJ,Nu];kernel_rfl) (by decide +kernel) (by decide +kernel) (by decide +kernel) (ϑ$ by decide +kernel) (by rw[Rp];kernel_rfl)
def CG:aP table "set_iterator.__next__" = BD Rh.«set_iterator.__next__»:=entryFor_of_tree (by kernel_rfl)
def cF a:Vp "set_iterator.__next__" ⟨[a],[]⟩:=by unfold Vp;kernel_rfl
def Ė:aP table "set.__iter__" = BD Rh.«frozenset.__iter__»:=QO (id':="frozenset.__iter__") (by kernel_rfl) (by first|rfl|decide +kernel) (by decide +kernel) (by kernel_rfl)
def jo(h:Heap)(a:Addr)(c:Array$ Int × Value)(b:Nat)(t:Xd):Prop:=∃ o,h.get? a=BD o/\o.ExactSet/\o.data=.set c b t
def To(h:Heap)(I a:Addr)(first:Value)(i n b:Nat):Prop:=∃ o,h.get? I=BD o/\o.cls=Jh "set_iterator"/\o.data=Ϫ #[first,Fc i,Mb a,Fc n,Fc b]
section
variable{prog:Ca}{w:Ua}{A:Na}{E:Value->Shared->Prop}{s:Shared}{I a:Addr}{es:Array$ Int × Value}{ep:Nat}{t:Xd}{i:Nat}
def To.ty(h:To s.heap I a first i n ep):s.TypeIs (Mb I) "set_iterator":=let ⟨o,b,c,_⟩:=h;⟨o,b,c⟩
def zj9{f:Nat}(g:To s.heap I a (Fc f) i es.size ep)(m:jo s.heap a es ep t)(p:t.fits es.size=G6)(u:a≠I)
  (r:∀ A E (Q:Option (Value × Nat)->Shared->Prop),Q (BD (v,b)) s->wpAny (model prog w) A (au a f i ep) Q E s)
  (q:∀ e,To e I a (Fc b) (i+1) es.size ep->gd I s.heap e->Q (BD v) { s with heap:=e }):wpAny (model prog w) A (pyNext$ Mb I) Q E s:=by
 obtain⟨o,h,n,c⟩:=id g;obtain⟨oS,l,x,k⟩:=id m;refine aa$ Vk$ Pd g.ty zt$ Mc zt g.ty CG ?_$ cF _;refine aa$ ga$ aa$ Qj h c$ aa$ wf l k p ?_;rw[ua ⋯];refine aa$ r _ _ _$ aa$ Zf h c ⋯ ?_;have j:=pd (Ho (·.setIfInBounds 0$ Tn b 0)) h$ Le$ rc c _;have d:=rc c (·.setIfInBounds 0$ Tn b 0);refine aa$ Zf j d ⋯$ ga ⟨_,rfl,ga$ q _ ⟨_,(pd _ j$ Le$ rc d _),?_,?_⟩$ (bc ..).trans$ bc ..⟩
 ·rw[Fk,Fk];exact n
 ·rw[rc d];simp[Fc]
def GP{Q}{first:Value}{n:Nat}{d}(f:A.handled=Α)(sb:gd I s.heap d)(q:∀ b,zl I s.heap b->Q Α { s with heap:=b }) :
  wpAny (model prog w) A.in1 (do let e <-newExc (Jh "StopIteration") [];raiseNew e:Ql PySem.Fin) (λMf a=>∃ v,Mf=Fin.done (Flow.ret v)/\wpAny (model prog w) A (pure$ BD v) Q E a)
   (λe a=>wpAny (model prog w) A (do let c <-Pz e (Jh "StopIteration");if c=G6 then pure Α else throw e) Q E a) { s with heap:=d }:=by
 refine aa$ aa$ qc (aa$ bw (by rfl)$ qc (aa$ wpAny_handled ?_)$ by size_fits) (by size_fits);rw[f];refine aa$ ga$ wpAny_throw ?_;refine aa$ bn ⟨_,Fa _ rfl,rfl⟩ isSubtype_stop ?_;exact ga$ q _$ (sb.extBut.push _).push _
def Ŕ{f:Nat}(l:A.handled=Α)(b:To s.heap I a (Fc f) i es.size ep)(j:jo s.heap a es ep t)(k:t.fits es.size=G6)
  (m:∀ A E Q,Q Α s->wpAny (model prog w) A (au a f i ep) Q E s)
  (q:∀ c,zl I s.heap c->Q Α { s with heap:=c }):wpAny (model prog w) A (pyNext$ Mb I) Q E s:=by
 obtain⟨o,e,p,d⟩:=id b;obtain⟨oS,h,r,g⟩:=id j;refine aa$ Vk$ Pd b.ty zt$ Mc zt b.ty CG ?_$ cF _;refine aa$ ga$ aa$ Qj e d$ aa$ wf h g k ?_;rw[ua ⋯];exact aa$ m _ _ _$ aa$ Zf e d ⋯$ GP (first:=Ic) (n:=0) l (bc ..) q
end
theorem pK{a:Type}:∀ (l:List a) (i:Nat) (h:i<l.length),(l[i]::l.eraseIdx i).Perm l
 |x::l,0,_=>.refl _
 |x::l,i+1,h=>by
  have:=pK l i ⋯;exact(List.Perm.swap _ _ _).trans$ this.cons x
theorem lR{d:Type}(nx:Nat->Nat):∀ (a k:Nat) (left:List d) (out:Array d),left.length=a->∃ b:List d,(qm nx a k left out).toList=out.toList++b/\b.Perm left
 |0,k,left,out,h=>by
  obtain rfl:=Fo.mp h;exact⟨[],by unfold qm;simp,.refl _⟩
 |a+1,k,left,out,h=>by
  have c:nx k % left.length<left.length:=RO _ ⋯;unfold qm;rw[Db c];obtain⟨b,e,p⟩:=lR nx a (k+1) _ (out.push left[nx k % left.length]) (by rw[Hm c];lia);exact⟨left[nx k % left.length]::b,by rw[e];simp,((p.cons _).trans$ pK left _ c)⟩
def yS nx(xs:Array a):(on nx xs).toList.Perm xs.toList:=by
 obtain⟨b,e,p⟩:=lR nx xs.size 0 xs.toList #[] ⋯;unfold on
 simp_all
noncomputable def fB(pl:Array Nat)(i:Nat):Nat:=if i=0 then 0 else pl.getD (i - 1) 0+1
def N8{pl}(d:vx pl)(k:i<=pl.size):He pl (fB pl i)=i:=by
 refine fZ (wW d _) ⟨k,λj a l b=>?_,λj a l b=>?_⟩
 ·unfold fB;rw[ua ⋯];have c:i - 1<pl.size:=by lia
  have f:=Ib c;have h:pl.getD (i - 1) 0=pl[i - 1]:=by simp[c]
  by_cases e:j=i - 1
  ·subst e;rw[f]at b;cases b;lia
  ·have:=d j _ a _ ⋯ b f;lia
 ·unfold fB;by_cases g:i=0
  ·rw[ka g];lia
  ·rw[ua g];have c:i - 1<pl.size:=by lia
   have h:pl.getD (i - 1) 0=pl[i - 1]:=by simp[c]
   have:=d _ j _ a ⋯ (Ib c) b;lia
section
variable{prog:Ca}{w:Ua}{A:Na}{E:Value->Shared->Prop}{s:Shared}{a:Addr}{es:Array$ Int × Value}{ep:Nat}{t:Xd}{i:Nat}
def lH(q:Q (bT w) s):wpAny (model prog w) A setsByText Q E s:=by
 exact aa$ zg$ ga q
def Z9(b:bT w=G6)(f:jo s.heap a es ep t)(c:t.fits es.size=G6)(q:Q (((on (w.params.setOrder a ep) es)[i]?).map λe=>(e.2,0)) s):wpAny (model prog w) A (au a 0 i ep) Q E s:=by
 obtain⟨o,g,x,d⟩:=f;refine aa$ Ve g d c$ aa$ lH ?_;rw[b];simp;refine aa$ aa$ Ve g d c$ aa$ lH ?_;rw[b];exact aa$ zg$ ga$ ga q
def Z6(j:bT w=İ)(h:aj (bT w) t)(u:(!t.plain && decide (es.size > 1))=İ)(r:i<=es.size)(p:jo s.heap a es ep t)(c:t.fits es.size=G6)(q:Q ((es[i]?).map λe=>(e.2,fB t.place (i+1))) s):wpAny (model prog w) A (au a (fB t.place i) i ep) Q E s:=by
 obtain⟨o,g,x,d⟩:=p;have l:t.place.size=es.size:=by simp[SetTable.fits,Ma]at c;exact c.1
 refine aa$ Ve g d c$ aa$ lH ?_;rw[j];simp;refine Df (λz=>?_) (λv=>?_)
 ·have:(!t.plain && decide (es.size > 1))=G6:=z;rw[u]at this;cases this
 ·refine aa ?_;refine Df (λz=>?_) (λv=>ga ?_)
  ·have:=z;rw[h.led,j]at this;cases this
  ·rw[N8 h.rH (by rw[l];exact r)];refine ga ?_;by_cases k:i<es.size
   ·have f:es[i]?=BD es[i]:=Ib k;have b:i<t.place.size:=by rw[l];exact k
    have m:t.place[i]?=BD t.place[i]:=Ib b;rw[f]at q ⊢;rw[m];have n:fB t.place (i+1)=t.place[i]+1:=by unfold fB;simp[b]
    rwa [n]at q
   ·have f:es[i]?=Α:=Eo ⋯
    simp_all
end
section
variable{prog:Ca}{w:Ua}{A:Na}{E:Value->Shared->Prop}{s:Shared}{I a p:Addr}{es:Array$ Int × Value}{ep:Nat}{t:Xd}{i:Nat}
def S4{M}{a}(b:n≠0)(q:∀ i,i<n->∀ c,Q i { s with drawn:=c }):wpAny M A (choose a n) Q E s:=λd ps d=>⟨b,q _ (RO _$ Nat.pos_of_ne_zero b) _⟩
theorem NS{M:ui}{d:Type}:∀ (n:Nat) (xs:List d) (s:Shared) (Q:List d->Shared->Prop),xs.length=n->(∀ b c,b.Perm xs->Q b { s with drawn:=c })->wpAny M A (drawOrder n xs) Q E s
 |0,xs,s,Q,h,q=>by
  obtain rfl:=Fo.mp h;exact ga$ q [] s.drawn$ .refl _
 |n+1,[],s,Q,h,q=>by cases h
 |n+1,x::xs,s,Q,h,q=>by
  refine aa (S4 ⋯ λi a c=>?_);rw[Db a];exact aa (NS n _ _ _ (by rw[Hm a];simpa using h) λb e p=>ga$ q _ e$ (p.cons _).trans$ pK _ i a)
def ky(h:Heap)(p:Addr)(ps:h8):Prop:=∃ o n,h.get? p=BD o/\o.data=Ϧ (ps.map λ(i:Nat)=>Fc i).toArray n
def Ĕ(d:To s.heap I a (Mb p) i es.size ep)(m:jo s.heap a es ep t)(k:t.fits es.size=G6)(n:ky s.heap p ps)(u:ps[i]?=BD j)(x:es[j]?=BD v)
  (q:∀ c,To c I a (Mb p) (i+1) es.size ep->gd I s.heap c->Q (BD v.2) { s with heap:=c }):wpAny (model prog w) A (pyNext$ Mb I) Q E s:=by
 obtain⟨o,f,r,b⟩:=id d;obtain⟨oS,h,z,g⟩:=id m;obtain⟨oT,y,l,dT⟩:=n;refine aa$ Vk$ Pd d.ty zt$ Mc zt d.ty CG ?_$ cF _;refine aa$ ga$ aa$ Qj f b$ aa$ wf h g k ?_;rw[ua ⋯];refine aa$ Xf l dT ?_;dsimp only;have e:(ps.map λ(i:Nat)=>Fc i).toArray[(i:Int).toNat]?=BD (Tn j 0):=by
  rw[Int.toNat_natCast,oi,Ja,u];rfl
 rw[e];simp;refine aa$ aa$ Ve h g k ?_;dsimp only;rw[ua ⋯];rw[x];refine ga$ aa$ Zf f b ⋯$ ga ⟨_,rfl,ga$ q _ ⟨_,(pd _ f$ Le$ rc b _),?_,?_⟩$ bc ..⟩
 ·rw[Fk];exact r
 ·rw[rc b];simp
def Ĥ(r:A.handled=Α)(c:To s.heap I a (Mb p) i es.size ep)(k:jo s.heap a es ep t)(m:t.fits es.size=G6)(l:ky s.heap p ps)(v:ps[i]?=Α)
  (q:∀ f,zl I s.heap f->Q Α { s with heap:=f }):wpAny (model prog w) A (pyNext$ Mb I) Q E s:=by
 obtain⟨o,d,u,b⟩:=id c;obtain⟨oS,h,y,g⟩:=id k;obtain⟨oT,x,j,dT⟩:=l;refine aa$ Vk$ Pd c.ty zt$ Mc zt c.ty CG ?_$ cF _;refine aa$ ga$ aa$ Qj d b$ aa$ wf h g m ?_;rw[ua ⋯];refine aa$ Xf j dT ?_;dsimp only;have e:(ps.map λ(i:Nat)=>Fc i).toArray[(i:Int).toNat]?=Α:=by
  simp_all
 rw[e];refine aa (Zf d b ⋯ (aa (Zf (pd _ d$ Le$ rc b _) (rc b (·.setIfInBounds 0 _)) ⋯ ?_)));exact GP (s:=s) (first:=Ic) (n:=0) r ((bc ..).trans$ bc ..) q
noncomputable abbrev my(a:Addr)(first:Value)(n ep:Nat):Obj:={ cls:=Jh "set_iterator",data:=Ϫ #[first,Fc 0,Mb a,Fc n,Fc ep] }
noncomputable abbrev nL(ps:h8):Obj:={ cls:=Jh "tuple",data:=Ϧ (ps.map λ(i:Nat)=>Fc i).toArray }
def ō(l:jo s.heap a es ep t)(c:t.fits es.size=G6)(n:es.size<scanBound)
  (j:(!bT w && (!t.plain && decide (es.size > 1)))=İ->Q (Mb s.heap.objs.size) { s with heap:=s.heap.push (my a (Fc 0) es.size ep) })
  (k:(!bT w && (!t.plain && decide (es.size > 1)))=G6->∀ b e,b.Perm (List.range es.size)->Q (Mb$ s.heap.objs.size+1) { s with heap:=(s.heap.push$ nL b).push (my a (Mb s.heap.objs.size) es.size ep),drawn:=e }) :
  wpAny (model prog w) A (pyIter$ Mb a) Q E s:=by
 obtain⟨o,g,x,d⟩:=id l;have h:s.TypeIs (Mb a) "set":=⟨o,g,x.1⟩
 refine MB h Qn$ Mc Qn h Ė (aa$ ga$ aa$ aa$ wf g d c$ ga$ aa$ aa$ Ve g d c$ aa$ lH$ ga$ Df (λz=>?_)$ λz=>?_)$ PySem.F.args_set_iter_1 _
 ·have f:=z;refine aa (NS _ _ _ _ ⋯ λb e i=>?_);have m:b.length=es.size:=by rw[i.length_eq,Me]
  refine aa$ wpAny_newTuple (aa$ NB (ja _ g) d c ?_) (by rw[Ia,m];exact Yf n);refine aa$ qc (ga ⟨_,rfl, "set_iterator",_,⟨_,Fa _ rfl,rfl⟩,zt.lookup,?_⟩) (by size_fits);have:=k f b e i;rw[<-Yc s.heap _]at this;omega
 ·have f:(!bT w && (!t.plain && decide (es.size > 1)))=İ:=by
   cases y:(!bT w && (!t.plain && decide (es.size > 1)))with
   |false=>rfl
   |true=>exact absurd y z
  refine aa$ ga$ aa$ NB g d c$ aa$ qc (ga ⟨_,rfl, "set_iterator",_,⟨_,Fa _ rfl,rfl⟩,zt.lookup,?_⟩) (by size_fits);exact j f
end
def iV:XO "set_iterator" "__iter__" "set_iterator.__iter__":=.of (owner:="set_iterator") (n:="__iter__") (by rw[rJ,Nu];kernel_rfl) (by decide +kernel) (by decide +kernel) (by decide +kernel) (by first|exact ϑ (by decide +kernel)|exact .inr _) (by rw[Rp];kernel_rfl)
def X0:aP table "set_iterator.__iter__" = BD Rh.«dict_keyiterator.__iter__»:=QO (id':="dict_keyiterator.__iter__") (by kernel_rfl) (by first|rfl|decide +kernel) (by decide +kernel) (by kernel_rfl)
def Ö a:Vp "set_iterator.__iter__" ⟨[a],[]⟩:=by unfold Vp;kernel_rfl
section
variable{prog:Ca}{w:Ua}{A:Na}{I a p:Addr}{es:Array$ Int × Value}{ep:Nat}{t:Xd}
def jR(h:To s.heap I a first i n ep)(q:Q (Mb I) s):wpAny (model prog w) A (pyIter$ Mb I) Q E s:=by
 exact MB h.ty iV$ Mc iV h.ty X0 (ga ⟨_,rfl, "set_iterator",_,h.ty,zt.lookup,q⟩)$ Ö _
def To.keep(x:To h I a first i n ep)(k:∀ o,h.get? I=BD o->b.get? I=BD o):To b I a first i n ep:=let ⟨o,e,r⟩:=x;⟨o,k o e,r⟩
def jo.keep(x:jo h a es ep t)(k:∀ o,h.get? a=BD o->b.get? a=BD o):jo b a es ep t:=let ⟨o,e,r⟩:=x;⟨o,k o e,r⟩
def ky.keep{h a}(x:ky h p ps)(k:∀ o,h.get? p=BD o->a.get? p=BD o):ky a p ps:=let ⟨o,n,e,r⟩:=x;⟨o,n,k o e,r⟩
def CQ{f:Nat->Nat}{ord:List$ Int × Value}(D:A.handled=Α)(p:t.fits es.size=G6)(g:a≠I)(F:ord.length=es.size)
  (u:∀ (s:Shared) (i:Nat),jo s.heap a es ep t->i<=es.size->∀ (A:Na) (E:Value->Shared->Prop) (Q:Option (Value × Nat)->Shared->Prop),Q ((ord[i]?).map λe=>(e.2,f (i+1))) s->wpAny (model prog w) A (au a (f i) i ep) Q E s) :
  Walks prog w A I [I,a] [I] es.size (λi v=>(ord[i]?).map (·.2)=BD v) (λi h=>To h I a (Fc$ f i) i es.size ep/\jo h a es ep t) where
 sub:=λb c=>by simp at c;simp[c]
 frame:=λG G G st r=>⟨st.1.keep λo e=>r I ⋯ o e,st.2.keep λo e=>r a ⋯ o e⟩
 item:=λi s Q E q st d=>by
  have n:i<ord.length:=by rw[F];exact q
  have y:=Db n;exact zj9 st.1 st.2 p g (λj k l x=>u s i st.2 (yd q) j k l (by rw[y];exact x)) λm B sb=>(d _ m s.toks ⋯ ⟨B,st.2.keep λo e=>by rw[sb.2 a g];exact e⟩ λb o c e=>by rw[sb.2 b (λz=>c (by simp[z]))];exact e)
 done:=λs Q E st d=>by
  exact Ŕ D st.1 st.2 p (λj k l x=>u s es.size st.2 (ya _) j k l ⋯) λm C=>d m s.toks λb o c e=>C b o (λz=>c (by simp[z])) e
 self:=λG G G G st d=>jR st.1 d
def A7{ps:h8}(C:A.handled=Α)(x:t.fits es.size=G6)(n:a≠I)(r:p≠I)(q:ps.Perm$ List.range es.size) :
  Walks prog w A I [I,a,p] [I] es.size (λi v=>((ps[i]?).bind λj=>es[j]?).map (·.2)=BD v) (λi h=>(To h I a (Mb p) i es.size ep/\jo h a es ep t)/\ky h p ps) where
 sub:=λb c=>by simp at c;simp[c]
 frame:=λF F F st l=>⟨⟨st.1.1.keep λo e=>l I ⋯ o e,st.1.2.keep λo e=>l a ⋯ o e⟩,st.2.keep λo e=>l p ⋯ o e⟩
 item:=λi s Q E D st d=>by
  have m:ps.length=es.size:=by rw[q.length_eq,Me]
  have f:i<ps.length:=by rw[m];exact D
  have g:=Db f;have u:=Ib$ qe.mp$ q.mem_iff.mp$ Ch f;exact Ĕ st.1.1 st.1.2 x st.2 g u λk y sb=>(d _ k s.toks (by rw[g,kh,u];rfl) ⟨⟨y,st.1.2.keep λo e=>by rw[sb.2 a n];exact e⟩,st.2.keep λo e=>by rw[sb.2 p r];exact e⟩ λb o c e=>by rw[sb.2 b (λz=>c (by simp[z]))];exact e)
 done:=λs Q E st d=>by
  have m:ps.length=es.size:=by rw[q.length_eq,Me]
  have g:ps[es.size]?=Α:=by rw[<-m];simp
  exact Ĥ C st.1.1 st.1.2 x st.2 g λk B=>d k s.toks λb o c e=>B b o (λz=>c (by simp[z])) e
 self:=λF F F F st d=>jR st.1.1 d
def ø(d:s.TypeIs (Mb a) "set")(h:Q İ s):wpAny (model prog w) A (qj$ Mb a) Q E s:=by
 refine aa$ Lg d PySem.F.slot_set_len.lookup ?_;generalize e:("set.__len__")=f;subst e;exact aa$ bn (b:=G6) d (by rw[Rp];kernel_rfl)$ Df (λc=>absurd c ⋯) (λg=>(Df (λg=>(aa$ Ji d$ ga h))$ λc=>absurd (by decide +kernel) c))
end
end L4
namespace L4
open Spec Calls W PyProof.V
section
variable{prog:Ca}{w:Ua}{A:Na}{E:Value->Shared->Prop}{s:Shared}{a:Addr}{es:Array$ Int × Value}{ep:Nat}{t:Xd}
def fK{St}(W:Walks prog w A.in1 I x [I] n P St)(L:n<=sizeLine)(j:S ∉ x)(H:s.TypeIs (Mb a) "set")(st:St 0 s.heap)
  (r:s.heap.get? S=BD { cls:=Jh "list",data:=Ϧ #[] v })
  (G:∀ h' p acc c,(∀ b o,b≠S->b≠I->s.heap.get? b=BD o->h'.get? b=BD o)->h'.get? S=BD { cls:=Jh "list",dict:=Α,data:=Ϧ acc c,slots:=#[] }->lm P acc n->R (.ok$ .ret d) { s with heap:=h',toks:=p }) :
  wpAny (model prog w) A.in1 (do
    let m <-we [Mb I] (qj$ Mb a)
    if (m || C)=G6 then do
     rule "list.extend.makes-room"
     yJ (Mb S)
     again (.builtin "list.extend.loop" ⟨[Mb S,Mb I,d],[]⟩)
    else again (.builtin "list.extend.loop" ⟨[Mb S,Mb I,d],[]⟩))
   (λMf i=>match Mf with | .done f=>R (.ok f) i | .again u=>u.quiet=G6/\codeAny (model prog w) A u R i) (λe i=>R (.error e) i) s:=by
 have k:∀ h q p,St 0 h->(∀ b o,b≠S->s.heap.get? b=BD o->h.get? b=BD o)->h.get? S=BD { cls:=Jh "list",data:=Ϧ #[] q }->codeAny (model prog w) A (.builtin "list.extend.loop" ⟨[Mb S,Mb I,d],[]⟩) R { s with heap:=h,toks:=p }:=by
  intro h q p t K D;refine codeAny_extend_loopS W.toS L S j d n 0 _ #[] q rfl (qg _) t D (ItemsOf.nil _) λi acc c B g' J=>?_;rw[Moved.eq_with B];refine G i.heap i.toks acc c (λb o g E e=>B.heap b o (λz=>?_)$ K b o g e) g' J;rcases Ea.mp z with z|z
  ·exact g z
  ·exact E$ jb.mp z
 refine aa$ gc$ ø H$ Df (λF=>(aa$ rl$ aa ?_)) (λF=>ga ⟨ce Ol _,k _ v _ st (λb o F e=>e) r⟩);refine aa$ Og r rfl ?_;have y:=pd (xf (·.push Ic)) r rfl;refine Og y rfl ?_;have l:∀ b o,b≠S->s.heap.get? b=BD o->((s.heap.update S (xf (·.push Ic))).update S (xf (·.pop))).get? b=BD o:=λb o g e=>(Cf _ _$ Vd g).trans$ (Cf _ _$ Vd g).trans e;exact ga ⟨ce Ol _,k _ _ _ (W.frame 0 _ _ st λb g o e=>l b o (λz=>j$ z ▸ g) e) (λb o g e=>l b o g e) (pd (xf (·.pop)) y rfl)⟩
theorem FJ{a b:Type}{f:a->Option b}{g:a->b}:∀ {l:List a},(∀ j∈l,f j=BD (g j))->l.filterMap f=l.map g
 |[],_=>rfl
 |x::l,h=>by rw[Ze,h x na,nb,FJ λj c=>h j$ ma _ c]
def gZ{a:List$ Int × Value}(b:a.length=n)(h:lm (λi v=>(a[i]?).map (·.2)=BD v) acc n):acc.toList=a.map (·.2):=by
 apply Bf;intro i;rw[Yd,Ja];cases e:acc[i]? with
 |none=>
  have:n<=i:=by have:=am.mp e;rw[h.1]at this;exact this
  simp_all
 |some v=>exact(h.2 i v e).symm
def W4(es:Array$ Int × Value):(List.range es.size).filterMap (λj=>(es[j]?).map (·.2))=es.toList.map (·.2):=by
 apply Bf;intro i;have e:(List.range es.size).filterMap (λj=>(es[j]?).map (·.2))=(List.range es.size).map (λj=>((es[j]?).map (·.2)).getD Ic):=by
  refine FJ λj b=>?_
  simp_all
 rw[e,Ja,Ja];by_cases a:i<es.size<;>simp[a]
def n7{ps:h8}(a:ps.Perm$ List.range es.size)(h:lm (λi v=>((ps[i]?).bind λj=>es[j]?).map (·.2)=BD v) acc es.size):acc.toList.Perm (es.toList.map (·.2)):=by
 have g:ps.length=es.size:=by rw[a.length_eq,Me]
 have e:acc.toList=ps.filterMap (λj=>(es[j]?).map (·.2)):=by
  have c:ps.filterMap (λj=>(es[j]?).map (·.2))=ps.map (λj=>((es[j]?).map (·.2)).getD Ic):=by
   refine FJ λj f=>?_;have:=qe.mp$ a.mem_iff.mp f
   simp_all
  rw[c];apply Bf;intro i;rw[Yd,Ja];cases b:acc[i]? with
  |none=>
   have:es.size<=i:=by have:=am.mp b;rw[h.1]at this;exact this
   simp_all
  |some v=>
   have this:((ps[i]?).bind λj=>es[j]?).map (·.2)=BD v:=h.2 i v b;cases d:ps[i]? with
   |none=>simp_all
   |some j=>rw[d]at this;simp only[kh]at this;rw[Ih,this];rfl
 rw[e,<-W4];exact a.filterMap _
def Z5(hh:A.handled=Α)(hA:jo s.heap a es ep t)(I:t.fits es.size=G6)(hk:aj (bT w) t)(hz:es.size<scanBound)
  (Mf:∀ d l n (acc:Array Value),(∀ b o,s.heap.get? b=BD o->d.get? b=BD o)->s.heap.objs.size<=d.objs.size->acc.toList.Perm (es.toList.map (·.2))->R acc.toList { s with heap:=d,toks:=l,drawn:=n }) :
  wpAny (model prog w) A (collect$ Mb a) R E s:=by
 have hn:es.size<=sizeLine:=Yf hz;have ϋ:a<s.heap.objs.size:=let ⟨_,g,_⟩:=hA;za g;let S:Addr:=s.heap.objs.size;let ϊ:jn->Shared->Prop:=λq r=>∃ (d:Heap) (l:Nat) (n:Vn) (acc:Array Value) (c:Nat),q=.ok (.ret$ Mb S)/\r={ s with heap:=d,toks:=l,drawn:=n }/\(∀ b o,s.heap.get? b=BD o->d.get? b=BD o)/\
  d.get? S=BD { cls:=Jh "list",dict:=Α,data:=Ϧ acc c,slots:=#[] }/\acc.toList.Perm (es.toList.map (·.2))
 let s1:Shared:={ s with heap:=s.heap.push { cls:=Jh "list",data:=Ϧ ([]:dl).toArray } }
 have U:s1.heap.get? S=BD { cls:=Jh "list",data:=Ϧ #[] }:=Fa _ rfl;have u:jo s1.heap a es ep t:=hA.keep λo e=>ja _ e;have K:s1.heap.objs.size=S+1:=Yc ..;have Vg:wpAny (model prog w) A.in1 (zJ (Mb S) (Mb a)$ Mb S) (λMf r=>match Mf with | .done f=>ϊ (.ok f) r | .again c'=>c'.quiet=G6/\codeAny (model prog w) A c' ϊ r) (λe r=>ϊ (.error e) r) s1:=by
  have V:s1.TypeIs (Mb a) "set":=let ⟨o,g,x,_⟩:=u;⟨o,g,x.1⟩;refine aa$ Ji (T:="set") V ?_;have ns:fk (Mb S) (Mb a)=İ:=by simp only[fk,be];exact Td ϋ
  have n1:(Jh "set" == Jh "list")=İ:=by decide
  simp only[ns];refine aa$ ō u I hz (λό=>?_) (λό ps n J=>?_)
  ·have Q:To (s1.heap.push$ my a (Fc 0) es.size ep) s1.heap.objs.size a (Fc 0) 0 es.size ep:=⟨_,Fa _ rfl,rfl,rfl⟩
   have h:jo (s1.heap.push$ my a (Fc 0) es.size ep) a es ep t:=u.keep λo e=>ja _ e;have B:Km { s1 with heap:=s1.heap.push (my a (Fc 0) es.size ep) } (Mb a) "set":=let ⟨o,g,x,_⟩:=h;⟨o,g,x.1⟩;have M:a≠s1.heap.objs.size:=by rw[K];exact Ba$ Ub ϋ
   have L:S ∉ [s1.heap.objs.size,a]:=by rw[K];simp only[Ea,kc,Qg,not_or];exact⟨Ba$ Sb _,Td ϋ⟩
   have out:∀ (j:List$ Int × Value),j.length=es.size->j.Perm es.toList->∀ d l acc c,(∀ b o,b≠S->b≠s1.heap.objs.size->(s1.heap.push$ my a (Fc 0) es.size ep).get? b=BD o->d.get? b=BD o)->d.get? S=BD { cls:=Jh "list",dict:=Α,data:=Ϧ acc c,slots:=#[] }->
     lm (λi v=>(j[i]?).map (·.2)=BD v) acc es.size->ϊ _ { s1 with heap:=d,toks:=l }:=λj G J d l acc c k g C=>⟨d,l,s.drawn,acc,c,rfl,rfl,λb o e=>by
      have P:=za e;exact k b o (Ba P) (by rw[K];exact Ba$ Ub P)$ ja _$ ja _ e,g,by rw[gZ G C];exact J.map _⟩
   cases X:bT w with
   |true=>
    have G:(on (w.params.setOrder a ep) es).toList.length=es.size:=by rw[(yS _ _).length_eq,Kb]
    exact fK (CQ (f:=λF=>0) (ord:=(on (w.params.setOrder a ep) es).toList) hh I M G λr i D F A' E' Q' q'=>Z9 X D I (by rw[<-Yd];exact q')) hn L B ⟨Q,h⟩ (ja _ U)$ out _ G$ yS _ _
   |false=>
    have J:(!t.plain && decide (es.size > 1))=İ:=by rw[X]at ό;simpa using ό
    have G:es.toList.length=es.size:=Kb;exact fK (CQ (f:=fB t.place) (ord:=es.toList) hh I M G λr i D hi A' E' Q' q'=>Z6 X hk J hi D I (by rw[<-Yd];exact q')) hn L B ⟨Q,h⟩ (ja _ U)$ out _ G$ .refl _
  ·let H:Heap:=(s1.heap.push$ nL ps).push$ my a (Mb s1.heap.objs.size) es.size ep;have k2:∀ b o,s1.heap.get? b=BD o->H.get? b=BD o:=λb o e=>ja _$ ja _ e;have z2:(s1.heap.push$ nL ps).objs.size=s1.heap.objs.size+1:=Yc ..;have Q:To H (s1.heap.objs.size+1) a (Mb s1.heap.objs.size) 0 es.size ep:=⟨_,by rw[<-z2];exact Fa _ rfl,rfl,rfl⟩
   have h:jo H a es ep t:=u.keep λo e=>k2 a o e;have W:ky H s1.heap.objs.size ps:=⟨_,_,ja _$ Fa _ rfl,rfl⟩
   have B:Km { s1 with heap:=H,drawn:=n } (Mb a) "set":=let ⟨o,g,x,_⟩:=h;⟨o,g,x.1⟩;refine fK (s:={ s1 with heap:=H,drawn:=n }) (A7 (p:=s1.heap.objs.size) hh I (by rw[K];exact Ba$ Ub$ Ub ϋ) (Ba$ Sb _) J) hn (by rw[K];simp only[Ea,kc,Qg,not_or];exact⟨Ba$ Ub$ Sb _,Td ϋ,Ba$ Sb _⟩) B ⟨⟨Q,h⟩,W⟩ (k2 _ _ U) λd l acc c k g C=>⟨d,l,n,acc,c,rfl,rfl,λb o e=>?_,g,n7 J C⟩
   have P:=za e;exact k b o (Ba P) (by rw[K];exact Ba$ Ub$ Ub P)$ k2 b o$ ja _ e
 have m:∀ {d:Heap} {l c:Nat} {n:Vn} {acc:Array Value},(∀ b o,s.heap.get? b=BD o->d.get? b=BD o)->d.get? S=BD { cls:=Jh "list",dict:=Α,data:=Ϧ acc c,slots:=#[] }->acc.toList.Perm (es.toList.map (·.2))->R acc.toList { s with heap:=d,toks:=l,drawn:=n }:=λN g C=>Mf _ _ _ _ N (yd$ za g) C;refine aa$ Qp$ Vc aw$ aa$ qc$ ga ⟨ce Fm _,Vc qE$ dc Vg (λf r x=>?_) (λe r x=>by obtain⟨_,_,_,_,_,z,_⟩:=x;cases z)⟩;cases f with
 |done f=>
  apply b_;intro z_;obtain⟨d,l,n,acc,c,e,rfl,N,g,C⟩:=x;cases e;apply z_;exact aa$ ul g$ ga$ m N g C
 |again c1=>
  refine⟨x.1,lf x.2 λq s2 y=>?_⟩;obtain⟨d,l,n,acc,c,rfl,rfl,N,g,C⟩:=y;exact aa$ ul g$ ga$ m N g C
end
end L4
namespace L4
open Spec L2
set_option tactic.hygienic true in
def Î c:(Jk c).Nodup:=by
 have h:∀ (l acc:gV),acc.Nodup->(l.foldl Oz acc).Nodup:=by
  intro l;induction l with
  |nil=>simp_all
  |cons x l d=>
   intro acc h;refine d _ ?_;unfold Oz;split
   ·exact h
   ·rename_i i
    rw[Nc];refine⟨h,by simp,λa f b g=>?_⟩;intro e
    simp_all
 exact h c [] Em
theorem bU{c:Type}[DecidableEq c]:∀ {l1 l2:List c},l1.Nodup->(∀ x∈l1,x∈l2)->l2.length<=l1.length->l1.Perm l2
 |[],l2,_,_,h=>by
  simp_all
 |x::l1,l2,a,b,f=>by
  rw[Jd]at a;exact((bU a.2 (λy d=>(List.mem_erase_of_ne$ show y≠x from λe=>a.1 ⋯).mpr$ b y$ ma _ d)$ by simp_all).cons x).trans (List.perm_cons_erase$ b x na).symm
theorem qR:∀ {a:Ca} {w:Ua} {l:List$ Int × Value},SB (Hf a w) l->∃ d,bh (l.map (·.2)) d/\d.length=l.length/\∀ k,k∈d ↔ ∃ e∈l,(Hf a w).is k e.2=G6
 |a,w,[],_=>⟨[],.nil,rfl,λk=>by simp⟩
 |a,w,e::l,h=>by
  obtain⟨d,i,j,m⟩:=qR (λx b=>h x$ .tail _ b);obtain⟨⟨k,f,_⟩,_⟩:=h e (.head _);have c:=f;obtain⟨t,g⟩:=js f;refine⟨k::d,by rw[nb,g];exact .cons k t i,by simp[j],λn=>?_⟩;rw[Ea,m n];constructor
  ·rintro (rfl|⟨x,b,q⟩)
   ·exact⟨e,.head _,c⟩
   ·exact⟨x,.tail _ b,q⟩
  ·rintro ⟨x,b,q⟩;rcases Ea.mp b with rfl|b
   ·exact ϑ$ (Hf a w).inj _ _ _ q c
   ·exact ϖ ⟨x,b,q⟩
def ġ(p:c.Perm l):∀ {b},bh l b->∃ a,bh c a/\a.Perm b:=by
 induction p with
 |nil=>intro b h;exact⟨b,h,.refl _⟩
 |cons x p f=>
  intro b h;cases h with
  |cons n t h=>obtain⟨a,d,e⟩:=f h;exact⟨n::a,.cons n t d,e.cons n⟩
 |swap x y l=>
  intro b h;cases h with
  |cons n t h=>
   cases h with
   |cons m u h=>exact⟨m::n::_,.cons m u$ .cons n t h,.swap _ _ _⟩
 |trans j k g i=>grind
def GH(P:Ca)(w:Ua)(b:gV)(a:Addr):Heap->Prop:=λh=>qp (Hf P w) (bT w) h a (λk=>(Jk b).any (·== k)) (Jk b).length
def í:∀ b c:Heap,GH P w d a b->(∀ u,b.get? a=BD u->c.get? a=BD u)->GH P w d a c:=λb c x k=>YM x k
def č(X:Cx):lv->Hp->VK->Prop:=λxs H Q=>∃ (p:Addr) (ns:gV),xs=[ϗ p]/\Ie X.K H p (ns.map Ϣ)/\ns.length<64/\∀ l,H l=Α->Q (ϗ l) (Yb H l$ ϫ$ GH X.prog X.w ns l)
def t3(j:X.Wb=G6):Xl X (Jh "set")$ č X:=by
 rintro h s v H xs x Q I r ⟨p,f,rfl,m,l,q⟩;obtain⟨u,rfl,n⟩:=bq r;cases n;obtain⟨a,i,pl,t⟩:=I.list m;have d:a.length=f.length:=by rw[<-i.length,Ia]
 refine V2 (I.ok.hd j) pl.isList (TM i) (by rw[Va,d];exact sX$ Ya (yd l) ⋯) λh' w c k=>?_;rw[show a.toArray.size=f.length by rw[Va,d],iN]at c;refine⟨ϗ s.heap.objs.size,_,I.laid (λb o e=>k b o (za e) e) (ya _) ?_,rfl,q _$ I.Lc.fresh$ ya _⟩;exact⟨c,let ⟨o,_,_,_,g,_⟩:=c;⟨o,g⟩,í⟩
def R1(I:db X a b H s) d':db X a b H { s with drawn:=d' }:=⟨I.ok,I.os,I.bare,I.base,I.loc,I.cell,I.free,I.Qf,I.pin,I.Lc,I.len⟩
def ysu(X:Cx):lv->Hp->VK->Prop:=λxs H Q=>∃ (a:Addr) (ns:gV),xs=[ϗ a]/\H a=BD (ϫ$ GH X.prog X.w ns a)/\ns.length<64/\(Jk ns).length<=ns.length/\∀ l,H l=Α->Q (ϗ l) (Yb H l$ ϱ$ (Iq$ Jk ns).map Ϣ)
def Φ(T:X.Wb=G6):Xl X (ϣ "sorted")$ ysu X:=by
 intro z s σ H xs us Q I r h;obtain⟨a,f,rfl,R,P,U,q⟩:=h;obtain⟨u,rfl,rfl⟩:=bq r;obtain⟨⟨o,j,ep,t,F,G,J,K,L,p,M,N,ϋ⟩,_,_⟩:=I.Lc a _ R;obtain⟨is,i1,i2,i3⟩:=qR K;have ϊ:is.Perm$ Jk f:=(bU (Î f) (λx hx=>(i3 x).mpr$ (L x).mp$ Uc.mpr ⟨x,hx,by simp⟩)$ by rw[i2,Kb,N];exact ya _).symm;have g:j.size<64:=by lia
 have ό:j.size<=sizeLine:=Yf p;refine Gm kind_sorted plain_sorted entry_sorted (args_sorted1 _)$ aa (m:=checkCount "sorted" 1 1 _)$ ga$ aa (Z5 (A:=X.A.in1) (I.ok.hd T) ⟨o,F,G,J⟩ M ϋ p λh' tk d' acc y i c=>?_);obtain⟨a0,S,k⟩:=ġ c i1;have v:acc.toList.length=j.size:=by rw[c.length_eq,Ia,Kb]
 refine aa$ wr ?_ (by rw[v];exact ό);have d:(h'.push$ yl "list" acc.toList.toArray 0).get? h'.objs.size=BD (yl "list" acc.toList.toArray 0):=Fa _ rfl;refine aa$ gc$ Mc LO ⟨_,d,rfl⟩ oJ (MO d S (by rw[v];exact g) λout l B C D=>⟨_,rfl,(ga ⟨_,rfl,?_⟩)⟩)$ NO _;have E:l=Iq (Jk f):=rB (C.trans$ k.trans$ ϊ.trans (Tw _).symm) D$ tD _;subst E;obtain⟨e,W⟩:=GY (out:=out) d;exact⟨ϗ h'.objs.size,_,(R1 I d').laid (t':=tk) (λb o n=>by
  have lt:b<h'.objs.size:=za$ y b o n;rw[OO (Ba lt) (by rw[Jz];exact Ub lt)];exact ja _$ y b o n) i (show Cj X.prog X.w _ _ _ (ϱ$ (Iq$ Jk f).map Ϣ)from⟨by rw[Ia,((Tw$ Jk f).length_eq)];exact Ya (show (Jk f).length<=1000 by lia) ⋯,out.toList,e,ZD B,by rw[si];exact W⟩),rfl,q _$ I.Lc.fresh i⟩
def kA(x:D):M D:=λa=>match (uf a x).bind cr with
 |some ns=>if ns.length<64 then uB ((Iq$ Jk ns).map Z) a else Ϙ
 |none=>Ϙ
def Ě a:(Jk a).length<=a.length:=by rw[<-iN];exact Kz _ _
theorem AU{b:b'}{H:Hp}:∀ (a:gV),ub T b H (a.map Z) (a.map Ϣ)
 |[]=>ub.nil
 |i::a=>ub.cons (by rw[Oa]) (AU a)
def Ÿ(hK:T.K=X.K)(y:X.Wb=G6)(ϋ:Gl X "sorted")(P:X.mg "sorted" = Α)(q:Gl X "set")(r:X.mg "set" = Α)(N:FE T X e f)
  (A:va [e] X.env=(İ,Lb e X.env)::va [] X.env:=by rfl) (u:(pc b$ va [] X.env).any (·.1)=İ:=by rfl)
  (i:va [ϟ (ϛ "set" w) [e] [] b] X.env=(İ,Lb (ϟ (ϛ "set" w) [e] [] b) X.env)::va [] X.env:=by rfl) (g:(pc k$ va [] X.env).any (·.1)=İ:=by rfl) :
  FE T X (ϟ (ϛ "sorted" p) [ϟ (ϛ "set" w) [e] [] b] [] k)$ Re kA f:=by
 intro j s V H Q I h;refine VG (Φ y) ϋ P L4.dY (Oq (jK (t3 y) q r rfl (Oq N ku A) ⋯ ⋯ A u) ku i) ⋯ ⋯ i g j s V H Q I ?_;obtain⟨W,ϊ,σ,L,S,R⟩:=h;refine⟨W,ϊ,σ,L,S,R.bind λd x ό v H1 D e1 B U c=>?_⟩;unfold kA at c;cases n:(uf x d).bind cr with
 |none=>rw[n]at c;exact c.elim
 |some ns=>
  rw[n]at c;dsimp only at c;by_cases m:ns.length<64
  ·rw[ka m]at c;obtain⟨ys,C,E⟩:=pf.mp n;obtain⟨a,vs,rfl,G,J⟩:=B.ls U C;have F:=fD J E;subst F;exact⟨a,ns,rfl,Ie.of G,m,λl z=>⟨l,ns,rfl,Lf,m,Ě ns,λl2 t=>(ZB (Xb.mono (Ij (o:=ϫ _) z) c) (B.fresh z) (AU _) t)⟩⟩
  ·rw[ua m]at c;exact c.elim
noncomputable def yia(x:D)(xs:B'):M D:=λa=>match x,xs with
 | O n,[]=>(match a[n]? with
  |some (ώ _)=>Y Ϛ (a.set n$ ώ [])
  |_=>Ϙ)
 |_,_=>Ϙ
def kI(c:B'):M D:=λb=>match c with
 |[x]=>(match ph b x with
  |some a=>Y (O b.length) (b++[ώ a])
  |none=>Ϙ)
 |_=>Ϙ
def w8:No T SN kI:=by
 intro E o H k e n Q r p h
 match e with
 |[]=>cases h
 |[x]=>
  unfold kI at h;dsimp only at h;cases b:ph k x with
  |none=>rw[b]at h;exact h.elim
  |some i=>
   rw[b]at h;obtain⟨v,m,rfl,j,rfl⟩:=p;obtain⟨a,d,rfl,f,g⟩:=By r j b;exact⟨a,d,rfl,f,λl c=>(h _ _ _ (Bu c) (r.push c ⟨d,Lf,Paired.wo g λl l z=>⟨z.1,Oa.mono (Bu c) _ _ z.2⟩⟩)$ ZA r)⟩
 |_::_::_=>trivial
section
variable{pins:List$ Addr × Obj}{σ:St}{H:Hp}{s:Shared}
def _root_.L2.db.freeze(I:db X pins σ H s)(g:H a=BD (ϝ d))(e:s.heap.get? a=BD i):db X pins σ (Yb H a$ Ϩ i$ ϝ d) s:=by
 have f:∀ b u,H b=BD u->u≠ ϝ d->b≠a:=λb u q n z=>by rw[z,g]at q;exact n (cc q).symm
 refine I.step (ch:=[]) (λk z=>nomatch z) (λb o k k k q k=>q) (λb o k k k q k=>⟨o.slots,q⟩) (λb o k q n=>?_) (λb o k q=>⟨o,q⟩)
  (λb xs q=>by rw[Dd$ f b _ q (λz=>by cases z)];exact q) (λb u xs q=>by rw[Dd$ f b _ q (λz=>by cases z)];exact q) (λb ps q=>⟨#[],by rw[Dd$ f b _ q (λz=>by cases z),q];simp⟩) (λm j=>j) (λb u q=>?_) I.bare
 ·rw[Dd (λz=>by rw[z,g]at n;cases n)];exact n
 ·by_cases h:b=a
  ·subst h;rw[Lf]at q;cases q;exact⟨e,I.Lc b _ g⟩
  ·rw[Dd h]at q;exact(I.Lc b u q).mj (λc v k z=>z) (λc z=>by rw[Dd$ f c _ z (λy=>by cases y)];exact z) λc xs z=>by rw[Dd$ f c _ z (λy=>by cases y)];exact z
def Vh(I:db X pins σ H s)(k:H a=BD (Ϩ g$ ϝ b)):∃ f d c,KV b f/\g.data=.dict d c/\s.heap.DictAt (pk X.prog X.w) a f c:=by
 obtain⟨e,_,_,f,h,o,d,c,j,ex,i,r⟩:=I.Lc a _ k;rw[e]at j;cases j;exact⟨f,d,c,h,i,g,d,e,ex,i,r⟩
end
noncomputable def Itm(d:Addr)(b:Obj)(a:List$ Bd × V):It:=
 ⟨λi H=>H d=BD (Ϩ b$ ϝ a)/\∃ x,a[i]?=BD x,λi H v c=>∃ p k x,H p=Α/\v=ϗ p/\a[i]?=BD (k,x)/\c=Yb H p (.Sa [kV k,x]),λi H=>H d=BD (Ϩ b$ ϝ a)/\i=a.length⟩
theorem NM{d:Type}:∀ {c:List$ d × V} {g:List$ d × Value} (r:KV c g) (i:Nat) {k:d} {x:V},c[i]?=BD (k,x)->∃ u,g[i]?=BD (k,u)/\qd x u
 |_,_,Ϡ,i,_,_,h=>by simp at h
 |_,_,Ϟ (b:=q) a b,0,k,x,h=>by
  simp at h;obtain⟨e,f⟩:=a;rw[h]at e f;exact⟨q.2,by simp[List.getElem?_cons_zero];exact qY e.symm rfl,f⟩
 |_,_,Ϟ a b,i+1,k,x,h=>by
  exact NM b i h
def vW(h:(pk P w).is k v=G6):qd (kV k) v:=by
 rcases Bp h with⟨i,t,rfl,rfl⟩|⟨x,t,rfl,rfl⟩<;>exact⟨t,rfl⟩
def Δ{P:Ca}{w:Ua}{K:ϕ}{j:List Qa}{kk:Nat}{ϋ:Zd}(d f:Addr)(U:Obj)(t:List$ Bd × V)(a0:d≠f){ϊ:Array zE}{R:Nat}(n:U.data=.dict ϊ R) :
  Vm P w K (ϲ j kk ϋ) (Itm d U t) [f] f (λi h=>∃ ok e,IsItemIter h f d i t.length R ok e) where
 mem:=by simp
 obj:=λi h st b c=>by
  obtain⟨ok,e,s1⟩:=st
  simp_all
 keep:=λi h h' st k=>by
  obtain⟨ok,e,s1⟩:=st;exact⟨ok,e,k f ⋯ _ s1⟩
 item:=by
  intro X F N D S i v s σ H E I y st J;subst F N D;obtain⟨G,⟨k,x⟩,T⟩:=J;obtain⟨vs,C,B,a,g,M⟩:=Vh I G;rw[n]at g;cases g;obtain⟨u,hu,ru⟩:=NM a i T;obtain⟨ok,e,s1⟩:=st;rw[a.length]at s1;refine wpAny_pyNext_items_item s1 M hu λr h' m ho hT a1 hk=>?_;have l:=Td$ za s1;refine⟨Mb s.heap.objs.size,rfl,wpAny_letOwnedTupleGo_items ho λh2 L p=>⟨ϗ s.heap.objs.size,Yb H s.heap.objs.size _,I.Ys (λb o c q=>p.extBut b o (λz=>c (by simp[z]))$ hk b o (λz=>c (by simp[z])) q) y (ya _) ?_,rfl,⟨_,k,x,(I.Lc.fresh$ ya _),rfl,T,rfl⟩,⟨r,u,by rw[a.length];exact L⟩,λb c=>?_⟩⟩
  ·exact⟨(show 2<=sizeLine by decide),[r,u],Ϟ (vW m)$ Ϟ ru Ϡ,⟨_,(p.extBut _ _ l hT),rfl,_,rfl⟩⟩
  ·obtain rfl:b=f:=by simpa using c
   rw[Dd (λz=>l z.symm)];exact(y b c).1
 done:=by
  intro X F N D S i v s σ H E I y st J;subst F N D;obtain⟨G,hi⟩:=J;obtain⟨vs,C,B,a,g,M⟩:=Vh I G;rw[n]at g;cases g;obtain⟨ok,e,s1⟩:=st;rw[a.length]at s1 hi;exact wpAny_pyNext_items_end (I.ok.hd S) s1 M ⋯ λh' ό=>⟨rfl,I.Ls (λb o c q=>ό b o (λz=>c (by simp[z])) q) y⟩
 self:=λA i s Q E st h=>by
  obtain⟨ok,e,s1⟩:=st;exact W.kcp_self s1 h
def Jp(l a:Addr):Heap->Prop:=λh=>h.IsItemsView l a
def A4:V->lv->Hp->VK->Prop:=λx xs H Q=>∃ a b,x=ϗ a/\xs=[]/\Rd H a (ϝ b)/\∀ l,H l=Α->Q (ϗ l) (Yb H l$ ϫ$ Jp l a)
def CA(h:H a=BD o):Yb H a o=H:=by
 funext b;unfold Yb;split;all_goals simp_all
def wI(h:Heap) o(a:o.data≠.freed):(h.push o).get? h.objs.size=BD o:=by
 obtain⟨c,d,x,b⟩:=o;simp[Heap.get?,Heap.push]
 simp_all
section
variable{elts:List Qa}{kk:Nat}{p0:Zd}
def UX:Jw X "dict.items" A4:=by
 rintro f s st H x w v u Q I m l ⟨a,i,rfl,rfl,g,q⟩;cases m;cases l;obtain⟨z,h,n,j,d⟩:=gu I.Lc g;refine Zl Yg d.typeIs PySem.F.entry_dict_items (PySem.F.args_dict_items_1 _) (meets_dict_items _ a h) ⟨⟨n,d⟩,⟨ϗ s.heap.objs.size,_,I.laid (λb o e=>ja _ e) (ya _) ?_,rfl,q _$ I.Lc.fresh$ ya _⟩⟩;refine⟨⟨_,wI _ _ (λz=>by cases z),rfl,rfl⟩,⟨_,wI _ _ (λz=>by cases z)⟩,λr t p k=>?_⟩;obtain⟨o,e,c⟩:=p;exact⟨o,k o e,c⟩
def ygw(e:TE):TI:=λf H R=>e f H λv c=>∃ l a b,v=ϗ l/\c l=BD (ϫ$ Jp l a)/\Rd c a (ϝ b)/\∀ d,c a=BD (ϝ b)\/c a=BD (Ϩ d$ ϝ b)->R (Itm a d b) (Yb c a$ Ϩ d$ ϝ b)
def jV(B:PE X d r):PI X (ϲ elts kk p0) d$ ygw r:=by
 intro g s t H R I h;refine Fd (B g s t H _ I h) λv s1 ſ=>?_;obtain⟨x,H1,k,E,D⟩:=ſ;obtain⟨l,a,i,rfl,C,c,q⟩:=D;cases E;obtain⟨f,n,m⟩:∃ f,(H1 a=BD _\/H1 a=BD (Ϩ f _))/\db X g t (Yb H1 a$ Ϩ f _) s1:=by
  rcases c with c|⟨f,c⟩
  ·obtain⟨_,_,F,j,o,y,w,e,_⟩:=k.Lc a _ c;exact⟨o,ϑ c,k.freeze c e⟩
  ·exact⟨f,ϖ c,by rw[CA c];exact k⟩
 obtain⟨F,y,w,j,u,p⟩:=Vh m Lf;refine wpAny_pyIter_items ((k.Lc l _ C).1) p ⟨s1.heap.objs.size,[s1.heap.objs.size],_,Itm a f i,_,rfl,m.kept (λb o e=>ja _ e),Δ a _ f i (Ba p.lt_size) u,⟨Ic,Ic,by rw[j.length];exact wI _ _ (λz=>by cases z)⟩,λb A=>?_,q f n⟩;obtain rfl:b=s1.heap.objs.size:=by simpa using A
 exact m.Nm (ya _)$ m.Lc.fresh$ ya _
noncomputable def oo(a:List$ Bd × D):NX:=λi b=>match a[i]? with
 |some p=>BD (BD$ Ϗ [MC p.1,p.2])
 |none=>if i=a.length then BD Α else Α
def iF(d:D):M NX:=λa=>match d with
 | ϩ ks xs=>if ks.length=xs.length then Y (oo$ ks.zip xs) a else Ϙ
 |_=>Ϙ
def wB(f:Ev->M D):Ev->M NX:=λa=>Rc (f a) iF
def BM k:Oa T a H (MC k)$ kV k:=by
 cases k<;>(unfold MC kV;rw[Oa])
def nQ(d:H a=BD (ϝ c)):Ld μ H μ$ Yb H a$ Ϩ od$ ϝ c:=by
 have f:∀ b u,H b=BD u->u≠ ϝ c->b≠a:=λb u q n z=>by rw[z,d]at q;exact n (cc q).symm
 refine⟨⟨[],by simp⟩,λp xs h=>by rw[Dd$ f p _ h (λz=>by cases z)];exact h,λp o u h=>by rw[Dd$ f p _ h (λz=>by cases z)];exact h,λp o h n=>⟨?_,n⟩⟩;by_cases e:p=a
 ·subst e;rw[d]at h;cases h;exact⟨_,Lf,ϖ$ ϑ ⟨od,c,rfl,rfl⟩⟩
 ·exact⟨o,by rw[Dd e];exact h,ϑ rfl⟩
theorem dJ{c e:Type}{R:c->e->Prop}:∀ {xs:List c} {d:List e},Paired R xs d->∀ (i:Nat) {x:c},xs[i]?=BD x->∃ y,d[i]?=BD y/\R x y:=by
 intro _ _ h;induction h with
 |nil=>intro i _ h;simp at h
 |cons a _ k=>
  intro i x h;cases i with
  |zero=>clear k;simp_all
  |succ i=>exact k i h
def zM(h:FE T X e f)(m:Ed e "items" X.env (Lb e X.env)=Lb e X.env:=by rfl)(o:(j.endLine == k.line)=G6:=by rfl) :
  dq T X (ϲ elts kk p0) (ϟ (Ϝ e "items" j) [] [] k)$ wB f:=by
 intro G s st H R I hw;refine jV (JT gf Yg Im UX h m o) G s st H R I ?_;obtain⟨μ,ρ,σ,hE,hr,hp⟩:=hw;refine⟨μ,ρ,σ,hE,hr,hp.bind λd J c v A b e1 r1 q1 w=>?_⟩;unfold iF at w;cases d with
 |Pa ks xs=>
  dsimp only at w;by_cases ό:ks.length=xs.length
  ·rw[ka ό]at w;obtain⟨a,g,rfl,hn,n,ϋ,Q⟩:=q1;refine⟨⟨a,g,rfl,n⟩,a,g,rfl,rfl,n,λl t=>?_⟩;have S:a≠l:=by rcases n with n|⟨_,n⟩<;>exact Xm n t
   have N:Rd (Yb A l$ ϫ$ Jp l a) a$ ϝ g:=by unfold Rd;rw[Dd S];exact n
   refine⟨l,a,g,rfl,Lf,N,λU B=>?_⟩;have x1:Ld c A c$ Yb A l$ ϫ$ Jp l a:=Ij t;have x:vd T c (Yb A l$ ϫ$ Jp l a) J:=r1.fresh t;obtain⟨x2,V⟩:Ld c A c _/\vd T c _ J:=by
    rcases B with B|B
    ·have y:=nQ (μ:=c) (od:=U) B;exact⟨x1.trans y,x.keep y (λb K=>Dd (λz=>hn (by rw[<-z];exact K)))$ x.tb.out (λb K=>Dd K)$ ϖ ⟨_,B⟩⟩
    ·rw[CA B];exact⟨x1,x⟩
   have h3:Yb (Yb A l$ ϫ$ Jp l a) a _ a=BD (Ϩ U$ ϝ g):=Lf;refine Xb.here (Xb.mono x2 w) V λa0 H2 a1 i ex r2=>?_;have W:=ex.zd _ _ _ h3;have E:=Di.mono (x2.trans ex)$ JI ϋ Q;unfold oo;cases ei:(ks.zip xs)[i]? with
   |none=>
    by_cases L:i=(ks.zip xs).length
    ·rw[ka L];exact⟨W,by rw[L];exact Paired.length E⟩
    ·rw[ua L];trivial
   |some p=>
    obtain⟨q,ϊ,P,rx⟩:=dJ E i ei;refine⟨⟨W,q,ϊ⟩,λz H' y=>?_⟩;obtain⟨r,k',x',u,rfl,C,rfl⟩:=y;rw[ϊ]at C;cases C;refine⟨Ij u,r2.fresh u,?_⟩;rw[Oa,P];exact⟨r,_,rfl,Lf,ub.cons (BM _)$ ub.cons (Oa.mono (Ij u) _ _ rx) ub.nil⟩
  ·rw[ua ό]at w;exact w.elim
 |_=>exact w.elim
end
def di(nx:NX)(n:Nat)(e:D->Ev->Option Ev)(fi:Ev->M Bool)(b:Ev->M D):Nat->Nat->Ev->M Unit
 |0,_,_=>Fb
 |k+1,i,g=>λf=>match nx i f with
  |none=>Ϙ
  |some Α=>Y () f
  |some (BD d)=>match e d g with
   |none=>Ϙ
   |some a=>Rc (Sr$ fi a) (λc=>if c=G6 then Rc (Sr$ b a) λy=>Rc (zi (O n) [y]) λh=>di nx n e fi b k (i+1) a else di nx n e fi b k (i+1) a) f
def Λ(d:D->Ev->Option Ev)(c:Ev->M Bool)(b:Ev->M D)(e:Ev)(nx:NX):M D:=λa=>
 Rc (di nx a.length d c b 1001 0 e) (λf=>ret$ O a.length)$ a++[ϐ []]
def xj(a:Ev->M NX)(e:h8)(f:D->Ev->Option Ev)(d:Ev->M Bool)(c:Ev->M D):Ev->M D:=λb=>Rc (a b)$ Λ f d c$ uC e b
def YT {st}
  (hc:X.Wb=G6) (L:Gj X x M' ix a)
  (d6:∀ cl C ϋ G ex,FG T (yn X (x::z0::M') a cl C ϋ G ex) a9 S)
  (d3:∀ cl C ϋ G ex,Vv T (yn X (x::z0::M') a cl C ϋ G ex) b2 fi)
  (c6:∀ cl C ϋ G ex,FE T (yn X (x::z0::M') a cl C ϋ G ex) b1 H)
  (I3:db X b6 st H3 s3) (c7:∀ b∈fp,Ak X b6 H3 b/\b<s3.heap.objs.size) (d5:I.Ns s3.heap.objs.size m) (kp:∀ b o,s3.heap.get? b=BD o->I.get? b=BD o)
  (TT:Vm X.prog X.w X.K a9 J fp it tn) (b5:tn 0 I) (so:yz T P H3 nx J) (hE:Wg T P H3 ρ st) (r3:vd T P H3 c3) (hn:P[n]?=BD D0)
  (p3:Xb T E (Oa T) P H3 (Rc (di nx n S fi H 1001 0$ uC ix ρ) (λr=>ret$ O n) c3) Q)
  (Mf:∀ s6 q m6,s6.heap.Ns s3.heap.objs.size m6->q s3.heap.objs.size=Α->Un (sj X.stack) fp H3 q s3.heap s6.heap->s6.os=s3.os->zh X.prog X.w q s6.heap->Zg s6.gens->Q (ϗ D0) q->RR (.ok .next) s6) :
  codeAny (model X.prog X.w) X.A (.compStart (Ϸ b1 [⟨a9,a4,b2,0⟩] a b9) 0 (Mb it) (Mb D0)$ compEnvC a (Ci X.env a.names []) s3.heap.objs.size X.env)
   RR { s3 with heap:=I,toks:=t' }:=by
 have I4:=ó (z0:=z0) (t':=t') I3 L c7 d5 kp;let ό:Cx:=yn X (x::z0::M') a (Ci X.env a.names []) s3.heap.objs.size s3 H3 fp;have a8:∀ {q:Hp},(∀ b∈fp,q b=Α)->∀ b∈fp,Ak ό [] q b:=fun {q} hn b hb=>⟨hn b hb,(I4.ok.HC b hb).1,I4.ok.Hq b hb,ϑ hb,(I4.ok.HC b hb).2,λp hp=>absurd (show p∈([]:i')from hp) ⋯⟩
 have Lj:codeAny (model X.prog X.w) X.A (.compLoop (Ϸ b1 [⟨a9,a4,b2,0⟩] a b9) 0 (Mb it) (Mb D0) ό.env) RR { s3 with heap:=I,toks:=t' }:=by
  refine codeAny_loop rfl (λk s'=>∃ i g q h t F,db ό [] F q s'/\tn i s'.heap/\(∀ b∈fp,q b=Α)/\Ld P H3 g q/\Wg T g q t F/\vd T g q h/\
   Xb T E (Oa T) g q (Rc (di nx n S fi H k i t) (λr=>ret$ O n) h) Q) ?_ 1001 ⟨0,P,H3,c3,uC ix ρ,Nx ix st,I4,b5,λb hb=>(c7 b hb).1.1,ϰ _ _,Ν ix hE,r3,p3⟩
  rintro k s' ⟨i,g,q,h,t,F,I',c9,c4,ϊ,b8,r',p'⟩;show wpAny _ X.A ((compTurn (Ϸ b1 [⟨a9,a4,b2,0⟩] a b9) 0 _ (Mb D0) ό.env).onRaise$ λx=>do nh x ό.env;theTreesLotGoes x) _ _ s';refine wpAny_noted$ dc (E:=λr r=>False) ?_ (λr r z=>z) (λr r z=>z.elim);refine aa$ qr ?_;cases k with
  |zero=>exact p'.elim
  |succ k=>
   have b4:=so g q h i ϊ r';cases en:nx i h with
   |none=>
    have e1:di nx n S fi H (k+1) i t h=Ϙ:=by unfold di;simp only[en]
    rw[WE (m':=Fb) e1]at p';exact p'.elim
   |some od=>
    rw[en]at b4;cases od with
    |none=>
     have e1:di nx n S fi H (k+1) i t h=Y () h:=by unfold di;simp only[en]
     rw[WE (m':=ret ()) e1]at p';refine aa (Fd (TT.done ό rfl rfl rfl hc i [] s' F q (λr r=>False) I' (a8 c4) c9 b4) λr s6 zZ=>?_);obtain⟨er,I6⟩:=zZ;subst er;refine ga ?_;apply b_;intro z_;obtain⟨m6,d4,_⟩:=I6.loc;apply z_;exact Mf s6 q m6 d4 I6.free I6.base I6.os I6.Lc I6.bare$ Xb.here p' r' (by rw[Oa];exact⟨_,rfl,ϊ.get hn⟩)
    |some d=>
     refine aa (Fd (TT.item ό rfl rfl rfl hc i [] s' F q (λr r=>False) I' (a8 c4) c9 b4.1) λr s6 ſ=>?_);obtain⟨u,er,h6⟩:=ſ;subst er;refine aa (Fd h6 λr s7 ſ=>?_);obtain⟨xv,H7,I7,r7,y7,c2,d2⟩:=ſ;obtain⟨b7,d7,hd⟩:=b4.2 xv H7 y7;replace p':=Xb.mono b7 p';replace b8:=b8.mono b7;replace ϊ:=ϊ.trans b7;replace r':=d7;cases et:S d t with
     |none=>
      have e1:di nx n S fi H (k+1) i t h=Ϙ:=by unfold di;simp only[en,et]
      rw[WE (m':=Fb) e1]at p';exact p'.elim
     |some l=>
      have e1:di nx n S fi H (k+1) i t h=Rc (Sr$ fi l) (λc=>if c=G6 then Rc (Sr$ H l) λy=>Rc (zi (O n) [y]) λr=>di nx n S fi H k (i+1) l else di nx n S fi H k (i+1) l) h:=by
       conv=>lhs;unfold di
       simp only[en,et]
      rw[WE e1,SL]at p';refine aa (Fd (d6 _ _ _ _ _ _ s7 F H7 xv u (λN H8=>H8=H7/\Wg T g H7 l N) (I7.pinned (a8 d2)$ TT.obj _ _ c2) r7 ⟨g,h,t,d,l,b8,r',hd,et,λN a3=>⟨rfl,a3⟩⟩) λr s8 ſ=>?_);obtain⟨N,H8,I8,d1,a3⟩:=ſ;subst d1;refine aa (Fd (d3 _ _ _ _ _ _ s8 N H8 (λc H9=>∃ V a0,Ld g H8 V H9/\vd T V H9 a0/\Xb T E (Oa T) V H9 (Rc (if c=G6 then Rc (Sr$ H l) λy=>Rc (zi (O n) [y]) λr=>di nx n S fi H k (i+1) l else di nx n S fi H k (i+1) l) (λr=>ret$ O n) a0) Q) I8
       ⟨g,l,h,a3,r',p'.Ps λc a0 V c' H9 r e9 r9 q9 p9=>by cases q9;exact⟨V,a0,e9,r9,p9⟩⟩) λc s9 ⟨H9,I9,V,a0,e9,r9,p9⟩=>?_)
      have a2:∀ {a7:Shared} {s:Hp} {f:b'} {j:Ha},db ό ([]++cG fp s7.heap) N s a7->Ld g H8 f s->vd T f s j->Xb T E (Oa T) f s (Rc (di nx n S fi H k (i+1) l) (λr=>ret$ O n) j) Q->
        ∃ m,m<k+1/\∃ i g q h t F,db ό [] F q a7/\tn i a7.heap/\(∀ b∈fp,q b=Α)/\Ld P H3 g q/\Wg T g q t F/\vd T g q h/\Xb T E (Oa T) g q (Rc (di nx n S fi H m i t) (λr=>ret$ O n) h) Q:=by
       intro a7 s f j a1 W a6 a5;refine⟨k,Sb _,i+1,f,s,j,l,N,a1.kj,TT.keep _ _ _ c2 (λb hb o e=>(a1.pin (b,o)$ Wa _$ Wa _$ IH hb e).1),λb hb=>?_,ϊ.trans W,a3.mono W,a6,a5⟩;obtain⟨o,e,_⟩:=TT.obj _ _ c2 b hb;exact(a1.pin (b,o)$ Wa _$ Wa _$ IH hb e).2.1
      cases c with
      |false=>
       exact ga ⟨rfl,a2 I9 e9 r9 p9⟩
      |true=>
       rw[ka rfl,SL]at p9;refine aa$ aa (Fd (c6 _ _ _ _ _ _ s9 N H9 (λv U=>∃ y B R,Ld g H8 B U/\vd T B U R/\Oa T B U y v/\Xb T E (Oa T) B U (Rc (zi (O n) [y]) (λr=>Rc (di nx n S fi H k (i+1) l) (λr=>ret$ O n)) R) Q) I9
        ⟨V,l,a0,a3.mono e9,r9,p9.Ps λy R B v U r b0 c1 c0 b3=>⟨y,B,R,e9.trans b0,c1,c0,by rw[SL]at b3;exact b3⟩⟩) λw d8 ⟨v,U,d0,c8,y,B,R,b0,c1,c0,b3⟩=>?_)
       have c5:=ztk (Q:=λr s=>∃ f j,Ld g H8 f s/\vd T f s j/\Xb T E (Oa T) f s (Rc (di nx n S fi H k (i+1) l) (λr=>ret$ O n) j) Q) c1 ((ϊ.trans b0).get hn) c0
        (b3.bind λr j f d9 s r W a6 e0 a5=>⟨f,j,b0.trans W,a6,a5⟩)
       refine aa (Fd (jO (X:=ό) _ d8 N U (ϗ D0) [v] (Mb D0) [w] _ d0 rfl (Ϟ c8 Ϡ) c5) λr a7 ſ=>?_);obtain⟨d9,s,a1,_,f,j,W,a6,a5⟩:=ſ;exact ga$ ga ⟨rfl,a2 a1 W a6 a5⟩
 exact codeAny_compStart_list Lj$ TT.self X.A 0 _ _ _ b5 Lj
def KJ
  (hc:X.Wb=G6) (L:Gj X x M' ix a) (G:dq T X u h ϋ)
  (a1:∀ cl C d c ex,FG T (yn X (x::z0::M') a cl C d c ex) u tg)
  (W:∀ cl C d c ex,Vv T (yn X (x::z0::M') a cl C d c ex) N fi)
  (B:∀ cl C d c ex,FE T (yn X (x::z0::M') a cl C d c ex) z fe)
  (hs:∀ y,pe h X.env y=pure y:=by intro _;rfl) :
  FE T X (Ϸ z [⟨u,h,N,0⟩] a a3)$ xj ϋ ix tg fi fe:=by
 rintro p s st H Q I ⟨R,ρ,σ,hE,hr,hp⟩;refine yr rfl hs (kO X.env a$ Wx I L) L.kind (λy hy e=>?_) ?_
 ·have q:=gb.mp L.names y hy;rw[e]at q;exact eq_of_beq q
 have h1:=G p s st H (λJ j=>∃ nx f w,Ld R H f j/\vd T f j w/\yz T f j nx J/\Xb T _ _ f j _ Q) I
  ⟨R,ρ,σ,hE,hr,hp.bind λnx a5 a4 J H1 v e1 r1 q1 p1=>⟨nx,a4,a5,e1,r1,q1,p1⟩⟩
 refine Fd h1 λv s1 h2=>Fd h2 λa6 s2 h3=>?_;obtain⟨it,fp,tn,J,j,rfl,I2,TT,P,f2,nx,f,w,S,r2,so,p2⟩:=h3;refine qc$ Rj (EC L) (by intro y hy;simp at hy) (λK l m=>?_) L.kind;have I3:=I2.Uy (t':=s2.toks) Ϡ ⋯;have A:j s2.heap.objs.size=Α:=I2.Lc.fresh$ ya _;have t:Ld f j _$ Yb j s2.heap.objs.size$ ϱ []:=Bu A;have a0:s2.heap.objs.size<(s2.heap.push { cls:=Jh "list",data:=Ϧ [].toArray }).objs.size:=by rw[Yc];exact Sb _
 have kp:∀ b o,(s2.heap.push { cls:=Jh "list",data:=Ϧ [].toArray }).get? b=BD o->K.get? b=BD o:=λb o e=>m.extBut b o (Ba$ za e)$ ja _ e;have g:∀ b∈fp,Ak X p (Yb j s2.heap.objs.size$ ϱ []) b/\b<(s2.heap.push { cls:=Jh "list",data:=Ϧ [].toArray }).objs.size:=λb k=>by
  obtain⟨o,e,_⟩:=TT.obj 0 _ P b k;have lt:=za e;exact⟨⟨by rw[Dd$ Ba lt];exact(f2 b k).1,(f2 b k).2⟩,Pp lt a0⟩
 refine YT (n:=w.length) hc L a1 W B I3 g l kp TT (TT.keep 0 _ _ P λb k o e=>kp b o$ ja _ e)
  (λR H σ i ex r=>so R H σ i (t.trans ex) r) ((hE.mono S).mono t) (r2.push (ob:=ϐ []) A ⟨[],Lf,ub.nil⟩) (by rw[<-r2.len];simp) (p2.mono t) (λs6 H' m6 ό U a2 ϊ E V hq=>⟨m6,ό,λh7 F=>?_⟩)
 exact⟨ϗ s2.heap.objs.size,H',(L2.db.ot (s':={ s6 with heap:=h7 }) (ch:=fp) I3 ϊ (ς a2 F$ ya _) (i4 E F U) V$ λb k=>⟨(g b k).1.2.2.2.1,(g b k).1.2.1,(g b k).1.2.2.2.2.1,(g b k).1.2.2.2.2.2⟩),rfl,hq⟩
def YD(K:ϕ)(b:Str->Option Value)(x:Str)(c:ac):Prop:=∃ a,b x=BD (Mb a)/\mB K a c
noncomputable def Gy:dl->ac->Bool
 |[],[]=>G6
 | .str y _::a,x::ss=>(y == x) && Gy a ss
 |_,_=>İ
def jL(K:ϕ)(a:Addr)(c:ac):Bool:=match K.lookup a with
 |some o=>(o.cls == Jh "tuple") && (match o.data with
  | Ϧ b _=>decide (b.size<=sizeLine) && Gy b.toList c
  |_=>İ)
 |none=>İ
theorem iS:∀ {a:dl} {ss:ac},Gy a ss=G6->ke (ss.map V.str) a
 |[],[],_=>Ϡ
 |[],_::_,h=>by simp[Gy]at h
 |v::a,[],h=>by cases v<;>simp[Gy]at h
 |v::a,x::ss,h=>by
  cases v with
  |str y t=>
   simp only[Gy,Ma]at h;obtain rfl:=eq_of_beq h.1;exact Ϟ ⟨t,rfl⟩$ iS h.2
  |_=>simp[Gy]at h
def mB.of{K}(h:jL K a f=G6):mB K a f:=by
 unfold jL at h;cases e:K.lookup a with
 |none=>rw[e]at h;cases h
 |some o=>
  rw[e]at h;simp only[Ma]at h;obtain⟨g,b⟩:=h;cases d:o.data with
  |seq c n=>
   rw[d]at b;simp only[Ma,Tc]at b;exact⟨o,c,n,e,eq_of_beq g,d,b.1,iS b.2⟩
  |_=>simp_all
def RF(a:Bool)(b:ac)(x:D):M D:=λc=>match x with
 | ϔ z=>Y (ϒ$ if a then !XA (.str z) (b.map V.str)else XA (.str z) (b.map V.str)) c
 |_=>Ϙ
section
variable{e:Qa}{f:Ev->M D}{x:Str}{p pos:Zd}{ss:ac}
def S3(ss:ac):(ss.map V.str).all ki=G6:=by simp[ki]
def R5(j:mB X.K a ss)(h:tF T X (Re (RF b ss) f) g H Q):gA (VJ X.K b) (tF T X f) (tC$ ϗ a) g H Q:=by
 obtain⟨n,p,q,i,l,k⟩:=h;refine⟨n,p,q,i,l,k.bind λd r o v s u t m e c=>?_⟩;cases d with
 |str z=>rw[Oa]at e;subst e;exact⟨a,ss.map V.str,rfl,ϖ$ ϖ j,rfl,S3 ss,Xb.here c m (by rw[Oa])⟩
 |_=>exact c.elim
def ú(m:Gl X x)(i:YD X.K X.mg x ss)(c:FE T X e f)(l:(x == ("__debug__" : Str))=İ:=by decide):FT T X (.Compare e [.In] [ϛ x p] pos)$ eT$ Re (RF İ ss) f:=by
 obtain⟨a,n,j⟩:=i;intro b s st H Q I h;refine eL eN c (sL m n (v:=ϗ a) rfl l) rfl b s st H Q I$ R5 j ?_;obtain⟨y,ρ,A,c,r,o⟩:=h;refine⟨y,ρ,A,c,r,o.bind λd B z v C d D w t u=>?_⟩;obtain⟨k,g,q⟩:=CN t u;exact⟨k,g,q.here w rfl⟩
end
noncomputable def Et(a:List$ Bd × D)(k:Bd):List$ Bd × D:=a.filter λb=>decide$ b.1≠k
theorem eR{e:b'}{H:Hp}(k:Bd):∀ {c:List$ Bd × D} {us:List$ Bd × V},Di T e H c us->Di T e H (Et c k) (uv us k)
 |[],_,h=>by unfold Di at h;cases h;exact Ϡ
 |p::c,_,h=>by
  cases h with
  |@cons _ q _ us a b=>
   have d:=eR k b;unfold Et uv at *;rw[se,se,a.1];split
   ·exact Ϟ a d
   ·exact d
def LR:V->lv->Hp->VK->Prop:=λx c H Q=>∃ a b k v,x=ϗ a/\c=[kV k]/\H a=BD (ϝ b)/\Kl b k=BD v/\Q v (Yb H a$ ϝ$ uv b k)
def zyb:Jw X "dict.pop" LR:=by
 rintro b s st H x n v m Q I j i ⟨a,f,k,y,rfl,rfl,d,e,q⟩;cases j;obtain⟨u,rfl,h⟩:=i.one;exact Y6 I d h e (ϑ rfl) λo l c g=>⟨y,_,c,g,q⟩
def Cy(x:D)(xs:B'):M D:=λb=>match x,xs with
 | O n,[y]=>(match Ai y with
  |some k=>(match b[n]? with
   |some (ώ a)=>(match qi a k with
    |some d=>Y d (b.set n$ ώ$ Et a k)
    |none=>Ϙ)
   |_=>Ϙ)
  |none=>Ϙ)
 |_,_=>Ϙ
def zsa:tz T LR Cy:=by
 intro E f H B x xs v D Q r p q h;cases x with
 |ref n=>
  match xs with
  |[]=>exact h.elim
  |[y]=>
   unfold Cy at h;cases b:Ai y with
   |none=>simp[b]at h;exact h.elim
   |some k=>
    simp[b]at h;cases c:B[n]? with
    |none=>rw[c]at h;exact h.elim
    |some ob=>
     rw[c]at h;cases ob with
     |Pa s=>
      dsimp only at h;obtain⟨a,rfl,j,m,g,i⟩:=r.at p c;obtain⟨w,z,rfl,t,l⟩:=q;rw[ub]at l;subst l;obtain rfl:=cx t b;rcases Xz i k with⟨e,_⟩|⟨C,o,e,u,A⟩
      ·rw[e]at h;exact h.elim
      ·rw[e]at h;have ex:Ld f H f$ Yb H a$ ϝ$ uv m k:=At (Da j) g (λF z=>by cases z) (λF F z=>by cases z);have d:=r.write (ob:=ώ _) j ⟨_,Lf,Di.mono ex$ eR k i⟩;exact⟨a,m,k,o,rfl,rfl,g,u,h f o _ d.1 d.2$ Oa.mono d.1 _ _ A⟩
     |ra _=>exact h.elim
     |yb _ _=>exact h.elim
     |Qc _=>exact h.elim
     |nc _=>exact h.elim
  |_::_::_=>trivial
 |_=>trivial
def â{K:ϕ}(X:K.In h)(G:h.Ns mainGlobals c)(a:W.nsIn K mainGlobals x=BD (BD$ Mb C))(b:jL K C d=G6):YD K c x d:=⟨C,W.mg_of X G a,mB.of b⟩
section
variable{prog:Ca}{w:Ua}{A:Na}{E:Value->Shared->Prop}{l q I S:Addr}{n:Nat}{P:Nat->Value->Prop}{R:jn->Shared->Prop}{Q:Value->Shared->Prop}
def X1(G:Nat->Value->Int->Shared->Prop)(hh:A.handled=Α)(ό:l≠I)(H:S≠I)(a6:l≠S)
  (hl:∀ j d a s,G j d a s->∃ y:dl,y.length=n/\(∀ j v,y[j]?=BD v->P j v)/\s.heap.IsList l y.toArray)
  (u:∀ j d a s B tk,G j d a s->(∀ b o,b≠I->b≠S->s.heap.get? b=BD o->B.get? b=BD o)->G j d a { s with heap:=B,toks:=tk })
  (Yy:∀ j d a s v oI oS,G j d a s->P j v->s.heap.get? I=BD oI->s.heap.get? S=BD oS->(∀ v,oI.data≠.cell v)->(∀ v,oS.data≠.cell v)->
   wpAny (model prog w) A.in1 (call (Mb q) [v]) (λx s'=>∃ k t,x=Tn k t/\s'.heap.get? I=BD oI/\s'.heap.get? S=BD oS/\G (j+1) (if k<a then v else d) (if k<a then k else a) s') (λF F=>False) s)
  (hR:∀ d a s,G n d a s->R (.ok$ .ret d) s) :
  ∀ r j s d a tb c,n - j=r->j<=n->G j d a s->s.heap.get? S=BD (yl "list" #[d,Tn a tb] c)->s.heap.IsListIter I l j->
   codeAny (model prog w) A (.builtin "min.loop" ⟨[Mb I,Mb q,Mb S],[]⟩) R s:=by
 have a5:(toString "min"++toString ".loop" : String) = "min.loop":=by decide
 intro r;induction r with
 |zero=>
  intro j s d a tb c hr hj g V hit;have W:j=n:=by lia
  obtain⟨y,ϋ,a2,K⟩:=hl j d a s g;have N:y.toArray.size=n:=(Va ..).trans ϋ;refine Vc uh ?_;rw[Around.under_plainId ue _];show wpAny _ A.in1 (seqItems? (Mb S) >>= _) _ _ _;refine aa$ Xf V rfl ?_;show wpAny _ A.in1 (tryCatch (pyNext$ Mb I) _ >>= _) _ _ _;refine aa$ ze ((oj (prog:=prog) (w:=w) (A:=A.in1) hh I l ό y.toArray).done _ _ _ ⟨by rw[N,<-W];exact hit,K⟩ λB a3 J=>?_);have m:∀ b o,b≠I->s.heap.get? b=BD o->B.get? b=BD o:=λb o n e=>J b o (by simpa using n) e;have D:=m S _ H V;have s1:=bc B S (xf λF=>(#[]:Array Value));refine aa$ Og D rfl$ aa$ Rn$ ga ?_;subst W;exact hR d a _ (u _ _ _ s _ _ g λb o n1 n2 e=>by rw[s1.2 b n2];exact m b o n1 e)
 |succ r ih=>
  intro j s d a tb c hr hj g V hit;have L:j<n:=by lia
  obtain⟨y,ϋ,a2,K⟩:=hl j d a s g;have N:y.toArray.size=n:=(Va ..).trans ϋ;refine Vc uh ?_;refine aa$ Xf V rfl ?_;refine aa$ ze ((oj (prog:=prog) (w:=w) (A:=A.in1) hh I l ό y.toArray).item j _ _ _ (by rw[N];exact L) ⟨hit,K⟩ λv B a3 hP a1 J=>?_);have m:∀ b o,b≠I->s.heap.get? b=BD o->B.get? b=BD o:=λb o n e=>J b o (by simpa using n) e;have hv:P j v:=a2 j v (by simpa using hP);obtain⟨Q,ϊ,a0,M⟩:=id a1.1;have D:=m S _ H V;refine aa$ ze$ gc (dc (Yy j d a _ v Q _ (u _ _ _ s B a3 g λb o n1 n2 e=>m b o n1 e) hv ϊ D (λv z=>by rw[M]at z;cases z)$ λv z=>by cases z) (λx p he=>?_) λF F hF=>hF.elim);obtain⟨C,T,rfl,U,E,g2⟩:=he;have X:p.heap.IsListIter I l$ j+1:=⟨Q,U,a0,M⟩
  refine aa$ ze$ gc$ aa$ CmpOf.ints_lt (prog:=prog) (w:=w) (A:=A.in1) (P:=λ(i:Nat) v=>∃ t,v=Tn (if i=0 then C else a) t) (λi=>if i=0 then C else a) (λi v h=>h) 0 1 _ _ _ _ _ ⟨T,rfl⟩ ⟨tb,rfl⟩ ?_;refine aa$ gc$ jd ?_;refine aa$ Rn$ ga ?_;by_cases f:C<a
  ·have s1:=bc p.heap S (xf λF=>#[v,Tn C T]);obtain⟨c2,a4⟩:∃ c2,(p.heap.update S$ xf λF=>#[v,Tn C T]).get? S=BD (yl "list" #[v,Tn C T] c2):=⟨_,sJ E λF=>#[v,Tn C T]⟩
   rw[ka f,ka f]at g2;simp only[f,decide_true,af,Dx,On];refine aa ?_;refine Og E rfl$ aa$ Rn$ ga ⟨ce ue _,ih (j+1) _ v C T c2 ⋯ L (u _ _ _ p _ _ g2 λb o n1 n2 e=>by rw[s1.2 b n2];exact e) a4 ⟨Q,(s1.2 I H.symm).trans U,a0,M⟩⟩
  ·rw[ua f,ua f]at g2;simp only[f,decide_false,Bs,On,af,Dx];refine aa$ Rn ?_;exact ga ⟨ce ue _,ih (j+1) _ d a tb c ⋯ L (u _ _ _ p _ _ g2 λb o F F e=>e) E X⟩
def D8(N:Shared->Prop)(G:Addr->Addr->Nat->Value->Int->Shared->Prop)(hh:A.handled=Α)(g0:N s){f:dl}(a3:f.length=n)(a2:∀ j v,f[j]?=BD v->P j v)(h:s.heap.IsList l f.toArray)(H:0<n)
  (U:∀ s h' tk,N s->(∀ b o,s.heap.get? b=BD o->h'.get? b=BD o)->N { s with heap:=h',toks:=tk })
  (first:∀ I S s1 v oI oS,s.heap.objs.size<=I->s.heap.objs.size<=S->S≠I->(∃ s0,N s0/\(∀ b o,b≠I->s0.heap.get? b=BD o->s1.heap.get? b=BD o)/\(s1={ s0 with heap:=s1.heap,toks:=s1.toks }))->P 0 v->s1.heap.get? I=BD oI->s1.heap.get? S=BD oS->(∀ v,oI.data≠.cell v)->(∀ v,oS.data≠.cell v)->
   wpAny (model prog w) A.in1 (call (Mb q) [v]) (λx i=>∃ k t,x=Tn k t/\i.heap.get? I=BD oI/\i.heap.get? S=BD oS/\G I S 1 v k i) (λO O=>False) s1)
  (hl:∀ I S j c a s,G I S j c a s->∃ f:dl,f.length=n/\(∀ j v,f[j]?=BD v->P j v)/\s.heap.IsList l f.toArray)
  (D:∀ I S j c a s h' tk,G I S j c a s->(∀ b o,b≠I->b≠S->s.heap.get? b=BD o->h'.get? b=BD o)->G I S j c a { s with heap:=h',toks:=tk })
  (Yy:∀ I S j c a s v oI oS,G I S j c a s->P j v->s.heap.get? I=BD oI->s.heap.get? S=BD oS->(∀ v,oI.data≠.cell v)->(∀ v,oS.data≠.cell v)->
   wpAny (model prog w) A.in1 (call (Mb q) [v]) (λx i=>∃ k t,x=Tn k t/\i.heap.get? I=BD oI/\i.heap.get? S=BD oS/\G I S (j+1) (if k<a then v else c) (if k<a then k else a) i) (λO O=>False) s)
  (hQ:∀ I S c a s,G I S n c a s->Q c s) :
  wpAny (model prog w) A (call (ϣ "min") [Mb l] [(Up "key",Mb q)]) Q E s:=by
 obtain⟨ol,a1,_⟩:=id h;have C:=za a1;refine kmk_tree PySem.F.kind_min PySem.F.plain_min PySem.F.entry_min (kmk_min_key _ _)$ aa$ bw (rfl)$ aa$ ga$ aa$ Oh h$ aa$ wr ?_$ qg _;have W:(s.heap.push { cls:=Jh "list_iterator",data:=Ϫ #[Mb l,Tn 0 0] }).objs.size=s.heap.objs.size+1:=Jz ..;have B:=Ba C;have d:(s.heap.push { cls:=Jh "list_iterator",data:=Ϫ #[Mb l,Tn 0 0] }).objs.size≠s.heap.objs.size:=by rw[W];exact Td$ Sb _
 have ϊ:l≠(s.heap.push { cls:=Jh "list_iterator",data:=Ϫ #[Mb l,Tn 0 0] }).objs.size:=by rw[W];exact Ba$ Ub C
 have r:s.heap.objs.size<=(s.heap.push { cls:=Jh "list_iterator",data:=Ϫ #[Mb l,Tn 0 0] }).objs.size:=by rw[W];exact rg _
 refine ga ⟨ce ue _,?_⟩;have gI:((s.heap.push { cls:=Jh "list_iterator",data:=Ϫ #[Mb l,Tn 0 0] }).push$ yl "list" #[] 0).get? s.heap.objs.size=BD { cls:=Jh "list_iterator",data:=Ϫ #[Mb l,Tn 0 0] }:=
  ja _$ Fa _ rfl
 have gS:((s.heap.push { cls:=Jh "list_iterator",data:=Ϫ #[Mb l,Tn 0 0] }).push _).get? (s.heap.push { cls:=Jh "list_iterator",data:=Ϫ #[Mb l,Tn 0 0] }).objs.size=BD (yl "list" #[] 0):=Fa _ rfl;have y:∀ b o,s.heap.get? b=BD o->((s.heap.push { cls:=Jh "list_iterator",data:=Ϫ #[Mb l,Tn 0 0] }).push$ yl "list" #[] 0).get? b=BD o:=λb o e=>ja _$ ja _ e;generalize (s.heap.push { cls:=Jh "list_iterator",data:=Ϫ #[Mb l,Tn 0 0] }).objs.size=S at *;generalize ((s.heap.push { cls:=Jh "list_iterator",data:=Ϫ #[Mb l,Tn 0 0] }).push _)=hp at *;refine Vc uh$ aa$ Xf gS rfl$ aa$ ze ((oj (prog:=prog) (w:=w) (A:=A.in1) hh s.heap.objs.size l B f.toArray).item 0 _ _ _ (by rw[((Va ..).trans a3)];exact H) ⟨⟨_,gI,rfl,rfl⟩,h.at λo e=>y _ _ e⟩ λv h' a4 hP L ό=>?_);have u:=λb o n e=>ό b o (by simpa using n) e;obtain⟨M,J,a0,K⟩:=id L.1;refine aa$ ze$ gc (dc (first s.heap.objs.size S _ v M _ (ya _) r d ⟨{ s with heap:=hp,toks:=s.toks },U s hp _ g0 y,λb o n e=>u b o n e,rfl⟩ (a2 0 v$ by simpa using hP) J (u S _ d gS) (λv z=>by rw[K]at z;cases z)$ λv z=>by cases z) (λx m he=>?_) λO O hF=>hF.elim);obtain⟨ϋ,R,rfl,V,p,g2⟩:=he;have s1:=bc m.heap S (xf λO=>#[v,Tn ϋ R]);obtain⟨T,X⟩:∃ T,(m.heap.update S _).get? S=BD (yl "list" #[v,Tn ϋ R] T):=⟨_,sJ p λO=>#[v,Tn ϋ R]⟩
 exact aa$ Og p rfl$ ga ⟨ce ue _,X1 (G _ _) hh B d ϊ (hl _ _) (D _ _) (Yy _ _) (λc a s g=>hQ _ _ c a s g) _ 1 _ v ϋ R T rfl H (D _ _ _ _ _ m _ _ g2 λb o n1 n2 e=>by rw[s1.2 b n2];exact e) X ⟨M,(s1.2 _ d.symm).trans V,a0,K⟩⟩
end
noncomputable def ED(X:Cx)(A:Na)(d:ac)(b:Str)(a:Scope)(q:Addr)(c:Value)(cl:List$ Str × Addr)(s₀:Shared)(H₀:Hp):Cx:=
 { X with A:=A.deeper (W.envX b a s₀.heap.objs.size q c cl),N:=d,s₀:=s₀,H₀:=H₀,env:=W.envX b a s₀.heap.objs.size q c cl,outer:=X.stack,stack:=W.envX b a s₀.heap.objs.size q c cl::X.stack,ex:=[],fn:=λe=>İ,Wb:=G6,pn:=[],xe:=λe e=>False }
noncomputable def GN(a:h8)(d:D)(b:Ev):Ev:=BD d::a.map λi=>(b[i]?).getD Α
noncomputable def HE(a:h8)(v:V)(st:St):St:=BD v::a.map λi=>(st[i]?).getD Α
def Υ a(h:Wg T b H ρ c)(e:Oa T b H d v):Wg T b H (GN a d ρ)$ HE a v c:=by
 exact((sU a h).set 0 e)
section
variable{pins:List$ Addr × Obj}{st:St}{H:Hp}{s:Shared}{x:Str}{M':ac}{ix:h8}{scope:Scope}{A:Na}{qual:Str}{q:Addr}{cd:Value}{v:V}{u:Value}
def ο(I:db X pins st H s)(L:Gj X x M' ix scope)(hx:scope.names.lookup x=BD .local)(hA:A.frames=BD X.stack)(M:A.handled=Α)(rv:qd v u)(P:h'.Ns s.heap.objs.size m)(hm:m x=BD u)
  (E:∀ b o,s.heap.get? b=BD o->h'.get? b=BD o) :
  db (ED X A (x::M') qual scope q cd (Ci X.env scope.names []) s H) [] (HE ix v st) H { s with heap:=h',toks:=t' }:=by
 have f:∀ n c,(Ci X.env scope.names []).lookup n=BD c->X.env.cells.lookup n=BD c:=λn c e=>DO X.env scope.names [] n c (λO O q=>by simp at q) e;have r:=I.Lc.fresh$ ya _;have t:∀ b:Addr,b ∉ (ED X A (x::M') qual scope q cd (Ci X.env scope.names []) s H).ex:=λb z=>absurd (show b∈[]from z) ⋯;refine⟨⟨I.ok.mod,L.kind,rfl,rfl,ya _,λa b c h1 h2=>I.ok.inj a b c (f a c h1)$ f b c h2,λa ha=>?_,λa c h=>(by cases h),λO=>M,Xo hA,ϖ ⟨rfl,rfl⟩,λb J=>absurd J$ t b,λb o e=>I.bs b o e,Ya I.ok.xt I.sz,λb o e=>t b,λb J=>absurd J$ t b,I.stack,I.lj⟩,
  rfl,I.bare,Un.kept E,⟨m,P,λi y C S T e3=>?_⟩,λa c e=>?_,r,λa c e=>I.Qf a c$ f a c e,λp hp=>absurd (show p∈[]from hp) ⋯,I.Lc.kept E,?_⟩
 ·have G:scope.names.lookup a=BD Kc\/scope.names.lookup a=BD xb:=ha;rcases G with z|z
  ·exact absurd rfl$ EC L _$ iu z
  ·exact sD X.env scope.names [] a (iu z)$ Wx I L _ (iu z) rfl
 ·cases i with
  |zero=>
   have g:BD x=BD y:=S;have d:BD (BD v)=BD (BD C):=T;cases g;cases d;exact⟨u,rv,ϑ ⟨hx,hm⟩⟩
  |succ j=>
   have g:M'[j]?=BD y:=S;have d:(ix.map λi=>(st[i]?).getD Α)[j]?=BD (BD C):=T;rw[Ja]at d;cases F:ix[j]? with
   |none=>rw[F]at d;cases d
   |some B=>
    rw[F]at d;have D:(st[B]?).getD Α=BD C:=cc d;have ό:st[B]?=BD (BD C):=by
     cases q:st[B]? with
     |none=>rw[q]at D;cases D
     |some o=>rw[q]at D;exact Cb BD D
    have ϊ:X.N[B]?=BD y:=by
     have z:=Cb (λl=>l[j]?) L.at_;simp only[Ja,F,g]at z;exact cc z
    have q:=gb.mp L.xV y$ Da g;simp only[Ma,qf]at q;have V:X.env.scope.names.lookup y=BD Kc\/X.env.scope.names.lookup y=BD xb:=by
     all_goals simp_all
    have R:scope.names.lookup y=BD xb:=eq_of_beq q.2;obtain⟨m0,a0,ϋ⟩:=I.loc;obtain⟨u2,ru,lu⟩:=ϋ B y C ϊ ό (by rcases V with z|z;exact ϖ$ ϑ z;exact ϖ$ ϖ z);refine⟨u2,ru,ϖ ⟨ϖ R,?_⟩⟩;rcases lu with⟨z,_⟩|⟨_,c,ec,zc⟩
    ·rcases V with k|k
     ·rw[show X.env.kindOf y=X.env.scope.names.lookup y from rfl,k]at z;cases z
     ·rw[show X.env.kindOf y=X.env.scope.names.lookup y from rfl,k]at z;cases z
    ·obtain⟨W,w⟩:=sD X.env scope.names [] y (iu R) (Wx I L _ (iu R) rfl);have U:=f y W w;rw[ec]at U;cases U;obtain⟨o,Q,K⟩:=zc;exact⟨c,w,o,E _ _ Q,K⟩
 ·obtain⟨v,o,Q,K⟩:=I.cell a c (f a c e);exact⟨v,o,E _ _ Q,K⟩
 ·have z:=Cb List.length L.at_;simp[HE,ED];simpa using z
def R9(I:db X pins st H s)(L:Gj X x M' ix scope)(R:scope.names.lookup x=BD .local)(K:A.frames=BD X.stack)(p:A.handled=Α)(n:A.depth<recursionLimit)
  (N:s.heap.get? q=BD (ϴ d qual a c scope (Ci X.env scope.names []) E k h)) (l:s.heap.CodeRec (Mb k) qual)
  (f:bindArgs (W.kla_fn d qual a c scope (Ci X.env scope.names []) E (Mb k) h) ⟨[u],[]⟩=pure [(x,u)]) (m:scope.isCoroutine=İ) (i:scope.isGenerator=İ) (T:qd v u)
  (M:PE (ED X A (x::M') qual scope q (Mb k) (Ci X.env scope.names []) s H) c t) (P:t (HE ix v st) H Q) :
  wpAny (model X.prog X.w) A (call (Mb q) [u]) (λr F=>CE X.stack X.prog X.w H s Q r F) (λD D=>False) s:=by
 refine Ki$ W.kla_callFunE n N rfl m i rfl l ?_;rw[f];refine ga$ Rj (EC L) (λy S=>?_) (λD B j=>⟨?_,?_⟩) L.kind
 ·have e:y=(x,u):=by simpa using S
  simp_all
 ·exact(I.nolimit).fresh _ j
 ·have g:=λb o e=>j.extBut b o (Ba$ za e)$ ja _ e;refine W.kla_codeExpr (dc (M [] _ _ H Q (ο I L R K p T B ⋯ g) P) (λV F z=>?_) λD D z=>z.elim);obtain⟨U,G,J,C,ϋ⟩:=z;exact⟨U,G,J.os,J.bare,J.base,J.Lc,C,ϋ⟩
end
noncomputable def ND(K:ϕ)(c P:Addr):Bool:=match K.lookup c with
 |some o=>(match o.cls,o.data with
  | Jh n,Ϫ a=>n == "code" && (match (a[11]?:Option Value)with|some (Mb p)=>p == P|_=>İ) && (match a.getD 11 Ic with | Mb p=>p == P|_=>İ) && (match a.getD 18 Ic with | .str _ _=>G6|_=>İ) &&
   (match a.getD 7 Ic with | Tn _ _=>G6|_=>İ) && (match a.getD 9 Ic with | Dg _=>G6|_=>İ) && (match a.getD 10 Ic with | Tn _ _=>G6|_=>İ) && (c != P)
  |_,_=>İ)
 |none=>İ
set_option tactic.hygienic true in
def Ω{K:ϕ}(X:K.In h)(e:ND K c P=G6):W.CodeHd h c P:=by
 unfold ND at e;split at e
 ·next o v=>
  split at e
  ·next n G t u=>
   apply b_;intro z_;simp only[Ma]at e;obtain⟨⟨⟨⟨⟨⟨⟨j,a⟩,b⟩,d⟩,f⟩,g⟩,i⟩,k⟩:=e;apply z_;split at a;case h_2=>cases a
   next H l=>
   split at b;case h_2=>cases b
   next I m=>
   split at d;case h_2=>cases d
   next z D p=>
   split at f;case h_2=>cases f
   next A E q=>
   split at g;case h_2=>cases g
   next B r=>
   split at i;case h_2=>cases i
   next C F s=>
   have x:=eq_of_beq a;have y:=eq_of_beq b;subst x;subst y;have w:=eq_of_beq j;subst w;exact⟨o,G,z,D,A,E,B,C,F,X _ _ v,t,u,l,m,p,q,r,s,by simpa using k⟩
  ·cases e
 ·cases e
def ś{st}(I:db X i st H s)(h:H P=BD (.rk ps))(x:zl P s.heap h')(m:s.heap.objs.size<=f)(M:f<h'.objs.size)
  (p:Xs d f h') (r:h'.get? P=BD (W.tabObj$ ps++a)) :
  db X i st (Yb (Yb H P$ .rk$ ps++a) f$ ϫ$ Xs d f) { s with heap:=h',toks:=tk }:=by
 have j:=I.Lc.fresh m;have B:f≠P:=λz=>by rw[z,h]at j;cases j
 have A:∀ b,H b=Α->b≠P:=λb n z=>by rw[z,h]at n;cases n
 have w:∀ b u,H b=BD u->b≠P->Yb (Yb H P$ .rk$ ps++a) f (ϫ$ Xs d f) b=BD u:=λb u e n=>by
  rw[Dd$ Xm e j,Dd n];exact e
 have ϋ:Yb (Yb H P$ .rk$ ps++a) f (ϫ$ Xs d f) P=BD (.rk$ ps++a):=by rw[Dd B.symm,Lf]
 refine I.un ⟨λb o e n O O=>x b o (A b n) e,λb o e n O O=>⟨o.slots,x b o (A b n) e⟩,λb o e n O=>?_,λb o e O=>?_,λb xs e=>w b _ e (λz=>by rw[z,h]at e;cases e),λb o u e=>w b _ e (λz=>by rw[z,h]at e;cases e),λb R e=>?_⟩ λb u e=>?_
 ·have:b≠f:=λz=>by subst z;exact absurd (za e)$ Nt.mpr m
  rw[Dd this,Dd$ A b n];exact n
 ·by_cases g:b=P
  ·subst g;exact⟨_,r⟩
  ·exact⟨o,x b o g e⟩
 ·by_cases g:b=P
  ·subst g;rw[h]at e;cases e;exact⟨a,ϋ⟩
  ·exact⟨#[],by rw[Array.append_empty];exact w b _ e g⟩
 ·by_cases l:b=f
  ·subst l;rw[Lf]at e;cases e;obtain⟨o,Q,t,D,J,K⟩:=p;exact⟨⟨o,Q,t,D,J,K⟩,⟨o,D⟩,(by rintro a1 a2 ⟨N,C,t',E,F,G⟩ k;exact ⟨N,C,t',k _ E,F,G⟩)⟩
  ·rw[Dd l]at e;by_cases g:b=P
   ·subst g;rw[Lf]at e;cases e;exact r
   ·rw[Dd g]at e;refine(I.Lc b u e).mj (λc v L q=>x c v ?_ q) (λc q=>w c _ q (λz=>by rw[z,h]at q;cases q)) λc xs q=>w c _ q (λz=>by rw[z,h]at q;cases q);rcases L with z|z
    ·rw[z];exact g
    ·intro y;rw[y,h]at z;cases z
section
variable{pins:List$ Addr × Obj}{st:St}{H:Hp}{s:Shared}{μ:b'}{σ:Ha}{x:Str}{M':ac}{ix:h8}{scope:Scope}{params:Arguments}{body:Qa}{pos:Zd}{c:Addr}{t:Tab}
structure lw(T:Tb)(X:Cx)(t:Tab)(c:Addr)(pos:Zd):Prop where
 mem:t∈T.tx.Pm
 inj:∀ t'∈T.tx.Pm,t'.P=t.P->t'=t
 code:X.env.code=Mb c
 hd:ND X.K c t.P=G6
 line:t.line=pos.line
 col:t.col=pos.col
 qual:t.qual=X.env.qual++"<lambda>"
 bm:X.mg "__builtins__" = BD (Mb T.tx.bm)
 bb:T.tx.bm≠builtinsNs
def t8(I:db X pins st H s)(L:Gj X x M' ix scope)(r:vd T μ H σ)(g:lw T X t c pos)(M:defaultsOf params X.env=([],[])) :
  wpAny (model X.prog X.w) X.A (Lb (.Lambda params body scope pos) X.env) (λv s'=>∃ q d i B,v=Mb q/\db X ((q,ϴ "<lambda>" t.qual params body scope (Ci X.env scope.names []) ((X.mg "__name__").getD Ic) d i)::pins) st B s'/\Ld μ H μ B/\vd T μ B σ/\d ∉ μ/\B d=BD (ϫ$ Xs t.qual d)) X.xe s:=by
 obtain⟨⟨b2,b4,U⟩,S,ps,E,a8⟩:=r.tb t g.mem;have j:s.heap.get? t.P=BD _:=I.Lc _ _ E;have l:s.heap.Ns mainGlobals X.mg:=I.ok.mod.glob.keeps I.bk;have a6:mainGlobals≠t.P:=λz=>by
  obtain⟨o,es,ep,e,hd,_⟩:=l;rw[z,j]at e;cases e;cases hd
 obtain⟨_,⟨ob,o1,o2,o3,o4⟩,_⟩:=I.Lc _ _ U;have G:T.tx.bm≠t.P:=λz=>by rw[z,j]at o1;cases o1;cases o2
 have V:T.tx.bm≠mainGlobals:=λz=>by
  obtain⟨o,es,ep,e,hd,_⟩:=l
  simp_all
 have hB:s.heap.BuiltinsAt X.mg t.P:=⟨T.tx.bm,ob,g.bm,g.bb,V,G,o1,o2,o3,o4⟩
 have K:=kO X.env scope$ Wx I L;have C:W.CodeHd s.heap c t.P:=(Ω I.ok.mod.tu g.hd).keeps I.bk;have f:∀ {h':Heap} {y:Nat} {B:Hp} {o:Obj},db X pins st B { s with heap:=h',toks:=y }->o.isFreed=İ->(∀ v,o.data≠.cell v)->db X ((h'.objs.size,o)::pins) st B { s with heap:=h'.push o,toks:=y }:=fun {h' y B o} J hf hc=>by
  have J2:=J.kept (h':=h'.push o) (t':=y) λb u e=>ja _ e;refine J2.mi λp m=>?_;rcases Ea.mp m with rfl|m
  ·exact⟨Fa _ hf,J.Lc.fresh$ ya _,Td J.lt,J.lD$ ya _,hc⟩
  ·exact J2.pin p$ Wa _ m
 refine W.kla_eval M ?_;rw[<-g.qual];rcases a8 with rfl|⟨c1,rfl,ό,ϊ⟩
 ·refine W.kla_makeFunction K I.ok.glob l g.code C j trivial rfl a6 hB λd i h' y hx N a7 ϋ a9=>?_;have a0:Xs t.qual d h':=by
   obtain⟨c2,o,vs,tt,e,h1,h2,h3⟩:=ϋ;cases e;exact⟨o,vs,tt,h1,h2,h3⟩
  have J:=ś (tk:=y) I E hx N a7 a0 a9;have k:H d=Α:=I.Lc.fresh N;have b0:d≠t.P:=λz=>by rw[z,E]at k;cases k
  have D:d ∉ μ:=λz=>by obtain⟨u,R,_⟩:=r.mem z;rw[k]at R;cases R
  have F:∀ b u,H b=BD u->b≠t.P->Yb (Yb H t.P$ .rk$ #[]++#[Fc pos.line,Fc pos.col,Mb d]) d (ϫ$ Xs t.qual d) b=BD u:=λb u e n=>by
   rw[Dd$ Xm e k,Dd n];exact e
  have uP:Yb (Yb H t.P$ .rk$ #[]++#[Fc pos.line,Fc pos.col,Mb d]) d (ϫ$ Xs t.qual d) t.P=BD (.rk$ #[]++#[Fc pos.line,Fc pos.col,Mb d]):=by rw[Dd b0.symm,Lf]
  have uc:Yb (Yb H t.P$ .rk$ #[]++#[Fc pos.line,Fc pos.col,Mb d]) d _ d=BD (ϫ$ Xs t.qual d):=Lf;have e:Ld μ H μ$ Yb (Yb H t.P$ .rk$ #[]++#[Fc pos.line,Fc pos.col,Mb d]) d$ ϫ$ Xs t.qual d:=by
   refine⟨⟨[],by simp⟩,λp xs h=>F p _ h (λz=>by rw[z,E]at h;cases h),λp o u h=>F p _ h (λz=>by rw[z,E]at h;cases h),λp o h n=>⟨?_,n⟩⟩;by_cases m:p=t.P
   ·subst m;rw[E]at h;cases h;exact⟨_,uP,ϖ$ ϖ ⟨_,_,rfl,rfl⟩⟩
   ·exact⟨o,F p o h m,ϑ rfl⟩
  refine⟨_,d,i,_,rfl,f J rfl (λv z=>by cases z),e,r.keep e (λa ha=>?_) λt' Q=>?_,D,uc⟩
  ·obtain⟨u,R,_⟩:=r.mem ha;rw[R];exact F a u R λz=>S ⋯
  ·obtain⟨⟨a1,b1,a2⟩,a3,qs,a4,a5⟩:=r.tb t' Q;refine⟨⟨a1,b1,F _ _ a2 G⟩,a3,?_⟩;by_cases m:t'.P=t.P
   ·have et:=g.inj t' Q m;subst et;exact⟨_,uP,ϖ ⟨d,by rw[g.line,g.col];rfl,D,uc⟩⟩
   ·refine⟨qs,F _ _ a4 m,a5.imp id (by rintro ⟨c3,z1,z2,z3⟩;exact ⟨c3,z1,z2,F _ _ z3 (λz=>by rw[z,E]at z3;cases z3)⟩)⟩
 ·refine W.kla_makeFunctionHit (cv:=Mb c1) K I.ok.glob l g.code C j ?_ ?_ hB λi h' y hk b3=>?_
  ·exact trivial
  ·rw[g.line,g.col];simp[codeAmong,Fc]
  ·have J:=I.kept (h':=h') (t':=y) hk;exact⟨_,c1,i,H,rfl,f J rfl (λv z=>by cases z),ϰ _ _,r,ό,ϊ⟩
end
noncomputable def sv(a:Ev->M D)(rest:Ev):B'->D->Int->M D
 |[],b,_=>ret b
 |d::ds,b,c=>Rc (Sr$ a$ BD d::rest) λk=>match k with
  | Z k=>if k<c then sv a rest ds d k else sv a rest ds b c
  |_=>Fb
noncomputable def Sx(a:Ev->M D)(rest:Ev)(b:B'):M D:=match b with
 |[ύ (x::xs)]=>Rc (Sr$ a$ BD x::rest) λk=>match k with
  | Z k=>sv a rest xs x k
  |_=>Fb
 |_=>Fb
noncomputable def EE(d:h8)(b:Ev->M D)(c:Ev->M (B')):Ev->M D:=λa=>Rc (c a)$ Sx b (d.map λi=>(a[i]?).getD Α)
def tW{st}(I:db X a st H s)(k:∀ b o,b≠i->b≠j->s.heap.get? b=BD o->h'.get? b=BD o)(f:Ak X a H i)(g:Ak X a H j):db X a st H { s with heap:=h',toks:=t' }:=by
 have A:∀ b u,H b=BD u->b≠i/\b≠j:=λb u e=>⟨(λz=>by rw[z,f.1]at e;cases e),(λz=>by rw[z,g.1]at e;cases e)⟩
 have l:∀ {b:Addr},b ∉ [i,j]->b≠i/\b≠j:=fun {b} h=>⟨λz=>h (by simp[z]),λz=>h (by simp[z])⟩
 refine I.step (λb w=>?_) (λb o c c d e c=>k b o (l d).1 (l d).2 e) (λb o c c d e c=>⟨o.slots,k b o (l d).1 (l d).2 e⟩) (λc c c c n=>n)
  (λb o d e=>⟨o,k b o (l d).1 (l d).2 e⟩) (λc c e=>e) (λc c c e=>e) (λb ps e=>⟨#[],by rw[e];simp⟩) (λm x=>?_) (λb u e=>?_) I.bare
 ·have e:b=i\/b=j:=by simpa using w
  rcases e with rfl|rfl
  ·exact⟨f.2.2.2.1,f.2.1,f.2.2.2.2.1,f.2.2.2.2.2⟩
  ·exact⟨g.2.2.2.1,g.2.1,g.2.2.2.2.1,g.2.2.2.2.2⟩
 ·obtain⟨o,t,p,y,r⟩:=x;exact⟨o,t,p,k _ o (Vd f.2.1) (Vd g.2.1) y,r⟩
 ·refine(I.Lc b u e).mj (λc v d q=>?_) (λc q=>q) λc c q=>q;rcases d with z|z;all_goals simp_all
def eX
  (U:Nd (k+2) X.A) (L:Gj X x M' ix f) (hx:f.names.lookup x=BD .local) (Lm:lw T X t c b3) (hg:Gl X "min") (hm:X.mg "min" = Α)
  (c5:defaultsOf l X.env=([],[])) (d5:f.isCoroutine=İ) (c6:f.isGenerator=İ)
  (b8:∀ cl pm cd ϋ u,bindArgs (W.kla_fn "<lambda>" t.qual l F f cl pm cd ϋ) ⟨[u],[]⟩=pure [(x,u)])
  (ha:FA T X [e] fs)
  (hb:∀ A q cd b4 c2,Nd k (A.deeper$ W.envX t.qual f b4.heap.objs.size q cd$ Ci X.env f.names [])->FE T (ED X A (x::M') t.qual f q cd (Ci X.env f.names []) b4 c2) F fe)
  (he:pc a6 (va [e] X.env)=(İ,Lb e X.env)::pc a6 (va [] X.env):=by rfl)
  (b0:(pc a6$ va [e] X.env).any (·.1)=İ:=by rfl) :
  FE T X (ϟ (ϛ "min" p) [e] [⟨BD "key",.Lambda l F f b3,kp⟩] a6)$ EE ix fe fs:=by
 intro m s st H Q I h;refine Ke$ vv I hg hm (show bootBuiltins "min" = BD (ϣ "min")from rfl) ?_;obtain⟨μ,ρ,σ,hE,hr,hp⟩:=h;refine callWith_kw (Fd (ha a6 m s st H (λvs H1=>∃ K a9 ds,Ld μ H K H1/\vd T K H1 a9/\ub T K H1 ds vs/\Xb T (XE X st) (Oa T) K H1 (Sx fe (ix.map λi=>(ρ[i]?).getD Α) ds a9) Q) I ⟨μ,ρ,σ,hE,hr,hp.bind λds a9 K vs H1 O e1 r1 q1 p1=>⟨K,a9,ds,e1,r1,q1,p1⟩⟩) λus s1 ⟨vs,H1,I1,rv,K,a9,ds,e1,r1,q1,p1⟩=>kws_cons (Fd (t8 I1 L r1 Lm c5) λlv s2 ⟨q,c',ϋ,H2,c9,I2,e2,r2,d2,d3⟩=>kws_nil ?_)) he b0;subst c9;show wpAny _ _ (call (ϣ "min") us [(Up "key",Mb q)]) _ _ _;have d0:Wg T K H2 ρ st:=(hE.mono e1).mono e2;generalize c0:(ix.map λi=>(ρ[i]?).getD Α)=rest at *;obtain⟨x0,xs,rfl⟩:∃ x0 xs,ds=[ύ$ x0::xs]:=by
  unfold Sx at p1;split at p1
  ·exact⟨_,_,rfl⟩
  ·exact p1.elim
 rw[ub]at q1;obtain⟨v0,rr,rfl,q2,q3⟩:=q1;rw[ub]at q3;subst q3;obtain⟨a,ws,rfl,c4,d1,d7⟩:=q2;obtain⟨u0,rfl,d9⟩:=ke.one rv;obtain rfl:u0=Mb a:=d9;have b2:H2 a=BD (ϱ ws):=(e2.xh _ _ d1 c4).1;have a5:ub T K H2 (x0::xs) ws:=ub.mono e2 _ _ d7;have a3:(x0::xs).length=ws.length:=a5.length;have ra:∀ {G:Hp} {ό:Shared} {pn:List$ Addr × Obj},db X pn st G ό->G a=BD (ϱ ws)->∃ ϊ:dl,ϊ.length=ws.length/\(∀ (j:Nat) v,ϊ[j]?=BD v->∃ w,ws[j]?=BD w/\qd w v)/\ό.heap.IsList a ϊ.toArray:=fun {G ό pn} J z=>by
  apply b_;intro z_;obtain⟨_,ϊ,n,rv,ho⟩:=J.Lc _ _ z;apply z_;refine⟨ϊ,rv.length.symm,λj v hv=>?_,⟨_,ho,rfl,⟨_,rfl⟩⟩⟩;have hj:j<ws.length:=by rw[rv.length];exact(da.mp hv).1
  obtain⟨u,hu,ru⟩:=rv.get (i:=j) (x:=ws[j]) (by simp[hj]);rw[hv]at hu;cases hu;exact⟨ws[j],by simp[hj],ru⟩
 have c8:∀ {E:b'} {G:Hp} {N:Ha} {ό:Shared} {d:D} {w:V} {v:Value} {I S:Addr} {oI oS:Obj} {kk:Int->M D},db X ((q,ϴ "<lambda>" t.qual l F f (Ci X.env f.names []) ((X.mg "__name__").getD Ic) c' ϋ)::m) st G ό->Ld K H2 E G->vd T E G N->Oa T E G d w->qd w v->
   Ak X ((q,ϴ "<lambda>" t.qual l F f (Ci X.env f.names []) ((X.mg "__name__").getD Ic) c' ϋ)::m) G I->Ak X ((q,ϴ "<lambda>" t.qual l F f (Ci X.env f.names []) ((X.mg "__name__").getD Ic) c' ϋ)::m) G S->
   ό.heap.get? I=BD oI->ό.heap.get? S=BD oS->(∀ v,oI.data≠.cell v)->(∀ v,oS.data≠.cell v)->
   Xb T (XE X st) (Oa T) E G (Rc (Sr$ fe$ BD d::rest) (λk=>match k with | Z k=>kk k|_=>Fb) N) Q->
   wpAny (model X.prog X.w) X.A.in1 (call (Mb q) [v]) (λy a8=>∃ k t',y=Tn k t'/\a8.heap.get? I=BD oI/\a8.heap.get? S=BD oS/\∃ r C B,db X ((q,ϴ "<lambda>" t.qual l F f (Ci X.env f.names []) ((X.mg "__name__").getD Ic) c' ϋ)::m) st C a8/\Ld E G r C/\vd T r C B/\
    Ak X ((q,ϴ "<lambda>" t.qual l F f (Ci X.env f.names []) ((X.mg "__name__").getD Ic) c' ϋ)::m) C I/\Ak X ((q,ϴ "<lambda>" t.qual l F f (Ci X.env f.names []) ((X.mg "__name__").getD Ic) c' ϋ)::m) C S/\Xb T (XE X st) (Oa T) r C (kk k B) Q) (λO O=>False) ό:=by
  intro E G N ό d w v I S oI oS kk J ex r' rd e0 fI fS gI gS cI cS po;generalize c7:ϴ "<lambda>" t.qual l F f (Ci X.env f.names []) ((X.mg "__name__").getD Ic) c' ϋ=ob at *;have b9:ό.heap.CodeRec (Mb c') t.qual:=by
   obtain⟨⟨o,e3,tt,h1,h2,h3⟩,_⟩:=J.Lc _ _ (ex.xh _ _ d3 d2).1;exact⟨c',o,e3,tt,rfl,h1,h2,h3⟩
  have hq:=(J.pin (q,ob)$ Wa _$ .head _).1;have J2:db X ((I,oI)::(S,oS)::(q,ob)::m) st G ό:=J.mi λp hp=>by
   rcases Ea.mp hp with rfl|hp
   ·exact⟨gI,fI.1,fI.2.1,fI.2.2.1,cI⟩
   ·rcases Ea.mp hp with rfl|hp
    ·exact⟨gS,fS.1,fS.2.1,fS.2.2.1,cS⟩
    ·exact J.pin p$ Wa _ hp
  have hd:X.A.in1.handled=Α:=U.hd;refine dc (R9 (A:=X.A.in1) (t:=tF T _ fe) (v:=w) (Q:=λy C=>∃ k r B,y=Ϣ k/\Ld E G r C/\vd T r C B/\Xb T (XE X st) (Oa T) r C (kk k B) Q) J2 L hx J.ok.frames hd (Nd.in1 U).depth (by rw[<-c7]at hq;exact hq) b9 (b8 _ _ _ _ _) d5 c6 e0 (hb _ _ _ _ _$ (Nd.in1 U).deeper _) ⟨E,GN ix d ρ,N,Υ ix (d0.mono ex) rd,r',?_⟩) (λy a8 d4=>?_) λO O z=>z
  ·unfold GN;rw[c0];refine po.Ps λy B r g C O b5 c1 d8 b1=>?_;cases y with
   |int k=>
    exact⟨k,r,B,d8,b5,c1,b1⟩
   |_=>exact b1.elim
  ·obtain⟨yv,C,J3,ry,k,r,B,rfl,b5,c1,b1⟩:=J2.after d4;obtain⟨t',rfl⟩:=ry;have pI:=J3.pin (I,oI)$ Wa _$ .head _;have pS:=J3.pin (S,oS)$ Wa _$ .tail _$ .head _;have J4:db X ((q,ob)::m) st C a8:=J3.mi λp hp=>J3.pin p$ Wa _$ .tail _$ .tail _ hp;exact⟨k,t',rfl,pI.1,pS.1,r,C,B,J4,b5,c1,⟨pI.2.1,fI.2⟩,⟨pS.2.1,fS.2⟩,b1⟩
 obtain⟨ϊ,hn,hP,d6⟩:=ra I2 b2;generalize c7:ϴ "<lambda>" t.qual l F f (Ci X.env f.names []) ((X.mg "__name__").getD Ic) c' ϋ=ob at *;refine D8 (n:=ws.length) (P:=λj v=>∃ w,ws[j]?=BD w/\qd w v) (λό=>db X ((q,ob)::m) st H2 ό)
  (λI S j vb kb ό=>Ak X ((q,ob)::m) H2 I/\Ak X ((q,ob)::m) H2 S/\∃ E G N b wb,db X ((q,ob)::m) st G ό/\Ld K H2 E G/\vd T E G N/\Oa T E G b wb/\qd wb vb/\Ak X ((q,ob)::m) G I/\Ak X ((q,ob)::m) G S/\Xb T (XE X st) (Oa T) E G (sv fe rest ((x0::xs).drop j) b kb N) Q)
  U.hd I2 hn hP d6 (by rw[<-a3];simp) (λs0 h' tk g k=>g.kept k) ?_ ?_ ?_ ?_ ?_
 ·
  rintro I S s3 v oI oS hI hS e5 ⟨s0,g0,hk,es⟩ ⟨w,hw,a7⟩ gI gS cI cS;have fI:Ak X ((q,ob)::m) H2 I:=I2.Nm hI$ I2.Lc.fresh hI;have fS:Ak X ((q,ob)::m) H2 S:=I2.Nm hS$ I2.Lc.fresh hS;have J:db X ((q,ob)::m) st H2 s3:=by
   rw[es];exact tW g0 (λb o n O e=>hk b o n e) fI fS
  have rd:∃ w',ws[0]?=BD w'/\Oa T K H2 x0 w':=a5.get (i:=0) rfl;obtain⟨w',a4,rd⟩:=rd;rw[hw]at a4;cases a4;refine dc (c8 (kk:=λk=>sv fe rest xs x0 k) J (ϰ _ _) r2 rd a7 fI fS gI gS cI cS$ Xb.mono e2 p1) (λy s4 z=>?_) λO O z=>z;obtain⟨k,t',rfl,b6,b7,r,C,B,J4,e4,r4,f1,f2,p4⟩:=z;exact⟨k,t',rfl,b6,b7,fI,fS,r,C,B,x0,w,J4,e4,r4,Oa.mono e4 _ _ rd,a7,f1,f2,p4⟩
 ·rintro I S j vb kb ό ⟨_,_,E,G,N,b,wb,J,ex,r',rb,a0,f1,f2,p'⟩;exact ra J (ex.xh _ _ b2 c4).1
 ·rintro I S j vb kb ό h' tk ⟨a1,a2,E,G,N,b,wb,J,ex,r',rb,a0,f1,f2,p'⟩ k;exact⟨a1,a2,E,G,N,b,wb,tW J k f1 f2,ex,r',rb,a0,f1,f2,p'⟩
 ·rintro I S j vb kb ό v oI oS ⟨a1,a2,E,G,N,b,wb,J,ex,r',rb,a0,f1,f2,p'⟩ ⟨w,hw,a7⟩ gI gS cI cS;have hj:j<(x0::xs).length:=by rw[a3];exact(da.mp hw).1
  obtain⟨w',a4,rd⟩:=a5.get (i:=j) (d:=(x0::xs)[j]) (by rw[Db hj]);rw[hw]at a4;cases a4;rw[We hj]at p';generalize (x0::xs)[j]=d at *;generalize e6:(x0::xs).drop (j+1)=c3 at *;refine dc (c8 (kk:=λk=>if k<kb then sv fe rest c3 d k else sv fe rest c3 b kb) J ex r' (Oa.mono ex _ _ rd) a7 f1 f2 gI gS cI cS p') (λy s4 z=>?_) λO O z=>z;obtain⟨k,t',rfl,b6,b7,r,C,B,J4,e4,r4,f3,f4,p4⟩:=z;refine⟨k,t',rfl,b6,b7,a1,a2,r,C,B,?_⟩;by_cases hk:k<kb
  ·rw[ka hk]at p4;rw[ka hk,ka hk];exact⟨d,w,J4,ex.trans e4,r4,Oa.mono (ex.trans e4) _ _ rd,a7,f3,f4,p4⟩
  ·rw[ua hk]at p4;rw[ua hk,ua hk];exact⟨b,wb,J4,ex.trans e4,r4,Oa.mono e4 _ _ rb,a0,f3,f4,p4⟩
 ·rintro I S vb kb ό ⟨_,_,E,G,N,b,wb,J,ex,r',rb,a0,f1,f2,p'⟩;rw[<-a3,List.drop_length]at p';have q':Q wb G:=Xb.here (R:=Oa T) p' r' rb;exact⟨wb,G,J.mi (λp hp=>J.pin p$ Wa _$ .tail _ hp),a0,q'⟩
noncomputable def fx(K:ϕ)(x:Str):Addr:=((W.tabIn K x).getD (0,0)).1
noncomputable def Hv(K:ϕ)(x:Str):Addr:=((W.tabIn K x).getD (0,0)).2
noncomputable def Xw(K:ϕ):Addr:=match W.nsIn K mainGlobals "__builtins__" with
 |some (BD (Mb a))=>a
 |_=>0
theorem Þ{K}(h:(W.tabIn K x).isSome=G6):W.tabIn K x=BD (fx K x,Hv K x):=by
 unfold fx Hv;cases e:W.tabIn K x with
 |none=>simp_all
 |some p=>rfl
def xL(K:ϕ)(xs:ac):Bool:=
 W.noTabs K && (match W.nsIn K mainGlobals "__builtins__" with
  |some (BD (Mb a))=>(K.lookup a).isNone && (a != builtinsNs)
  |_=>İ) && xs.all λx=>(W.tabIn K x).isSome && ND K (fx K x) (Hv K x)
structure wv(K:ϕ)(xs:ac):Prop where
 no:W.noTabs K=G6
 bm:W.nsIn K mainGlobals "__builtins__" = BD (BD (Mb (Xw K)))
 bk:K.lookup (Xw K)=Α
 bb:Xw K≠builtinsNs
 tab:∀ x∈xs,W.tabIn K x=BD (fx K x,Hv K x)
 hd:∀ x∈xs,ND K (fx K x) (Hv K x)=G6
set_option tactic.hygienic true in
def E9{K}{xs}(h:xL K xs=G6):wv K xs:=by
 unfold xL at h;rw[Ma,Ma]at h;obtain⟨⟨f,b⟩,g⟩:=h;split at b
 ·next a d=>
  have c:Xw K=a:=by unfold Xw;rw[d]
  rw[Ma]at b;refine⟨f,by rw[c];exact d,by rw[c];exact Option.isNone_iff_eq_none.mp b.1,by rw[c];simpa using b.2,λx e=>?_,λx e=>?_⟩
  ·have z:=gb.mp g x e;rw[Ma]at z;exact Þ z.1
  all_goals simp_all
 ·cases b
def NH(K:ϕ)(d:Str->Option Value)(x:Str)(e:Stmt)(c:ac):Prop:=
 ∃ f a,d x=BD (Mb f)/\pH K x x e f a/\(∀ b:dl,b.length=c.length->bindArgs a ⟨b,[]⟩=pure (c.zip b))/\a.code=Mb (fx K x)
def X4{K:ϕ}{c xs}(X:K.In h)(G:h.Ns mainGlobals a)(i:Jr K a x d c)(l:wv K xs)(m:x∈xs):NH K a x d c:=by
 obtain⟨f,p,b,F,j⟩:=i;obtain⟨q,r,kV,g,s,o,e,ct,n,rfl,lk,k⟩:=F.ex;exact⟨f,_,b,F,j,W.law_code X G (l.tab x m) b (X _ _ lk) rfl⟩
def MQ{K}{st}(h:NH K i x st ps)(S:Oc N ps$ zf st)
  (n:∀ f A b s H E,Nd k (A.deeper$ ag x (zf st) s.heap.objs.size f$ Mb$ fx K x)->dk ⟨K,j,tx⟩ (mo (qk P w) P w K i a N x (zf st) f (Mb$ fx K x) A b s H E) (uj st) g) :
  Ii ⟨K,j,tx⟩ P w i a (k+1) x ps$ Vg N.length g:=by
 obtain⟨f,t,p,F,c,o⟩:=h;obtain⟨u,v,kV,m,y,r,l,ct,q,rfl,lk,d⟩:=F.ex;have e:=o;subst e;exact⟨f,_,p,F.kp,c,jB lk d S$ n f⟩
set_option tactic.hygienic true in
def N7{K}
  (KX:K.In f.heap) (a8:f.heap.Ns mainGlobals mg) (B:f.heap.Ns builtinsNs mb) (a4:∀ x:Str,x ≠ "__name__"->mb x=bootBuiltins x) (ό:f.heap.NoLimit) (hg:f.gens=#[])
  (G:f.heap.get? a=BD { cls:=Jh "list",data:=Ϧ J.toArray }) (hi:bh J ns) (hl:ns.length<=63) (hr:Nd k jm)
  (hK:W.noTabs K=G6) (j:f.heap.get? tx.bm=BD ob) (U:ob.cls=Jh "module") (a5:ob.dict=BD builtinsNs) (ϋ:ob.data=.plain) (a3:K.lookup tx.bm=Α)
  (T:∀ t∈tx.Pm,∃ c,W.CodeHd f.heap c t.P/\f.heap.get? t.P=BD (W.tabObj #[]))
  (F:∀ base:Heap,Sg P w K mg base (qk P w) k fa fd [x] (Mm ⟨K,ca,tx⟩ 1 fn)) (N:∀ s u,Oe s fd ⟨[u],[]⟩ [(x,u)])
  (tr:∀ ns:gV,ns.length<=63->∃ σ,fn [ϯ ns] []=Y (ϒ G6) σ) :
  codeAny (model P w) jm (.call (Mb fa) ⟨[Mb a],[]⟩) (λr A=>r=.ok (.ret$ Dg G6)/\OldK f.heap A.heap/\A.os=f.os/\Zg A.gens) f:=by
 have rv:=ZD hi;have X:ns.length<=sizeLine:=Ya hl ⋯;have C:∀ L:Bool,(L=G6->K.lookup a=Α)->(L=İ->K.lookup a=BD { cls:=Jh "list",data:=Ϧ J.toArray })->
   codeAny (model P w) jm (.call (Mb fa) ⟨[Mb a],[]⟩) (λr A=>r=.ok (.ret$ Dg G6)/\OldK f.heap A.heap/\A.os=f.os/\Zg A.gens) f:=by
  intro L a6 a7;obtain⟨H,c1,c2,c3,ϊ⟩:∃ H:Hp,(∀ t∈tx.Pm,H t.P=BD (.rk #[]))/\(H tx.bm=BD (Ϩ ob _))/\(L=G6->H a=BD (Ϩ { cls:=Jh "list",data:=Ϧ J.toArray }$ ϱ$ ns.map Ϣ))/\
    ∀ b u,H b=BD u->(u=.rk #[]/\∃ t∈tx.Pm,b=t.P)\/(b=tx.bm/\u=Ϩ ob _)\/(b=a/\L=G6/\u=Ϩ { cls:=Jh "list",data:=Ϧ J.toArray } (ϱ$ ns.map Ϣ)):=by
   refine⟨λb=>if b=tx.bm then BD (Ϩ ob$ ϫ$ aQ tx.bm)else if b=a then (if L=G6 then BD (Ϩ { cls:=Jh "list",data:=Ϧ J.toArray }$ ϱ$ ns.map Ϣ)else Α)else if b∈tx.Pm.map (·.P)then BD (.rk #[])else Α,λt g=>?_,ka rfl,λh=>?_,λb u e=>?_⟩
   ·obtain⟨c,_,l⟩:=T t g;have n1:t.P≠tx.bm:=λz=>by rw[z,j]at l;cases l;cases U
    have n2:t.P≠a:=λz=>by rw[z,G]at l;cases l
    dsimp only;rw[ua n1,ua n2,ka$ wa.mpr ⟨t,g,rfl⟩]
   ·have n1:a≠tx.bm:=λz=>by rw[z,j]at G;cases G;cases ϋ
    dsimp only;rw[ua n1,ka rfl,ka h]
   ·dsimp only at e;split at e
    ·next a1=>cases e;exact ϖ$ ϑ ⟨a1,rfl⟩
    ·split at e
     ·next a2=>
      split at e
      ·next h=>cases e;exact ϖ$ ϖ ⟨a2,h,rfl⟩
      ·cases e
     ·split at e
      ·next hm=>cases e;obtain⟨t,g,rfl⟩:=wa.mp hm;exact ϑ ⟨rfl,t,g,rfl⟩
      ·cases e
  have a9:zh P w H f.heap:=λb u e=>by
   rcases ϊ b u e with⟨rfl,t,g,rfl⟩|⟨rfl,rfl⟩|⟨rfl,_,rfl⟩
   ·apply b_;intro z_;obtain⟨c,_,l⟩:=T t g;apply z_;exact l
   ·exact⟨j,⟨ob,j,U,a5,ϋ⟩,⟨ob,j⟩,λh1 h2 ⟨o,e1,E⟩ k=>⟨o,k _ e1,E⟩⟩
   ·exact⟨G,by rw[Ia];exact X,J,_,rv,G⟩
  have i:∀ {b:Addr} {o:Obj},f.heap.get? b=BD o->H b=Α->(Lw f.heap H).get? b=BD o:=λe n=>zG6 e n;have b1:∀ {b:Addr} {o:Obj} {es:Array zE} {ep:Nat},f.heap.get? b=BD o->o.data=.dict es ep->H b=Α:=fun {b o es ep} e d=>by
   cases q:H b with
   |none=>rfl
   |some u=>
    rcases ϊ b u q with⟨_,t,g,rfl⟩|⟨rfl,_⟩|⟨rfl,_,_⟩
    ·obtain⟨c,_,l⟩:=T t g;rw[l]at e;cases e;cases d
    ·rw[j]at e;cases e;rw[ϋ]at d;cases d
    ·rw[G]at e;cases e;cases d
  have R:∀ {b:Addr} {m:Str->Option Value},f.heap.Ns b m->(Lw f.heap H).Ns b m:=fun {b m} ⟨o,es,ep,e,d,r⟩=>⟨o,es,ep,i e$ b1 e d,d,r⟩
  have a0:=λb o e=>i (KX b o e) (by
   cases q:H b with
   |none=>rfl
   |some u=>
    rcases ϊ b u q with⟨_,t,g,rfl⟩|⟨rfl,_⟩|⟨rfl,h,_⟩
    ·obtain⟨c,_,l⟩:=T t g;have E:=KX _ _ e;rw[l]at E;cases E;have h2:=gb.mp hK (t.P,_)$ W.mem_of_lookupK e;exact absurd (show İ=G6 from h2) zb
    ·rw[a3]at e;cases e
    ·rw[a6 h]at e;cases e)
  have hM:Mod K mg$ Lw f.heap H:=⟨a0,R a8,⟨mb,R B,a4⟩,let ⟨mc,h1,h2⟩:=ό;⟨mc,R h1,h2⟩⟩
  have e0:ip P w K mg (Lw f.heap H) jm [] f H:=⟨rfl,hM,λb o e=>İz e,Bk$ i8 _ _,trivial,λb B=>absurd (show b∈[]from B) ⋯,a9,.of_eq hg⟩
  have hS:gG K H a ns:=by
   cases L with
   |true=>exact ϑ ⟨_,c3 rfl⟩
   |false=>exact ϖ ⟨_,J.toArray,_,a7 rfl,rfl,rfl,rfl,by rw[Va,hi.length];exact X,by simpa using rv⟩
  obtain⟨σ,ef⟩:=tr ns hl;have b0:Mm ⟨K,ca,tx⟩ 1 fn [ϗ a] H (λv _=>v=Ϭ G6) λ_ _ _=>False:=by
   refine⟨[],[],[ϯ ns],ub.cons (by rw[Oa];exact⟨a,rfl,hS⟩) ub.nil,rfl,⟨rfl,Em,λn o q=>by simp at q,λt g=>⟨⟨by simp,ob,c2⟩,by simp,#[],c1 t g,ϑ rfl⟩⟩,?_⟩;rw[ef];intro b3 v H' _ _ r;exact r
  refine lf ((F _).Vg jm [] f H _ [Mb a] [ϗ a] _ _ hr e0 (N f$ Mb a) (Ϟ rfl Ϡ) b0) λr A h=>?_;cases r with
  |error e=>obtain⟨_,_,_,_,z⟩:=h;exact z.elim
  |ok f2=>
   cases f2 with
   |next=>exact ϳ h
   |brk=>exact ϳ h
   |cont=>exact ϳ h
   |ret u=>
    obtain⟨v,H',os,S,un,y,r',q⟩:=h;have q':v=Ϭ G6:=q;subst q';obtain rfl:u=Dg G6:=r';have I:∀ b o,f.heap.get? b=BD o->(¬ ∃ t∈tx.Pm,b=t.P)->A.heap.get? b=BD o:=λb o e n=>by
     cases q:H b with
     |none=>exact un.keep b o e q (by intro z;exact absurd (show b∈[]from z) ⋯) ⋯
     |some u=>
      rcases ϊ b u q with⟨_,z⟩|⟨rfl,rfl⟩|⟨rfl,_,rfl⟩
      ·exact absurd z n
      ·obtain⟨E,_⟩:=y _ _ (un.Uh _ _ _ q);rw[j]at e;cases e;exact E
      ·apply b_;intro z_;obtain⟨E,_⟩:=y _ _ (un.Uh _ _ _ q);rw[G]at e;cases e;apply z_;exact E
    have p:∀ t∈tx.Pm,∃ ps,A.heap.get? t.P=BD (W.tabObj ps):=λt g=>by
     obtain⟨b2,z⟩:=un.cj _ _ (c1 t g);exact⟨_,y _ _ z⟩
    refine⟨rfl,⟨λb o e=>?_,λb o e=>?_⟩,os,S⟩
    ·by_cases B:∃ t∈tx.Pm,b=t.P
     ·obtain⟨t,g,rfl⟩:=B;obtain⟨c,hc,l⟩:=T t g;obtain⟨ps,Q⟩:=p t g;rw[l]at e;cases e;exact ϖ$ ϑ ⟨(hc.tab l).isCodeTable,rfl,#[],ps,rfl,by rw[Array.empty_append];exact Q⟩
     ·exact ϑ$ I b o e B
    ·by_cases B:∃ t∈tx.Pm,b=t.P
     ·obtain⟨t,g,rfl⟩:=B;obtain⟨ps,Q⟩:=p t g;exact⟨_,Q⟩
     ·exact⟨o,I b o e B⟩
 cases hk:K.lookup a with
 |some o=>
  have e:=KX a o hk;rw[G]at e;cases e;exact C İ (λh=>by cases h) λ_=>hk
 |none=>exact C G6 (λ_=>hk) λh=>by cases h
def Ď{l:W.OpenLaw}{K:Params->ϕ} xs
  (hn:l.most=BD 63) (B:d.params.defaults=[]) (hr:Nd k jm) (hY:∀ w h,H w h->(K w.params).In h)
  (hK:∀ w:Ua,xL (K w.params) xs=G6) (p:(xs.all λx=>((recsOf q).find? λe=>e.name == x).isSome)=G6)
  (F:∀ w v h,(K w.params).In h->h.Ns mainGlobals v->wv (K w.params) xs->∃ I j,(∀ t∈j,∃ x∈xs,t.P=Hv (K w.params) x)/\wN ⟨K w.params,I,⟨j,Xw$ K w.params⟩⟩ l.prog w v k d.name [x] fn)
  (tr:∀ E:gV,E.length<=63->∃ σ,fn [ϯ E] []=Y (ϒ G6) σ) :
  W.WalkO q i S H l.row.toRowW d [] (λf R=>PySem.call f R):=by
 refine Att.ko hn B λw ϋ Q v mb fa o pm cd a0 a R E G ό ho hd a2 C n c m hg=>?_;have r:=hY w _ ό;have TT:=E9$ hK w;obtain⟨I,j,hP,f0,a1,L,g3,g4⟩:=F w v _ r G.T.g TT;rw[C]at L;cases L;obtain⟨bm,ob,b1,b2,U,V,X,ϊ⟩:=G.T.bmain;have J:=W.mg_of r G.T.g TT.bm;rw[b1]at J;cases J;refine N7 r G.T.g G.T.b G.T.builtins G.T.nolimit hg n c m hr TT.no U V X ϊ TT.bk (λt ht=>?_) g4 (λs u=>.of_eq$ g3 [u] rfl) tr;obtain⟨y,N,e⟩:=hP t ht;have z:=gb.mp p y N;obtain⟨d',A⟩:=ie.mp z;have:=W.tab_of G.T r A$ TT.tab y N;rw[e];exact⟨_,this.1,this.2⟩
def NY(h:(a.P == b.P)=İ):∀ t∈(⟨[a,b],f⟩:Tx).Pm,∀ d∈(⟨[a,b],f⟩:Tx).Pm,d.P=t.P->d=t:=by
 intro t g d c e;simp at g c;rcases g with rfl|rfl<;>rcases c with rfl|rfl;all_goals simp_all
def Xq(x:D)(xs:B'):M D:=λa=>match x,xs with
 | O n,[y]=>(match jf a n with
  |some b=>(match uf a y with
   |some zs=>if b.length+zs.length<=lg then Y Ϛ (a.set n$ ϐ$ b++zs)else Ϙ
   |none=>Ϙ)
  |none=>Ϙ)
 |_,_=>Ϙ
section
variable{T:Tb}
def TW:tz T zQ Xq:=by
 intro E s H t x xs v f Q r p q h;cases x with
 |ref n=>
  match xs with
  |[]=>cases h
  |[y]=>
   obtain⟨w,z,rfl,A,l⟩:=q;rw[ub]at l;subst l;unfold Xq at h;cases c:jf t n with
   |none=>simp[c]at h;exact h.elim
   |some B=>
    simp[c]at h;cases d:uf t y with
    |none=>simp only[d]at h;exact h.elim
    |some zs=>
     simp only[d]at h;by_cases e:B.length+zs.length<=lg
     ·rw[ka e]at h;obtain⟨a,f,rfl,k,g,i⟩:=r.ra p c;obtain⟨b,m,rfl,u,j⟩:=r.ls A d;have o:=r.write (ob:=ϐ _) k ⟨_,Lf,by
       have ex:Ld s H s$ Yb H a$ ϱ$ f++m:=At (Da k) g (λC z=>by cases z) (λC C z=>by cases z);exact ub.append (ub.mono ex _ _ i)$ ub.mono ex _ _ j⟩
      exact⟨a,b,f,m,rfl,rfl,g,u,by rw[<-i.length,<-j.length];exact gy e,h _ _ _ o.1 o.2 (by rw[Oa])⟩
     ·rw[ua e]at h;exact h.elim
  |_::_::_=>exact h.elim
 |_=>exact h.elim
end
section
variable{x y:Str}{p pos:Zd}{ss:ac}
def YQ(e:Gl X x)(b:YD T.K X.mg x ss)(d:(x == ("__debug__" : Str))=İ:=by decide):FE T X (ϛ x p)$ eC$ .gt ss:=by
 obtain⟨a,f,c⟩:=b;exact iB (sL e f (v:=ϗ a) rfl d) λg g=>by rw[Oa];exact⟨a,rfl,c⟩
def Ii.alias(h:Ii T P w b a k x ps c)(e:b y=b x):Ii T P w b a k y ps c:=by
 obtain⟨f,d,g,i⟩:=h;exact⟨f,d,e.trans g,i⟩
end
section
variable{T:Tb}{μ μ':b'}{H H':Hp}{σ:Ha}{a:Addr}
mutual
theorem Oa.chg(j:∀ b,b≠a->H' b=H b)(l:a∈μ)(r:∀ xs,H a≠BD (.Sa xs))(s:∀ o xs,H a≠BD (Ϩ o$ ϱ xs)):∀ (d:D) (v:V),Oa T μ H d v->Oa T μ H' d v
 | Ϛ,v,h=>by simpa [Oa]using h
 | ϒ b,v,h=>by simpa [Oa]using h
 | Z i,v,h=>by simpa [Oa]using h
 | ϔ x,v,h=>by simpa [Oa]using h
 | Ϗ ds,v,h=>by
  rw[Oa]at h ⊢;obtain⟨p,m,g,e,k⟩:=h;exact⟨p,m,g,by rw[j p (λz=>r _ (by rw[<-z];exact e))];exact e,ub.chg j l r s ds m k⟩
 | ϯ ns,v,h=>by
  rw[Oa]at h ⊢;obtain⟨p,g,e⟩:=h;refine⟨p,g,?_⟩;rcases e with⟨o,e⟩|e
  ·exact ϑ ⟨o,by rw[j p (λz=>s _ _ (by rw[<-z];exact e))];exact e⟩
  ·exact ϖ e
 | O n,v,h=>by rw[Oa]at h ⊢;exact h
 | ύ ds,v,h=>by
  rw[Oa]at h ⊢;obtain⟨p,m,g,f,e,k⟩:=h;exact⟨p,m,g,f,by rw[j p (λz=>f (by rw[z];exact l))];exact e,ub.chg j l r s ds m k⟩
 | ϩ ks ds,v,h=>by
  rw[Oa]at h ⊢;obtain⟨p,m,g,f,e,t,k⟩:=h;exact⟨p,m,g,f,by unfold Rd at e ⊢;rw[j p (λz=>f (by rw[z];exact l))];exact e,t,ub.chg j l r s ds _ k⟩
 | ϻ c ns ds,v,h=>by
  rw[Oa]at h ⊢;obtain⟨p,A,m,g,f,e,t,k⟩:=h;exact⟨p,A,m,g,f,by rw[j p (λz=>f (by rw[z];exact l))];exact e,t,ub.chg j l r s ds _ k⟩
 | .Gq c,v,h=>by
  rw[Oa]at h ⊢;obtain⟨p,y,g,f,e,k⟩:=h;refine⟨p,y,g,f,by rw[j p (λz=>f (by rw[z];exact l))];exact e,λn q=>?_⟩;obtain⟨u,B,w,C⟩:=k n q;exact⟨u,B,w,by rw[j u (λz=>w (by rw[z];exact l))];exact C⟩
 | .gt ss,v,h=>by rw[Oa]at h ⊢;exact h
theorem ub.chg(j:∀ b,b≠a->H' b=H b)(i:a∈μ)(f:∀ xs,H a≠BD (.Sa xs))(g:∀ o xs,H a≠BD (Ϩ o$ ϱ xs)):∀ (c:B') (e:lv),ub T μ H c e->ub T μ H' c e
 |[],e,h=>by simpa [ub]using h
 |d::c,e,h=>by
  rw[ub]at h ⊢;obtain⟨v,r,k,l,m⟩:=h;exact⟨v,r,k,Oa.chg j i f g d v l,ub.chg j i f g c r m⟩
end
def YE(i:∀ b,b≠a->H' b=H b)(g:a∈μ)(e:∀ xs,H a≠BD (.Sa xs))(f:∀ o xs,H a≠BD (Ϩ o$ ϱ xs)){xs}{d}(h:Paired (λ p q =>p.1=q.1/\Oa T μ H p.2 q.2) xs d) :
  Paired (λ(p:c × D) (q:c × V)=>p.1=q.1/\Oa T μ H' p.2 q.2) xs d:=L2.Paired.wo h λp q z=>⟨z.1,Oa.chg i g e f _ _ z.2⟩
theorem Um.chg(d:∀ b,b≠a->H' b=H b)(j:a∈μ)(g:∀ xs,H a≠Option.some (.Sa xs))(i:∀ o xs,H a≠Option.some (Ϩ o$ ϱ xs))(f:b≠a):∀ {o:Ob},Um T μ H b o->Um T μ H' b o
 | ϐ ds,⟨e,h,r⟩=>⟨e,(d b f).trans h,ub.chg d j g i _ _ r⟩
 | ώ k,⟨e,h,r⟩=>⟨e,(d b f).trans h,YE d j g i r⟩
 | ϓ c n,⟨l,e,h,r⟩=>⟨l,e,(d b f).trans h,YE d j g i r⟩
 | ϧ k,⟨m,e,h,r⟩=>⟨m,e,(d b f).trans h,YE d j g i r⟩
 | ϡ ks,⟨e,h,r⟩=>⟨e,(d b f).trans h,r⟩
def vd.chg(r:vd T μ H σ)(f:∀ b,b≠a->H' b=H b)(g:μ[n]?=BD a)(i:∀ xs,H a≠BD (.Sa xs))(j:∀ o xs,H a≠BD (Ϩ o$ ϱ xs))(l:Um T μ H' a ob):vd T μ H'$ σ.set n ob:=by
 have e:=Da g;refine⟨by simp[r.len],r.nd,λm x h=>?_,r.tb.out f$ ϑ e⟩;rw[je]at h;by_cases c:n=m
 ·subst c
  simp_all
 ·rw[ua c]at h;obtain⟨b,d,k⟩:=r.obs m x h;exact⟨b,d,k.chg f e i j (λz=>c (by subst z;exact CO r.nd g d))⟩
end
def _root_.L2.db.kt{st}(I:db X d st H s)(f:H a=BD (Ϩ t$ ϝ g))(l:∀ o u,X.H₀ a≠BD (Ϩ o u)):db X d st (Yb H a$ ϝ g) s:=by
 have i:∀ b u,H b=BD u->(∀ o w,u≠ Ϩ o w)->b≠a:=λb u q n z=>by rw[z,f]at q;exact n _ _ (cc q).symm
 refine⟨I.ok,I.os,I.bare,⟨I.base.keep,I.base.slot,λb o e n r=>?_,I.base.there,λb xs e=>?_,λb o u e=>?_,λb ps e=>?_⟩,I.loc,I.cell,?_,λx c e=>?_,λp m=>?_,λb u e=>?_,I.len⟩
 ·have:=I.base.free b o e n r;rw[Dd (λz=>by rw[z,f]at this;cases this)];exact this
 ·have:=I.base.Bj b xs e;rw[Dd$ i b _ this (λC C z=>by cases z)];exact this
 ·have:=I.base.Uh b o u e;rw[Dd (λz=>l o u ⋯)];exact this
 ·obtain⟨h,this⟩:=I.base.cj b ps e;exact⟨h,by rw[Dd$ i b _ this (λC C z=>by cases z)];exact this⟩
 ·rw[Dd (λz=>by have:=I.free;rw[z,f]at this;cases this)];exact I.free
 ·have:=I.Qf x c e;rw[Dd (λz=>by rw[z,f]at this;cases this)];exact this
 ·obtain⟨A,j,B⟩:=I.pin p m;exact⟨A,by rw[Dd (λz=>by rw[z,f]at j;cases j)];exact j,B⟩
 ·by_cases k:b=a
  ·subst k;rw[Lf]at e;cases e;exact(I.Lc b _ f).2
  ·rw[Dd k]at e;refine(I.Lc b u e).mj (λc v C z=>z) (λc z=>?_) λc xs z=>?_
   ·rw[Dd$ i c _ z (λC C y=>by cases y)];exact z
   ·rw[Dd$ i c _ z (λC C y=>by cases y)];exact z
section
variable{elts:List Qa}{kk:Nat}{p0:Zd}
def mM(o:H a=BD (Ϩ l$ ϝ c))(s:Di T m H f c):yz T m H (oo f)$ Itm a l c:=by
 intro v A w i ex t;have h:=ex.zd _ _ _ o;have e:=Di.mono ex s;unfold oo;cases n:f[i]? with
 |none=>
  by_cases j:i=f.length
  ·rw[ka j];exact⟨h,by rw[j];exact Paired.length e⟩
  simp_all
 |some p=>
  obtain⟨q,k,g,u⟩:=dJ e i n;refine⟨⟨h,q,k⟩,λz x y=>?_⟩;obtain⟨r,B,C,b,rfl,d,rfl⟩:=y;rw[k]at d;cases d;refine⟨Ij b,t.fresh b,?_⟩;rw[Oa,g];exact⟨r,_,rfl,Lf,ub.cons (BM _)$ ub.cons (Oa.mono (Ij b) _ _ u) ub.nil⟩
def AA(d:D):M NX:=λb=>match d with
 | ϩ ks xs=>if ks.length=xs.length then Y (oo$ ks.zip xs) b else Ϙ
 | O n=>(match b[n]? with
  |some (ώ a)=>Y (oo a) (b.set n$ ϧ a)
  |some (ϧ a)=>Y (oo a) b
  |_=>Ϙ)
 |_=>Ϙ
def Ws(f:Ev->M D):Ev->M NX:=λa=>Rc (f a) AA
def hZ(h:FE T X e f)(G:Ed e "items" X.env (Lb e X.env)=Lb e X.env:=by rfl)(J:(x.endLine == A.line)=G6:=by rfl) :
  dq T X (ϲ elts kk p0) (ϟ (Ϝ e "items" x) [] [] A)$ Ws f:=by
 intro Q s st H R I hw;refine jV (JT gf Yg Im UX h G J) Q s st H R I ?_;apply b_;intro z_;obtain⟨μ,ρ,σ,hE,hr,hp⟩:=hw;apply z_;refine⟨μ,ρ,σ,hE,hr,hp.bind λd w c v i b e1 V q1 p=>?_⟩;unfold AA at p;cases d with
 |Pa ks xs=>
  dsimp only at p;by_cases hl:ks.length=xs.length
  ·rw[ka hl]at p;obtain⟨a,j,rfl,U,q,ϊ,a0⟩:=q1;refine⟨⟨a,j,rfl,q⟩,a,j,rfl,rfl,q,λl g=>?_⟩;have t:a≠l:=by rcases q with q|⟨_,q⟩<;>exact Xm q g
   have ό:Rd (Yb i l$ ϫ$ Jp l a) a$ ϝ j:=by unfold Rd;rw[Dd t];exact q
   refine⟨l,a,j,rfl,Lf,ό,λN m=>?_⟩;have C:Ld c i c$ Yb i l$ ϫ$ Jp l a:=Ij g;have k:vd T c (Yb i l$ ϫ$ Jp l a) w:=V.fresh g;obtain⟨x2,a1⟩:Ld c i c _/\vd T c _ w:=by
    rcases m with m|m
    ·have y:=nQ (μ:=c) (od:=N) m;exact⟨C.trans y,k.keep y (λb W=>Dd (λz=>U (by rw[<-z];exact W)))$ k.tb.out (λb W=>Dd W)$ ϖ ⟨_,m⟩⟩
    ·rw[CA m];exact⟨C,k⟩
   exact Xb.here (Xb.mono x2 p) a1$ mM Lf$ Di.mono x2$ JI ϊ a0
  ·rw[ua hl]at p;exact p.elim
 |ref n=>
  dsimp only at p;cases S:w[n]? with
  |none=>rw[S]at p;exact p.elim
  |some o=>
   rw[S]at p;obtain⟨a,rfl,U,P⟩:=V.at q1 S;cases o with
   |Pa j=>
    obtain⟨u,E,K⟩:=P;have q:Rd i a _:=ϑ E;refine⟨⟨a,u,rfl,q⟩,a,u,rfl,rfl,q,λl g=>?_⟩;have t:=Xm E g;have r:Yb i l (ϫ$ Jp l a) a=BD (ϝ u):=by rw[Dd t];exact E
    refine⟨l,a,u,rfl,Lf,ϑ r,λN b=>?_⟩;have C:Ld c i c$ Yb i l$ ϫ$ Jp l a:=Ij g;have k:vd T c (Yb i l$ ϫ$ Jp l a) w:=V.fresh g;have ϋ:Ld c _ c$ Yb _ a$ Ϩ N$ ϝ u:=At (Da U) r (λb z=>by cases z) (λb b z=>by cases z);have B:=Di.mono (C.trans ϋ) K;exact Xb.here (Xb.mono (C.trans ϋ) p) (k.write (ob:=ϧ j) U ⟨N,u,Lf,B⟩$ λkv z=>by rw[S]at z;cases z).2$ mM Lf B
   |Qc j=>
    obtain⟨L,u,E,K⟩:=P;have q:Rd i a _:=ϖ ⟨L,E⟩;refine⟨⟨a,u,rfl,q⟩,a,u,rfl,rfl,q,λl g=>?_⟩;have t:a≠l:=Xm E g;have r:Yb i l (ϫ$ Jp l a) a=BD (Ϩ L$ ϝ u):=by rw[Dd t];exact E
    refine⟨l,a,u,rfl,Lf,ϖ ⟨L,r⟩,λN m=>?_⟩;have C:Ld c i c$ Yb i l$ ϫ$ Jp l a:=Ij g;have k:vd T c (Yb i l$ ϫ$ Jp l a) w:=V.fresh g;rcases m with m|m
    ·rw[r]at m;cases m
    ·rw[CA m];exact Xb.here (Xb.mono C p) k$ mM m$ Di.mono C K
   |_=>exact p.elim
 |_=>exact p.elim
noncomputable def Sy{c:Type}(ok:c->Bool)(n:Nat):dh c->dh c
 | Y a σ=>if ok a=G6 then (match σ[n]? with
  |some (ϧ b)=>Y a (σ.set n$ ώ b)
  |_=>Ϙ)else Ϙ
 |_=>Ϙ
noncomputable def cu{b:Type}(ok:b->Bool)(m:M D)(g:M b):M b:=λa=>match m a with
 | Y (O n) _=>(match a[n]? with
  |some (ώ _)=>Sy ok n (g a)
  |_=>g a)
 |_=>g a
noncomputable def WH:Fl->Bool
 | .xc _ _=>İ
 |_=>G6
def Uw(f:Ev->M D)(g:Ev->M Fl):Ev->M Fl:=λa=>cu WH (f a)$ g a
noncomputable def IG(f:Ev->M D)(g:Ev->M D):Ev->M D:=λa=>cu (λb=>G6) (f a)$ g a
def ò(ex:Ld e H b c)(i:a∈e)(f:H a=BD (ϝ d))(k:c a=BD (Ϩ j$ ϝ g)):Ld e H b$ Yb c a$ ϝ g:=by
 refine⟨ex.pre,λp xs h=>?_,λp o u h=>?_,λp o h n=>?_⟩
 ·rw[Dd (λz=>by rw[z,f]at h;cases h)];exact ex.Sa p xs h
 ·rw[Dd (λz=>by rw[z,f]at h;cases h)];exact ex.zd p o u h
 ·rw[Dd (λz=>n ⋯)];exact ex.keep p o h n
def YW(D:y[n]?=BD a)(I:H a=BD (ϝ v))
  (G:∀ c e (d:s) (g:w) k f,a∈c->e a=BD (Ϩ k$ ϝ f)->ok d=G6->R c e d g->R c (Yb e a$ ϝ f) d g) (h:Xb T E R y H (Sy ok n o) Q) :
  Xb T E R y H o (λg e=>∃ k f,e a=BD (Ϩ k$ ϝ f)/\Q g (Yb e a$ ϝ f)/\∃ c d,ok d=G6/\R c e d g):=by
 cases o with
 |Fb=>exact h
 |ex x q=>trivial
 |ok d q=>
  unfold Sy at h;dsimp only at h;by_cases i:ok d=G6
  ·rw[ka i]at h;cases t:q[n]? with
   |none=>rw[t]at h;exact h.elim
   |some ob=>
    rw[t]at h;cases ob with
    |Qc K=>
     intro c g e ex r F;apply b_;intro z_;obtain⟨a',m,k,f,p,u⟩:=r.obs n _ t;have j:=ex.get D;rw[j]at m;cases m;have l:=Da j;have C:∀ b,b≠a->Yb e a (ϝ f) b=e b:=λb J=>Dd J;have A:∀ xs,e a≠BD (.Sa xs):=λxs z=>by rw[p]at z;cases z
     apply z_;have B:∀ o xs,e a≠BD (Ϩ o$ ϱ xs):=λo xs z=>by rw[p]at z;cases z
     exact⟨k,f,p,h c g _ (ò ex (Da D) I p) (r.chg C j A B ⟨f,Lf,YE C l A B u⟩)$ G c e d g k f l p i F,c,d,i,F⟩
    |_=>exact h.elim
  ·rw[ua i]at h;exact h.elim
def CD(f:a∈c)(g:e a=BD (Ϩ k$ ϝ i)) d v(h:Oa T c e d v):Oa T c (Yb e a$ ϝ i) d v:=
 Oa.chg (λb j=>Dd j) f (λxs z=>by rw[g]at z;cases z) (λo xs z=>by rw[g]at z;cases z) d v h
set_option tactic.hygienic true in
def UU(h:FS T X s g):FS T X s$ Uw f g:=by
 intro t N st H D I l;obtain⟨ϋ,P,Q,K,G,A⟩:=l;have p:=λq=>h t N st H D I ⟨ϋ,P,Q,K,G,q⟩;unfold Uw cu at A;split at A
 ·rename_i n _ _
  split at A
  ·rename_i V R
   obtain⟨a,U,ό,L,_⟩:=G.obs n _ R;have F:∀ o u,X.H₀ a≠BD _:=λo u z=>by have:=I.base.Uh a o u z;rw[L]at this;cases this
   have q:=YW U L (λJ e d y k c r j x m=>by
    cases d with
    |xc _ _=>cases x
    |nx E=>cases y<;>first|exact m.elim|exact⟨m.1,λi d q=>let ⟨v,B,C⟩:=m.2 i d q;⟨v,B,CD r j _ _ C⟩⟩
    |bk E=>cases y<;>first|exact m.elim|exact⟨m.1,λi d q=>let ⟨v,B,C⟩:=m.2 i d q;⟨v,B,CD r j _ _ C⟩⟩
    |ct E=>cases y<;>first|exact m.elim|exact⟨m.1,λi d q=>let ⟨v,B,C⟩:=m.2 i d q;⟨v,B,CD r j _ _ C⟩⟩
    |rt ϊ=>cases y<;>first|exact m.elim|exact CD r j _ _ m) A
   refine dc (h t N st H ⟨λb e=>∃ k c,e a=BD (Ϩ k$ ϝ c)/\D.nx b (Yb e a$ ϝ c),λv e=>∃ k c,e a=BD (Ϩ k$ ϝ c)/\D.rt v (Yb e a$ ϝ c),λb e=>∃ k c,e a=BD (Ϩ k$ ϝ c)/\D.bk b (Yb e a$ ϝ c),λb e=>∃ k c,e a=BD (Ϩ k$ ϝ c)/\D.ct b (Yb e a$ ϝ c)⟩ I ⟨ϋ,P,Q,K,G,q.imp λy e z=>?_⟩) (λS s' z=>?_) λ_ _ z=>z
   ·obtain⟨k,c,j,l,J,d,x,m⟩:=z;cases y with
    |nx b=>exact⟨k,c,j,l⟩
    |rt v=>exact⟨k,c,j,l⟩
    |bk b=>exact⟨k,c,j,l⟩
    |ct b=>exact⟨k,c,j,l⟩
    |xc b cls fd=>cases d<;>first|exact m.elim|cases x
   ·cases S with
    |next=>obtain⟨b,e,w,k,c,j,l⟩:=z;exact⟨b,_,w.kt j F,l⟩
    |brk=>obtain⟨b,e,w,k,c,j,l⟩:=z;exact⟨b,_,w.kt j F,l⟩
    |cont=>obtain⟨b,e,w,k,c,j,l⟩:=z;exact⟨b,_,w.kt j F,l⟩
    |ret u=>obtain⟨v,b,e,w,W,k,c,j,l⟩:=z;exact⟨v,b,_,w.kt j F,W,l⟩
  ·exact p A
 ·exact p A
set_option tactic.hygienic true in
def E5(h:FE T X e g):FE T X e$ IG f g:=by
 intro c s st H Q I k;obtain⟨t,w,x,p,l,i⟩:=k;have b:=λq=>h c s st H Q I ⟨t,w,x,p,l,q⟩;unfold IG cu at i;split at i
 ·rename_i n _ _
  split at i
  ·rename_i F B
   obtain⟨a,E,N,r,_⟩:=l.obs n _ B;have C:∀ o u,X.H₀ a≠BD _:=λo u z=>by have:=I.base.Uh a o u z;rw[r]at this;cases this
   refine dc (h c s st H _ I ⟨t,w,x,p,l,(YW E r (λϋ y d v G L j m _ J=>CD j m d v J) i)⟩) (λu P z=>?_) λ_ _ z=>z;obtain⟨v,y,A,K,G,L,m,k,_⟩:=z;exact⟨v,_,A.kt m C,K,k⟩
  ·exact b i
 ·exact b i
end
noncomputable def sI(d:Addr)(b:Obj)(a:List$ Bd × V):It:=
 ⟨λi H=>H d=BD (Ϩ b$ ϝ a)/\∃ x,a[i]?=BD x,λi H v c=>c=H/\∃ k x,v=kV k/\a[i]?=BD (k,x),λi H=>H d=BD (Ϩ b$ ϝ a)/\i=a.length⟩
def ZY{P:Ca}{w:Ua}{K:ϕ}{tg:Qa}(d f:Addr)(U:Obj)(p:List$ Bd × V)(a0:d≠f){es:Array zE}{R:Nat}(n:U.data=.dict es R) :
  Vm P w K tg (sI d U p) [f] f (λi h=>h.IsKeyIter f d i p.length R) where
 mem:=by simp
 obj:=λi h st b j=>by
  obtain rfl:b=f:=by simpa using j
  obtain⟨o,e,c,Q⟩:=st
  simp_all
 keep:=λi h h' st k=>st.at λo e=>k f ⋯ o e
 item:=by
  intro X F N D S i g s ό H E I r st J;subst F N D;obtain⟨G,⟨k,x⟩,T⟩:=J;obtain⟨vs,v,t,a,l,L⟩:=Vh I G;rw[n]at l;cases l;obtain⟨u,hu,ru⟩:=NM a i T;rw[a.length]at st;obtain⟨y,z,f2,A,B,C⟩:=r f ⋯;refine wpAny_pyNext_dict_item st L hu λϋ h' m q M=>?_;have ϊ:db X g ό H { s with heap:=h' }:=I.turned (λb o j e=>M.extBut b o j e) y z A B C;obtain⟨o,e,c,Q⟩:=id q;exact⟨ϋ,rfl,dI e c Q ⋯ ⟨kV k,H,ϊ,vW m,⟨rfl,k,x,rfl,T⟩,by rw[a.length];exact q,λb j=>(r b j).1⟩⟩
 done:=by
  intro X F N D S i g s ό H E I r st J;subst F N D;obtain⟨G,hi⟩:=J;obtain⟨vs,v,t,a,l,L⟩:=Vh I G;rw[n]at l;cases l;rw[a.length]at st hi;obtain⟨y,z,f2,A,B,C⟩:=r f ⋯;exact wpAny_pyNext_dict_end (I.ok.hd S) st L ⋯ λh' eb=>⟨rfl,I.turned (λb o j e=>eb b o j e) y z A B C⟩
 self:=λO O O O O st h=>wpAny_pyIter_keyiter st h
noncomputable def BC(a:List$ Bd × D):NX:=λi b=>match a[i]? with
 |some p=>BD (BD$ MC p.1)
 |none=>if i=a.length then BD Α else Α
def UH(d:D):M NX:=λb=>match d with
 | O n=>(match b[n]? with
  |some (ώ a)=>Y (BC a) (b.set n$ ϧ a)
  |some (ϧ a)=>Y (BC a) b
  |_=>Ϙ)
 |_=>Ϙ
def oC(f:Ev->M D):Ev->M NX:=λa=>Rc (f a) UH
section
variable{tg:Qa}
def SR(n:H a=BD (Ϩ k$ ϝ b))(o:Di T l H e b):yz T l H (BC e)$ sI a k b:=by
 intro s v t i ex r;have g:=ex.zd _ _ _ n;have d:=Di.mono ex o;unfold BC;cases m:e[i]? with
 |none=>
  by_cases h:i=e.length
  ·rw[ka h];exact⟨g,by rw[h];exact Paired.length d⟩
  simp_all
 |some p=>
  obtain⟨q,j,f,x⟩:=dJ d i m;refine⟨⟨g,q,j⟩,λz u y=>?_⟩;obtain⟨rfl,w,A,rfl,c⟩:=y;rw[j]at c;cases c;exact⟨ϰ _ _,r,by rw[f];exact BM _⟩
def k6(e:TE):TI:=λf H R=>e f H λv c=>∃ a b,v=ϗ a/\Rd c a (ϝ b)/\∀ d,c a=BD (ϝ b)\/c a=BD (Ϩ d$ ϝ b)->R (sI a d b) (Yb c a$ Ϩ d$ ϝ b)
def ŷ(A:PE X d p):PI X tg d$ k6 p:=by
 intro g s r H R I h;refine Fd (A g s r H _ I h) λv s1 ſ=>?_;obtain⟨x,H1,k,D,C⟩:=ſ;obtain⟨a,i,rfl,c,q⟩:=C;cases D;obtain⟨_,B,_⟩:=gu k.Lc c;obtain⟨f,m,l⟩:∃ f,(H1 a=BD _\/H1 a=BD (Ϩ f _))/\db X g r (Yb H1 a$ Ϩ f _) s1:=by
  rcases c with c|⟨f,c⟩
  ·obtain⟨_,_,E,j,o,w,u,e,_⟩:=k.Lc a _ c;exact⟨o,ϑ c,k.freeze c e⟩
  ·exact⟨f,ϖ c,by rw[CA c];exact k⟩
 obtain⟨E,w,u,j,t,n⟩:=Vh l Lf;refine wpAny_pyIter_dict B n ⟨s1.heap.objs.size,[s1.heap.objs.size],_,sI a f i,_,rfl,l.kept (λb o e=>ja _ e),ZY a _ f i (Ba n.lt_size) t,by rw[j.length];exact⟨_,wI _ _ (λz=>by cases z),rfl,rfl⟩,λb y=>?_,q f m⟩;obtain rfl:b=s1.heap.objs.size:=by simpa using y
 exact l.Nm (ya _)$ l.Lc.fresh$ ya _
def J9(h:FE T X e f):dq T X tg e$ oC f:=by
 intro p s K H R I G;refine ŷ h p s K H R I ?_;obtain⟨L,N,ϋ,C,F,E⟩:=G;refine⟨L,N,ϋ,C,F,E.bind λd y r v A D P x J b=>?_⟩;unfold UH at b;cases d with
 |ref n=>
  dsimp only at b;cases t:y[n]? with
  |none=>rw[t]at b;exact b.elim
  |some o=>
   rw[t]at b;obtain⟨a,rfl,B,l⟩:=x.at J t;cases o with
   |Pa m=>
    obtain⟨q,k,i⟩:=l;refine⟨a,q,rfl,ϑ k,λu D=>?_⟩;have j:Ld r A r$ Yb A a$ Ϩ u$ ϝ q:=At (Da B) k (λD z=>by cases z) (λD D z=>by cases z);have c:=Di.mono j i;exact Xb.here (Xb.mono j b) (x.write (ob:=ϧ m) B ⟨u,q,Lf,c⟩$ λQ z=>by rw[t]at z;cases z).2$ SR Lf c
   |Qc m=>
    obtain⟨w,q,k,i⟩:=l;refine⟨a,q,rfl,ϖ ⟨w,k⟩,λu g=>?_⟩;rcases g with g|g
    ·rw[k]at g;cases g
    ·rw[CA g];exact Xb.here b x$ SR g i
   |_=>exact b.elim
 |_=>exact b.elim
end
def YU:dk T X a Xx:=by rintro pins s st H D I ⟨c,d,σ,_,_,b⟩;exact b.elim
open Classical in
noncomputable def OH(a b:B'):M$ B':=ret$ b++a
def Xu(a:B')(b:Ev->M (B')):Ev->M (B'):=λc=>Rc (b c)$ OH a
def n3(hm:X.mg x=BD (Mb$ T.ca c))(z:Mk T.K (T.ca c) f)(P:fq T.K N ps b)
  (ϋ:Sg X.prog X.w T.K X.mg X.base (qk X.prog X.w) k f N ps$ Mm T ps.length h) (hv:ke d b) (C:∀ y H,ub T y H a d) (U:T.K=X.K) (hr:Nd (k+1) X.A) (hg:Gl X x)
  (ό:FA T X (e::l) i) (B:(x == ("__debug__" : Str))=İ:=by decide) (ϊ:va (e::l) X.env=(İ,Lb e X.env)::va l X.env:=by rfl) (F:(pc g$ va l X.env).any (·.1)=İ:=by rfl) :
  FE T X (ϟ (ϛ x p) (e::l) [] g)$ Kn c ps.length h$ Xu a i:=by
 rw[U]at z ϋ P;rintro m s st H Q I ⟨y,n,o,S,G,hp⟩;have E:Xb T (XE X st) (Oa T) y H (Rc (i n) (λt=>ck c ps.length h$ t++a) o) Q:=by
  have:Kn c ps.length h (Xu a i) n o=Rc (i n) (λt=>ck c ps.length h$ t++a) o:=by
   unfold Kn Xu OH Rc;cases i n o<;>rfl
  simp_all
 refine Ke$ xB I hg hm (Ϲ I.ok.mod.tu z.kp (Fd (ό g m s st H (λJ j=>∀ x u,j x=Α->j u=Α->u≠x->Mm T ps.length h (ϗ x::(J++d)) (Yb (Yb j u$ .own x) x$ .yb (T.ca c) u []) (λv R=>v=.ic/\Q (ϗ x) R) (XE X st)) I ⟨y,n,o,S,G,E.bind λt a1 a0 J j D e1 r1 p1 q1=>?_⟩) λus s1 ⟨J,j,L,r,q⟩=>⟨L.gi,?_⟩) ϊ F) B
 ·have:=sW r1 (ub.append p1$ C _ _) q1
  grind
 ·exact IQ z ϋ hr P hv L r q
def YH(C:X.mg x=BD (Mb$ T.ca c))(t:Mk T.K (T.ca c) f)(h:Rq T X.prog X.w X.mg X.base k f ps n o)(y:a=[]\/a=n)(F:ke d a)(l:∀ G H,ub T G H b d)(s:T.K=X.K)(E:Nd (k+1) X.A)(B:Gl X x)
  (u:FA T X (e::g) q) (j:(x == ("__debug__" : Str))=İ:=by decide) (z:va (e::g) X.env=(İ,Lb e X.env)::va g X.env:=by rfl) (m:(pc i$ va g X.env).any (·.1)=İ:=by rfl) :
  FE T X (ϟ (ϛ x p) (e::g) [] i)$ Kn c ps.length o$ Xu b q:=by
 obtain⟨I,J,v,r⟩:=h;exact n3 C t (by rcases y with rfl|rfl<;>assumption) r F l s E B u j z m
noncomputable def Su{a:Type}(f:D->Option a):B'->Option (List a)
 |[]=>BD []
 |d::ds=>match f d,Su f ds with
  |some k,BD ks=>BD (k::ks)
  |_,_=>Α
noncomputable def qW:D->Option (B')
 | Ϗ ds=>BD ds
 |_=>Α
def Vr:(n:Nat)->D->Option (NK n)
 |0=>Ai
 |n+1=>λd=>match qW d with
  |some ds=>(Su (Vr n) ds).map Sum.inr
  |none=>(Ai d).map Sum.inl
theorem DJ{j:b'}{H:Hp}{n:Nat}{f:D->Option (NK n)}(i:∀ {d:D} {v:V} {k:NK n},Oa T j H d v->f d=BD k->NR H n k v):∀ {a:B'} {c:lv} {ks:List$ NK n},ub T j H a c->Su f a=BD ks->Paired (NR H n) ks c
 |[],c,ks,h,e=>by rw[ub]at h;cases e;subst h;exact Ϡ
 |d::a,c,ks,h,e=>by
  obtain⟨v,r,rfl,l,m⟩:=h;unfold Su at e;cases b:f d with
  |none=>rw[b]at e;cases e
  |some k=>
   cases g:Su f a with
   |none=>rw[b,g]at e;cases e
   |some o=>rw[b,g]at e;cases e;exact Ϟ (i l b)$ DJ i m g
theorem yU{i:b'}{H:Hp}:∀ (n:Nat) {d:D} {v:V} {k:NK n},Oa T i H d v->Vr n d=BD k->NR H n k v
 |0,_,_,_,r,e=>cx r e
 |n+1,d,v,k,r,e=>by
  cases c:qW d with
  |some ds=>
   simp[Vr,c]at e;obtain⟨ks,a,rfl⟩:=Ga.mp e;cases d<;>cases c;obtain⟨b,h,rfl,g,f⟩:=r;exact⟨b,h,rfl,g,DJ (λr e=>yU n r e) f a⟩
  |none=>
   simp only[Vr,c]at e;obtain⟨j,a,rfl⟩:=Ga.mp e;exact cx r a
def Zz:B'->Option TK:=Su$ Vr 4
def B5(f:H b=BD (.Sa c))(a:ub T g H d c)(e:Zz d=BD k):NR H 5 (.inr k)$ ϗ b:=⟨b,c,rfl,f,DJ (λr e=>yU 4 r e) a e⟩
noncomputable def PM:Ev->M D:=λb a=>Y (O a.length)$ a++[ϡ []]
def ŝ:FE T X (.Dict [] [] b) PM:=by
 rintro a s f H Q I ⟨h,i,j,g,d,e⟩;exact Ň a s f H Q I λp c=>(e _ _ _ (Bu c) (d.push c ⟨[],Lf,rfl⟩)$ ZA d)
open Classical in
def Lr(ks:List TK)(k:TK):List TK:=if k∈ks then ks else ks++[k]
open Classical in
theorem M5 a(k:TK) v:(Rl a k v).map (·.1)=if k∈a.map (·.1)then a.map (·.1)else a.map (·.1)++[k]:=by
 unfold Rl;by_cases h:k∈a.map (·.1)
 ·have:(a.any λc=>decide$ c.1=k)=G6:=by
   obtain⟨p,b,e⟩:=wa.mp h;exact Uc.mpr ⟨p,b,by simpa using e⟩
  rw[ka this,ka h,Ta];refine Md λp b=>?_;show (if p.1=k then (p.1,v)else p).1=p.1;split<;>rfl
 ·have:¬ (a.any λc=>decide$ c.1=k)=G6:=λz=>by
   obtain⟨p,b,e⟩:=Uc.mp z;exact h$ wa.mpr ⟨p,b,by simpa using e⟩
  rw[ua this,ua h,wc];rfl
def Ux(c:Ev)(x y:D):M Fl:=λa=>match x,y with
 | O n,Ϗ b=>(match Zz b,a[n]? with
  |some k,BD (ϡ ks)=>if ks.length<lg then Y (ϙ c) (a.set n$ ϡ$ Lr ks k)else Ϙ
  |_,_=>Ϙ)
 |_,_=>Ϙ
def JL(a:Ev)(b:Ev->M D)(x:D):M Fl:=xs a (b a)$ Ux a x
def vL(a:Ev)(c b:Ev->M D)(_:D):M Fl:=xs a (c a)$ JL a b
def CH(f c b:Ev->M D):Ev->M Fl:=λa=>xs a (f a)$ vL a c b
def š(hu:X.A.units+9<cLine)(he:FE T X e f)(ho:FE T X o Q)(hi:FE T X i fi)
  (ό:∀ v,Sj (ϥ o i c) X.env v=(do
   let r <-we [v] (Lb o X.env);let E <-we [v,r] (Lb i X.env)
   ah c
   we [v,r,E] (Xt r E v)
   release [v,r,E] []):=by intro _;rfl)
  (hs:Xk [ϥ o i c] e p.line X.env=pure İ:=by rfl) (hw:Yk [ϥ o i c] e X.env=pure Α:=by rfl)
  (W:(ge [ϥ o i c] X.env).map (·.2)=[Sj (ϥ o i c) X.env]:=by rfl):FS T X (.Assign [ϥ o i c] e p)$ CH f Q fi:=by
 intro m s st H D I hq;refine vO he (cW ho hi (KP hu) ό) hs hw W m s st H D I ?_;obtain⟨μ,K,σ,h,hr,hp⟩:=hq;refine⟨μ,K,σ,h,hr,hp.xs h λd L G v H1 d j r1 q1 p1=>⟨G,K,L,h.mono j,r1,p1.xs (h.mono j) λx N J vo H2 d u r2 q2 p2=>⟨J,K,N,(h.mono j).mono u,r2,p2.xs ((h.mono j).mono u) λy ϋ a0 vi H3 d P S q3 g=>?_⟩⟩⟩;have hx:=Oa.mono P _ _ q2;unfold Ux at g;cases x with
 |ref n=>
  cases y with
  |Sa ys=>
   dsimp only at g;cases w:Zz ys with
   |none=>rw[w]at g;exact g.elim
   |some k=>
    rw[w]at g;cases q:ϋ[n]? with
    |none=>rw[q]at g;exact g.elim
    |some ob=>
     rw[q]at g;cases ob with
     |nc ks=>
      dsimp only at g;by_cases B:ks.length<lg
      ·rw[ka B]at g;obtain⟨a,rfl,hn,U,V,R⟩:=S.at hx q;obtain⟨b,ws,rfl,ϊ,C⟩:=q3;have F:=S.write (o:=.dT$ Rl U k v) (ob:=ϡ$ Lr ks k) hn ⟨_,Lf,by
        subst R;rw[M5];rfl⟩ (λkv z=>by rw[q]at z;cases z)
       have l:U.length=ks.length:=by rw[<-R,Ia]
       exact⟨a,_,rfl,Pw.t V (B5 ϊ C w) (by rw[l];exact La B ⋯),g _ (Ϻ st) _ F.1 F.2$ ((h.mono j).mono u).mono P |>.mono F.1⟩
      ·rw[ua B]at g;exact g.elim
     |_=>exact g.elim
  |_=>exact g.elim
 |_=>exact g.elim
open Classical in
def y9{f}{g}{c}{J}(h:gH T f g c J):yz T f g c.nx J:=λl H j i ex r=>by
 have q:=h l H j i ex r;cases e:c.nx i j with
 |none=>trivial
 |some o=>
  rw[e]at q;cases o with
  |none=>exact q
  |some d=>exact⟨q.1,λx k y=>let ⟨a,b⟩:=q.2 x k y;by subst a;exact⟨ϰ _ _,r,b⟩⟩
noncomputable def JE(s:Kh):M NX:=ret s.nx
def zm(f:Ev->M Kh):Ev->M NX:=λa=>Rc (f a) JE
def TQ(h:FI T X c a f):dq T X c a$ zm f:=by
 rintro b s m H R I ⟨n,p,q,d,g,e⟩;exact h b s m H R I ⟨n,p,q,d,g,e.bind λl r o J t l u k j i=>Xb.here i k$ y9 j⟩
def U3{K}
  (hN:X.N.Nodup) (hi:X.N[i]?=BD y) (hx:Loc X.env.scope y)
  (hc:X.Wb=G6) (L:Gj X x M' ix f) (V:dq T X A l ϋ)
  (b5:∀ cl C j h ex,FG T (yn X (x::z0::M') f cl C j h ex) A tg)
  (a8:∀ cl C j h ex,Vv T (yn X (x::z0::M') f cl C j h ex) K fi)
  (S:∀ cl C j h ex,FE T (yn X (x::z0::M') f cl C j h ex) F fe)
  (hs:∀ y,pe l X.env y=pure y:=by intro _;rfl)
  (b3:Bg (Ϸ F [⟨A,l,K,0⟩] f a0) (BD$ ϛ y py) E.line X.env=pure G6:=by rfl)
  (hf:X.fn y=G6\/X.env.scope.names.lookup y=BD .local:=by first|exact .inl rfl|exact .inr rfl|assumption) :
  FS T X (.Assign [ϛ y py] (Ϸ F [⟨A,l,K,0⟩] f a0) E)$ Ye i$ xj ϋ ix tg fi fe:=by
 rintro B s st H D I ⟨μ,ρ,σ,hE,hr,b1⟩;have hp:Xb T _ _ μ H (xj ϋ ix tg fi fe ρ σ) (λv Q=>D.nx _ Q):=b1.xs hE λd a3 a2 v Q d e1 r1 q1 p1=>Xb.here (g:=Ϻ$ st.set i$ BD v) p1 r1$ (hE.mono e1).set i q1;rw[exec_Assign_Name_used _ _ _ _ b3];refine aa$ qr$ aa ?_;refine aa (dc (yr rfl hs (kO X.env f$ Wx I L) L.kind (λy hy e=>?_)
  ?_) (λd s' hq=>ga$ ga hq) λd d e=>e)
 ·have q:=gb.mp L.names y hy;rw[e]at q;exact eq_of_beq q
 have h1:=V B s st H (λJ t=>∃ nx k a4,Ld μ H k t/\vd T k t a4/\yz T k t nx J/\Xb T (XE X st) (Oa T) k t _ (λv Q=>D.nx (st.set i$ BD v) Q)) I
  ⟨μ,ρ,σ,hE,hr,hp.bind λnx a3 a2 J Q d e1 r1 q1 p1=>⟨nx,a2,a3,e1,r1,q1,p1⟩⟩
 refine Fd h1 λv s1 h2=>Fd h2 λb8 s2 h3=>?_;obtain⟨it,fp,tn,J,t,rfl,I2,TT,a1,f2,nx,k,a4,a5,r2,so,p2⟩:=h3;refine qc$ Rj (EC L) (by intro y hy;simp at hy) (λW u w=>?_) L.kind;have P:=I2.Uy (t':=s2.toks) Ϡ ⋯;have R:t s2.heap.objs.size=Α:=I2.Lc.fresh$ ya _;have G:Ld k t (k++[s2.heap.objs.size])$ Yb t s2.heap.objs.size$ ϱ []:=Bu R;have b4:s2.heap.objs.size<(s2.heap.push { cls:=Jh "list",data:=Ϧ [].toArray }).objs.size:=by rw[Yc];exact Sb _
 have kp:∀ b o,(s2.heap.push { cls:=Jh "list",data:=Ϧ [].toArray }).get? b=BD o->W.get? b=BD o:=λb o e=>w.extBut b o (Ba$ za e)$ ja _ e;have n:∀ b∈fp,Ak X B (Yb t s2.heap.objs.size$ ϱ []) b/\b<(s2.heap.push { cls:=Jh "list",data:=Ϧ [].toArray }).objs.size:=λb m=>by
  obtain⟨o,e,_⟩:=TT.obj 0 _ a1 b m;have lt:=za e;exact⟨⟨by rw[Dd$ Ba lt];exact(f2 b m).1,(f2 b m).2⟩,Pp lt b4⟩
 refine YT hc L b5 a8 S P n u kp TT (TT.keep 0 _ _ a1 λb m o e=>kp b o$ ja _ e)
  (λμ H σ i ex r=>so μ H σ i (G.trans ex) r) ((hE.mono a5).mono G) (r2.push (ob:=ϐ []) R ⟨[],Lf,ub.nil⟩) (by rw[<-r2.len];simp) (p2.mono G) (λs6 H' m6 a9 a6 b6 b0 U a7 hq=>?_)
 have ϊ:X.env.locals<(s2.heap.push { cls:=Jh "list",data:=Ϧ ([]:dl).toArray }).objs.size:=P.lt;have ό:∀ z c,X.env.cells.lookup z=BD c->c<(s2.heap.push { cls:=Jh "list",data:=Ϧ ([]:dl).toArray }).objs.size:=λz c e=>by
  obtain⟨v,q⟩:=P.cell z c e;exact q.lt
 refine DB$ ZR (v:=ϗ s2.heap.objs.size) (L2.db.ot (s':=s6) (ch:=fp) P b0 b6 U a7$ λb m=>⟨(n b m).1.2.2.2.1,(n b m).1.2.1,(n b m).1.2.2.2.2.1,(n b m).1.2.2.2.2.2⟩) hN hi hx rfl (λs7 I7 ſ=>?_) hf;obtain⟨a,sb,ha⟩:=ſ;have b7:a≠(s2.heap.push { cls:=Jh "list",data:=Ϧ ([]:dl).toArray }).objs.size:=by
  rcases ha with rfl|ha
  ·exact Ba ϊ
  ·exact Ba$ ό _ _ ha
 refine⟨m6,a9.sameBut sb$ Vd b7,λh8 b2=>⟨st.set i$ BD$ ϗ s2.heap.objs.size,H',?_,hq⟩⟩;exact I7.turned (t':=s7.toks) (it:=(s2.heap.push { cls:=Jh "list",data:=Ϧ ([]:dl).toArray }).objs.size) (λb o m e=>(b2.2 b m).trans e) a6 (Td ϊ) (ϖ$ Ya P.sz$ ya _) (λz c e=>Ba$ ό z c e) (λp hp=>Ba$ za (P.pin p hp).1)
structure Jl(K:ϕ)(C:Addr):Prop where
 f:W.findIn K (Mb C) "__eq__" = BD (BD (ϣ "object.__eq__"))
 o:W.mroIn K C (Jh "object")=BD G6
section
variable{prog:Ca}{w:Ua}{K:ϕ}{A:Na}{E:Value->Shared->Prop}{h:Heap}{g:Array vh}{d:Vn}{t:Nat}{os:Yt}{x y C D:Addr}{ox oy:Obj}
def nP{M}(X:K.In h)(f:W.findIn K (Mb C) a=BD r)(e:h.get? x=BD ox)(b:ox.cls=Mb C)(c:Q r ⟨h,g,d,t,os⟩):wpAny M A (specialOf (Mb x) a) Q E ⟨h,g,d,t,os⟩:=by
 unfold specialOf;repeat (first|(with_reducible refine Qd e ?_;rw[b])|(with_reducible refine W.Looks.at (W.looks_findIn X f) ?_)|wp_step)
 exact c
def iU(X:K.In h)(c:Jl K C)(n:h.get? x=BD ox)(l:ox.cls=Mb C)(r:h.get? y=BD oy)(i:x≠y)(q:Q .notImplemented ⟨h,g,d,t,os⟩) :
  wpAny (model prog w) A (call (ϣ "object.__eq__") [Mb x,Mb y]) Q E ⟨h,g,d,t,os⟩:=by
 refine Ki$ Pj vl.eq.plain tJ ?_;have j:=UO (Mb x)$ Mb y;have f:=W.looks_mroIn (M:=model prog w) X c.o;have b:ox.cls≠ Jh "tuple":=by rw[l];intro e;cases e
 simp only[AE,VO,uJ];refine aa ?_;unfold Pz;have s:∀ (k:Unit->Shared->Prop),k () _->wpAny (model prog w) A (match fg "object.__eq__" with|some sig=>Jf "object.__eq__" sig ⟨[Mb x,Mb y],[]⟩|none=>pure ()) k E ⟨h,g,d,t,os⟩:=λk m=>by
  cases a:fg "object.__eq__" with
  |none=>exact ga m
  |some sig=>
   simp only[Vp,a]at j;have p:Jf "object.__eq__" sig ⟨[Mb x,Mb y],[]⟩=pure ():=j;show wpAny _ A (Jf "object.__eq__" sig ⟨[Mb x,Mb y],[]⟩) k E _;rw[p];exact ga m
 repeat (first|(with_reducible refine Qd n ?_;rw[l])|(with_reducible refine W.Looks.at f ?_)|(with_reducible refine Li i n r b ?_)|wp_step)
 exact q
def QG(X:K.In h)(c:Jl K C)(e:h.get? x=BD ox)(b:ox.cls=Mb C)(j:h.get? y=BD oy)(a:x≠y)(i:Q Α ⟨h,g,d,t,os⟩) :
  wpAny (model prog w) A (Qz (Mb x) "__eq__"$ Mb y) Q E ⟨h,g,d,t,os⟩:=by
 refine aa ?_;simp only[Hx,Ix];refine gc$ aa$ aa$ nP X c.f e b ?_;simp only[vl.eq.bind];refine aa$ zg$ wpAny_ite ?_;split
 ·exact aa$ ga$ ga$ aa$ iU X c e b j a$ ga$ ga i
 ·exact ze$ aa$ ga$ ga$ aa$ iU X c e b j a$ ga$ ga i
def Ŏ(X:K.In h)(c:Jl K C)(o:Jl K D)(q:W.mroIn K D (Mb C)=BD İ)(f:h.get? x=BD ox)(k:ox.cls=Mb C)(i:h.get? y=BD oy)(b:oy.cls=Mb D)(j:C≠D)(r:A.units<cLine)(p:Q (Dg İ) ⟨h,g,d,t,os⟩) :
  wpAny (model prog w) A (Pb .Eq (Mb x)$ Mb y) Q E ⟨h,g,d,t,os⟩:=by
 have a:x≠y:=λe=>by
  simp_all
 have m:ox.cls≠ Jh "tuple":=by rw[k];intro e;cases e
 have n:=W.looks_mroIn (M:=model prog w) X q;have l:(Mb C != Mb D)=G6:=by simp[j]
 show wpAny _ A (Vj .Eq (Mb x)$ Mb y) Q E _;simp only[Vj,Lz,Rt];repeat (first|with_reducible refine Tp r ?_|(with_reducible refine Qd f ?_;rw[k])|(with_reducible refine Qd i ?_;rw[b])|(rw[l,ka rfl];with_reducible refine aa$ W.Looks.at n ?_)|(with_reducible refine W.Looks.at n ?_)|(with_reducible refine QG X c f k i a ?_)|(with_reducible refine QG X o i b f (Vd a) ?_)|(with_reducible refine Li a f i m ?_)|wp_step)
 exact p
end
def PP(K:ϕ):R2:=λv u H Q=>∃ x y C D a b c gs,v=ϗ x/\u=ϗ y/\H x=BD (.yb C a c)/\H y=BD (.yb D b gs)/\Jl K C/\Jl K D/\W.mroIn K D (Mb C)=BD İ/\C≠D/\Q (Ϭ İ) H
def fG(K:ϕ)(a:Nat->Addr)(l:List$ Nat × Nat):Prop:=∀ p∈l,Jl K (a p.1)/\Jl K (a p.2)/\W.mroIn K (a p.2) (Mb$ a p.1)=BD İ/\a p.1≠a p.2
def zu3{K}:fG K a []:=λb h=>nomatch h
def lL{K}(a:Jl K$ e c)(b:Jl K$ e d)(m:W.mroIn K (e d) (Mb$ e c)=BD İ)(n:e c≠e d)(r:fG K e l):fG K e$ (c,d)::l:=λp f=>by
 rcases Ea.mp f with rfl|f
 ·exact⟨a,b,m,n⟩
 ·exact r p f
def Ő(E:X.A.units+9<cLine):yh X (Pb .Eq)$ PP X.K:=by
 intro b s st H v u m p Q I o n h;obtain⟨x,y,C,D,r,z,B,gs,rfl,rfl,f,i,c,e,j,a,q⟩:=h;obtain rfl:m=Mb x:=o;obtain rfl:p=Mb y:=n;obtain⟨_,_,_,k,_⟩:=(show Cj X.prog X.w H s.heap x _ from I.Lc x _ f)
 obtain⟨_,_,_,l,_⟩:=(I.Lc y _ i)
 obtain⟨h,g,d,t,F⟩:=s;exact Ŏ I.gi c e j k rfl l rfl a ⋯ ⟨Ϭ İ,H,I,rfl,q⟩
def zO(x y:D):M D:=λa=>match x,y with
 | .gt ss,.gt c=>(match Gk (xi a 0) (ss.map ϔ) (c.map ϔ)with
  |some b=>Y (ϒ b) a
  |none=>Ϙ)
 |_,_=>Ϙ
def õ(F:T.K=X.K)(U:X.A.units+9<cLine):yh X (Pb .Eq)$ rD T zO:=by
 intro c s st H v u k ό Q I N M h;apply b_;intro z_;obtain⟨E,l,S,x,y,r,g,i,a⟩:=h;unfold zO at a;apply z_;cases x with
 |gt ss=>
  cases y with
  |gt j=>
   dsimp only at a;cases e:Gk (xi S 0) (ss.map ϔ) (j.map ϔ)with
   |none=>rw[e]at a;exact a.elim
   |some b=>
    rw[e]at a;rw[Oa]at g i;obtain⟨p,rfl,d⟩:=g;obtain⟨q,rfl,f⟩:=i;rw[F]at d f;cases N;cases M;obtain⟨V,G,ϋ,_⟩:=L2.db.tuple I (ϖ d);obtain⟨W,J,P,_⟩:=L2.db.tuple I (ϖ f);obtain⟨B,C⟩:=iM (A:=X.A.in1) (λx y v w k R b m n o t z=>LG I r 0 X.A.in1 x y v w k R b (by show X.A.units+1+0+1<cLine;lia) m n o t z) (DE (T:=T) (μ:=l) (H:=H) ss) (DE j) G J e;have L:Gg X.A s (Mb p) (Mb q) b:=by rw[C];exact .tuples ϋ P ⋯ B
    exact L X.prog X.w X.xe (EP X c st Q) ⟨Ϭ b,H,I,rfl,Xb.here a r (by rw[Oa])⟩
  |_=>exact a.elim
 |_=>exact a.elim
section
variable{prog:Ca}{w:Ua}{K:ϕ}{A:Na}{E:Value->Shared->Prop}{h:Heap}{g:Array vh}{d:Vn}{t:Nat}{os:Yt}{x y C:Addr}{ox oy:Obj}
def mU(X:K.In h)(c:Jl K C)(m:h.get? x=BD ox)(j:ox.cls=Mb C)(l:Q (Dg G6) ⟨h,g,d,t,os⟩) :
  wpAny (model prog w) A (call (ϣ "object.__eq__") [Mb x,Mb x]) Q E ⟨h,g,d,t,os⟩:=by
 refine Ki$ Pj vl.eq.plain tJ ?_;have e:=UO (Mb x)$ Mb x;have b:=W.looks_mroIn (M:=model prog w) X c.o;simp only[AE,VO,uJ];refine aa ?_;unfold Pz;have n:∀ (k:Unit->Shared->Prop),k () ⟨h,g,d,t,os⟩->wpAny (model prog w) A (match fg "object.__eq__" with|some sig=>Jf "object.__eq__" sig ⟨[Mb x,Mb x],[]⟩|none=>pure ()) k E ⟨h,g,d,t,os⟩:=λk f=>by
  cases a:fg "object.__eq__" with
  |none=>exact ga f
  |some sig=>
   simp only[Vp,a]at e;have i:Jf "object.__eq__" sig ⟨[Mb x,Mb x],[]⟩=pure ():=e;show wpAny _ A (Jf "object.__eq__" sig ⟨[Mb x,Mb x],[]⟩) k E _;rw[i];exact ga f
 repeat (first|(with_reducible refine Qd m ?_;rw[j])|(with_reducible refine W.Looks.at b ?_)|(with_reducible refine wpAny_isSame_ref_self ?_)|wp_step)
 exact l
def D6(X:K.In h)(c:Jl K C)(b:h.get? x=BD ox)(a:ox.cls=Mb C)(e:Q (BD$ Dg G6) ⟨h,g,d,t,os⟩) :
  wpAny (model prog w) A (Qz (Mb x) "__eq__"$ Mb x) Q E ⟨h,g,d,t,os⟩:=by
 simp only[Qz];refine aa ?_;simp only[Hx,Ix];refine gc$ aa$ aa$ nP X c.f b a ?_;simp only[vl.eq.bind];refine aa$ zg$ wpAny_ite ?_;split
 ·exact aa$ ga$ ga$ aa$ mU X c b a$ ga$ ga e
 ·exact ze$ aa$ ga$ ga$ aa$ mU X c b a$ ga$ ga e
end
open Classical in
def ē{K}{a:Nat->Addr}:∀ c∈([]:h8),Jl K (a c):=λb h=>nomatch h
def bO{K}{b:Nat->Addr}(a:Jl K$ b c)(r:∀ x∈l,Jl K (b x)):∀ x∈c::l,Jl K (b x):=λx d=>by
 rcases Ea.mp d with rfl|d
 ·exact a
 ·exact r x d
def Lq(x:D)(xs:B'):M D:=λb=>match x,xs with
 | O n,[Z i]=>(match jf b n with
  |some a=>if 0<=i/\i<1000 then (match a[i.toNat]? with
   |some y=>Y y (b.set n$ ϐ$ a.take i.toNat++a.drop (i.toNat+1))
   |none=>Ϙ)else Ϙ
  |none=>Ϙ)
 |_,_=>Ϙ
def MH:tz T UR Lq:=by
 intro E C H K x xs v b Q r p q h;cases x with
 |ref n=>
  match xs with
  |[Z i]=>
   apply b_;intro z_;rw[ub]at q;obtain⟨w,z,rfl,t,A⟩:=q;rw[ub]at A;subst A;rw[Oa]at t;subst t;unfold Lq at h;apply z_;cases c:jf K n with
   |none=>simp only[c]at h;exact h.elim
   |some J=>
    simp[c]at h;by_cases k:0<=i/\i<1000
    ·rw[ka k]at h;cases f:J[i.toNat]? with
     |none=>simp[f]at h;exact h.elim
     |some y=>
      simp only[f]at h;obtain⟨a,b,rfl,m,j,g⟩:=r.ra p c;obtain⟨u,s,I⟩:=g.get f;have F:=(da.mp s).1;have ex:∀ l,Ld C H C (Yb H a$ ϱ l):=λl=>At (Da m) j (λL z=>by cases z) (λL L z=>by cases z);have B:=r.write (o:=ϱ$ b.take i.toNat++b.drop (i.toNat+1)) (ob:=ϐ _) m ⟨_,Lf,ub.append (ub.take _$ ub.mono (ex _) _ _ g)$ ub.drop _$ ub.mono (ex _) _ _ g⟩;have D:b.eraseIdx i.toNat=b.take i.toNat++b.drop _:=List.eraseIdx_eq_take_drop_succ ..;refine⟨a,b,i,i.toNat,u,rfl,rfl,j,by lia,by lia,?_,s,?_⟩
      ·unfold Es;have G:¬ i<0:=by lia
       simp[G]
       lia
      ·rw[D];exact h _ _ _ B.1 B.2$ Oa.mono (ex _) _ _ I
    ·rw[ua k]at h;exact h.elim
  |[]=>exact h.elim
  |d::e::l=>cases d<;>exact h.elim
  |[Ϛ]=>exact h.elim
  |[ϒ _]=>exact h.elim
  |[ϔ _]=>exact h.elim
  |[Ϗ _]=>exact h.elim
  |[ύ _]=>exact h.elim
  |[O _]=>exact h.elim
  |[ϯ _]=>exact h.elim
  |[ϻ ..]=>exact h.elim
  |[.Gq ..]=>exact h.elim
  |[ϩ ..]=>exact h.elim
  |[.gt ..]=>exact h.elim
 |_=>cases xs<;>exact h.elim
section
variable{prog:Ca}{w:Ua}{K:ϕ}{A:Na}{E:Value->Shared->Prop}{h:Heap}{g:Array vh}{d:Vn}{t:Nat}{os:Yt}{x y C:Addr}{ox oy:Obj}
def FZ(X:K.In h)(c:Jl K C)(f:h.get? x=BD ox)(i:ox.cls=Mb C)(l:h.get? y=BD oy)(j:oy.cls=Mb C)(o:A.units<cLine)(p:x=y->Q (Dg G6) ⟨h,g,d,t,os⟩)(b:x≠y->Q (Dg İ) ⟨h,g,d,t,os⟩) :
  wpAny (model prog w) A (Pb .Eq (Mb x)$ Mb y) Q E ⟨h,g,d,t,os⟩:=by
 have m:ox.cls≠ Jh "tuple":=by rw[i];intro e;cases e
 have k:(Mb C != Mb C)=İ:=by simp
 show wpAny _ A (Vj .Eq _ _) Q E _;by_cases a:x=y
 ·have n:=p a;subst a;simp only[Vj,Lz,Rt];repeat (first|with_reducible refine Tp o ?_|(with_reducible refine Qd f ?_;rw[i])|(rw[k,ua zb])|(with_reducible refine D6 X c f i ?_)|wp_step)
  exact n
 ·have b:=b a;simp only[Vj,Lz,Rt];repeat (first|with_reducible refine Tp o ?_|(with_reducible refine Qd f ?_;rw[i])|(with_reducible refine Qd l ?_;rw[j])|(rw[k,ua zb])|(with_reducible refine QG X c f i l a ?_)|(with_reducible refine QG X c l j f (Vd a) ?_)|(with_reducible refine Li a f l m ?_)|wp_step)
  exact b
end
def EI(K:ϕ)(a:Nat->Addr)(b c:Value)(l:List$ Nat × Bool):Prop:=∀ p∈l,W.exmAny K (Mb$ a p.1) [b,c]=BD p.2
def ê{K}:EI K a b c []:=λd h=>nomatch h
def lW{K}(h:ϵ K (Mb$ a c) d=BD b)(i:ϵ K (Mb$ a c) e=BD g)(r:EI K a d e l):EI K a d e$ (c,b || g)::l:=λp f=>by
 rcases Ea.mp f with rfl|f
 ·simp[W.exmAny,h,i]
 ·exact r p f
def xZ{K}(h:EI K a d f l):∀ c b,sx l c=BD b->W.exmAny K (Mb$ a c) [d,f]=BD b:=λc b e=>h (c,b)$ QK e
def yzm(K:ϕ):R2:=λv u H Q=>PP K v u H Q\/∃ x y C a b c gs,v=ϗ x/\u=ϗ y/\H x=BD (.yb C a c)/\H y=BD (.yb C b gs)/\Jl K C/\(x=y->Q (Ϭ G6) H)/\(x≠y->Q (Ϭ İ) H)
noncomputable def ω:dh Fl->dh Fl
 | Y (ϭ v) σ=>Y (ϭ v) σ
 |_=>Ϙ
def NJ(A R:M Fl):D->D->M Fl
 | O i,O j=>λa=>if i=j then ω (A a)else R a
 |_,_=>λb=>Ϙ
def BI(l:List$ Nat × Nat)(b:h8)(A R:M Fl)(x y:D):M Fl:=λa=>match bj a x,bj a y with
 |some (c,_),BD (d,_)=>if (c,d)∈l then R a else if c=d/\c∈b then NJ A R x y a else Ϙ
 |_,_=>Ϙ
def Ww(l:List$ Nat × Nat)(b:h8)(c fr:Ev->M D)(d e:Ev->M Fl):Ev->M Fl:=λa=>xs a (c a) λx=>xs a (fr a)$ BI l b (d a) (e a) x
def EZ(m:X.A.units+9<cLine):yh X (Pb .Eq)$ yzm X.K:=by
 intro a s st H v u b j Q I i f h;rcases h with h|h
 ·exact Ő m a s st H v u b j Q I i f h
 ·obtain⟨x,y,C,r,w,z,gs,rfl,rfl,k,l,c,q,p⟩:=h;obtain rfl:b=Mb x:=i;obtain rfl:j=Mb y:=f;obtain⟨_,_,_,n,_⟩:=(I.Lc x _ k)
  obtain⟨_,_,_,o,_⟩:=(I.Lc y _ l)
  obtain⟨h,g,d,t,B⟩:=s;exact FZ I.gi c n rfl o rfl ⋯ (λe=>⟨Ϭ G6,H,I,rfl,q e⟩) (λe=>⟨Ϭ İ,H,I,rfl,p e⟩)
def x9{A rest}(hu:X.A.units+9<cLine)(ht:fG X.K T.ca l)(hs:∀ c∈P,Jl X.K (T.ca c))(hm:de .Eq b=İ)(hl:FE T X a fl)(hr:FE T X b fr)(ha:dk T X A Q)(m:dk T X rest gr) :
  dk T X (.If (.Compare a [.Eq] [b] p) A [] ό::rest)$ Ww l P fl fr Q gr:=by
 intro B s st H D I hw;refine GX (fY (eL (EZ hu) hl hr hm) ha XQ) m B s st H D I ?_;obtain⟨μ,q,σ,t,V,hp⟩:=hw;refine⟨μ,q,σ,t,V,Xb.xs t hp λx a4 a3 v H1 M L r1 p1 q1=>⟨a3,q,a4,t.mono L,r1,Xb.xs (t.mono L) q1 λy f n u H2 M e2 o p2 e=>?_⟩⟩;have w:=Oa.mono e2 _ _ p1;have h:=(t.mono L).mono e2;unfold BI at e;cases E:bj f x with
 |none=>rw[E]at e;exact e.elim
 |some cf=>
  cases ϋ:bj f y with
  |none=>rw[E,ϋ]at e;exact e.elim
  |some cg=>
   apply b_;intro z_;obtain⟨c,fs⟩:=cf;obtain⟨d,gs⟩:=cg;rw[E,ϋ]at e;dsimp only at e;obtain⟨C,G,ϊ,rfl,R,_⟩:=xx o w E;obtain⟨r,J,ws,rfl,S,_⟩:=xx o p2 ϋ;apply z_;by_cases g:(c,d)∈l
   ·apply b_;intro z_;rw[ka g]at e;obtain⟨z1,z2,z3,z4⟩:=ht _ g;apply z_;exact ϑ ⟨C,r,_,_,G,J,ϊ,ws,rfl,rfl,R,S,z1,z2,z3,z4,İ,rfl,n,q,f,h,o,e⟩
   ·rw[ua g]at e;by_cases U:c=d/\c∈P
    ·rw[ka U]at e;obtain⟨rfl,hc⟩:=U;cases x with
     |ref i=>
      cases y with
      |ref j=>
       apply b_;intro z_;obtain⟨a1,z1,m1⟩:=w;obtain⟨a2,z2,W⟩:=p2;cases z1;cases z2;unfold NJ at e;dsimp only at e;apply z_;by_cases k:i=j
       ·subst k;rw[m1]at W;cases W;rw[ka rfl]at e;refine ϖ ⟨C,C,_,G,J,ϊ,ws,rfl,rfl,R,S,hs c hc,λM=>⟨G6,rfl,n,q,f,h,o,?_⟩,λz=>absurd rfl z⟩;cases N:Q q f with
        |ok F a5=>
         cases F with
         |rt v=>
          rw[N]at e;intro a0 F H' e' r' q';have:=e a0 F H' e' r' q';cases F with
          |rt v=>exact this
          |_=>exact q'.elim
         |_=>rw[N]at e;exact e.elim
        |_=>rw[N]at e;exact e.elim
       ·rw[ua k]at e;refine ϖ ⟨C,r,_,G,J,ϊ,ws,rfl,rfl,R,S,hs c hc,λz=>?_,λM=>⟨İ,rfl,n,q,f,h,o,e⟩⟩;subst z;obtain⟨i1,i2⟩:=da.mp m1;obtain⟨j1,j2⟩:=da.mp W;exact absurd ((Iu o.nd).mp$ i2.trans j2.symm) k
      |_=>exact e.elim
     |_=>exact e.elim
    ·rw[ua U]at e;exact e.elim
end L4
set_option maxHeartbeats 0
namespace K51
open Spec L2 L4
noncomputable def yi(i:Nat):Stmt:=PySem.Challenge.pw_sidebook_k51_the_road.main.body.getD i$ .Pass ⟨0,0,0,0⟩
def JG(K:ϕ):Tab:=⟨Hv K "least_fate",443,35, "least_fate.<locals>.<lambda>"⟩
def LI(K:ϕ):Tab:=⟨Hv K "paper",458,27, "paper.<locals>.<lambda>"⟩
def tx(K:ϕ):Tx:=⟨[JG K,LI K],Xw K⟩
def wU K:JG K∈(tx K).Pm:=(.head _)
def qP K:LI K∈(tx K).Pm:=(.tail _$ .head _)
def ι K:∀ t∈(tx K).Pm,∃ x∈[("least_fate" : Str),("paper" : Str)],t.P=Hv K x:=by
 intro t a;have h:t∈[JG K,LI K]:=a;simp only[Ea,kc,Qg]at h;rcases h with rfl|rfl
 ·exact⟨"least_fate",by simp,rfl⟩
 ·exact⟨"paper",by simp,rfl⟩
inductive Al{α:Type}(P:α->Prop):List α->Prop
 |n:Al P []
 |c {x:α} {l:List α} (h:P x) (t:Al P l):Al P (x::l)
def Al.get{P}{l:List a}(h:Al P l):∀ x∈l,P x:=by
 induction h with
 |n=>simp
 |c h _ i=>simp_all
inductive pA(E:ac):List Arg->ac->ac->Prop
 |nil:pA E [] [] E
 |cons {x:Str} {a:Option Qa} {p:Zd} {as:List Arg} {ps N:ac} (t:pA E as ps N):pA E (⟨x,a,p⟩::as) (x::ps) (x::N)
def pA.map(h:pA E a ps N):a.map (·.arg)=ps:=by
 induction h<;>simp_all
noncomputable def fX:Stmt->Str
 | .FunctionDef x _ _ _ _ _ _ _ _ _=>x
 |_=>""
inductive qw(E:ac):Stmt->Str->ac->ac->Prop
 |mk {x as ps N a b c d e f g h i j k l m n} (t:pA E as ps N):qw E (.FunctionDef x ⟨a,as,b,c,d,e,f⟩ g h i j k l m n) x ps N
def HF(K:ϕ)(b:Str->Option Value)(a:Stmt):Prop:=Jr K b (fX a) a ((Qk a).args.map (·.arg))
def HM(K:ϕ)(f:Addr)(a:Stmt):Prop:=∃ q,Os K 0 (fX a) q a ((Qk a).args.map (·.arg)) f
def Q1{K mg x st st' ps}(a:st=st')(d:(fX st',(Qk st').args.map (·.arg))=(x,ps))(h:Jr K mg x st ps):HF K mg st:=by
 subst a;cases d;exact h
def M8{K f x q st st' ps}(a:st=st')(d:(fX st',(Qk st').args.map (·.arg))=(x,ps))(h:Os K 0 x q st ps f):HM K f st:=by
 subst a;cases d;exact⟨q,h⟩
def qw.fn{K mg x E st ps N}(d:qw E st x ps N)(h:HF K mg st):Jr K mg x st ps:=by
 cases d with|mk t=>cases t.map;exact h
def qw.me{K f x E st ps N}(d:qw E st x ps N)(h:HM K f st):∃ q,Os K 0 x q st ps f:=by
 cases d with|mk t=>cases t.map;exact h
def QF{b c:Type}:List c->(List b->Prop)->Prop
 |[],P=>P []
 |_::l,P=>∀ a,QF l λt=>P$ a::t
@[elab_as_elim] theorem QF.ap{b c:Type}:∀ (l:List c) {P:List b->Prop} (u:List b) (_:u.length=l.length) (_:QF l P),P u
 |[],_,[],_,z=>z
 |_::l,_,a::u,h,z=>QF.ap l u (Nat.succ.inj h) (z a)
abbrev IE(x q:Str)(st:Stmt)(ps:ac)(c:dl):Prop:=∀ (t:Addr) (kV b d:Value) (an:Option Addr) (a ct:Value) (s:Shared) (o:Obj) (n:Nat) (us:dl),s.heap.get? t=BD o->o.data=Ϧ c.toArray n->((us++[]).length=ps.length->Oe s (Ϯ x q (Qk st) (uj st) (zf st) (Mb t) kV b d an a ct) ⟨us,[]⟩ (ps.zip$ us++[]))/\((us++c).length=ps.length->Oe s (Ϯ x q (Qk st) (uj st) (zf st) (Mb t) kV b d an a ct) ⟨us,[]⟩ (ps.zip$ us++c))
noncomputable abbrev kT:h8:=[113,8,9,11,57,58,59,100,13,12,15,10,27,29,28,14,30,32,110,115,35,36,17,37,38,39,104,41,42,43,44,105,106,33,34,16,46,47,64,65,66,67,70,40,80,81,82,83,84,85,87,88,89,90,92,93,86,95,101,68,114,116]
noncomputable abbrev bK:List$ Nat × List (Nat × Nat):=[(50,[(0,17)]),(62,[(0,30),(14,44)]),(108,[(2,57),(1,56),(6,61),(12,67),(3,58),(7,62),(8,63),(9,64),(11,66),(14,69),(13,68),(16,71),(17,72),(18,73),(15,70),(5,60)]),(71,[(0,45),(1,46),(2,47)]),(72,[(0,48),(1,49)]),(73,[(0,50),(1,51)]),(74,[(0,52),(1,53)]),(79,[(0,54)]),(111,[(2,81),(10,89),(9,88),(12,91),(13,92),(15,94),(11,90),(3,82)])]
noncomputable abbrev RJ:h8:=[5,6,7,8,9,10,11,12,13,14,15,16]
noncomputable abbrev LD:List$ Str × h8:=[("pots",[9,14,16]),("day",[7,9]),("whole",[5,6,7,8]),("claims",[9,15]),("shown",[9]),("public",[16]),("every",[14,15,16]),("keepers",[16]),("under_way",[16]),("things",[16]),("hand",[15]),("last_look",[14,15]),("gave",[15]),("known",[14,15]),("accounts",[15]),("seen",[15]),("asked",[15]),("finishing",[15]),("pot",[10,11,12,13]),("side",[7,8,10,11,12,13]),("mine",[10,11,12,13]),("grant",[10,11,12,13]),("may",[10,11,12,13]),("strikes",[10,11,12,13])]
noncomputable abbrev BQ:List$ Nat × List (Str × Nat):=[(9,[("made_of",44)]),(15,[("learn",57),("hold",56),("account",61),("holds",67),("words",58),("view_by",62),("view",63),("worth",64),("is_good",66),("wish_for",69),("wish",68),("take_ask",71),("is_as_asked",72),("take_step",73),("take",70),("given",60)]),(13,[("word",52),("agree_of",46),("strike_of",47),("taken",53)]),(12,[("word",50),("agree_of",46),("strike_of",47),("taken",51)]),(11,[("word",48),("agree_of",46),("strike_of",47),("taken",49)]),(10,[("agree_of",46)]),(16,[("keeper",81),("tell_band",89),("send",88),("wish",91),("check_letter",92),("lose",94),("hand_over",90),("deliver",93),("road",82)])]
noncomputable abbrev PV:List$ Str × Int:=[("MOST_AMOUNT",1000000000000),("MOST_COIN",1000000000000),("MOST_DAY",1000000),("MOST_EVERY",50),("MOST_HAND",3),("MOST_NUMBER",1000000),("MOST_POT",2),("MOST_SHARE",2000000000000),("MOST_TIES",6),("MOST_WAIT",100),("MOST_WORD",59)]
structure Uf(K:ϕ)(mg:Str->Option Value)(ca:Nat->Addr):Prop where
 oh:LJ K mg "stand" (yi 31) ["number","shares","ties"] [Ic]
 ae:Jr K mg "first_account" (yi 75) ["pot","side","left","right"]
 Wl:xo K (ca 15) "__init__" "Keeper.__init__" (jt (yi 108) 0) ["self","hand","every","pots","words"] [Ic] (ca 55)
 ll:xo K (ca 16) "__init__" "Hall.__init__" (jt (yi 111) 0) ["self","pots","keeps","every","words"] [Ic] (ca 79)
 ve:Jr K mg "offered" (yi 76) ["account","shares","ties"]
 Nf:Jr K mg "step_to" (yi 107) ["account","one"]
 Se:NH K mg "least_fate" (yi 91) ["lots","every"]
 ej:NH K mg "paper" (yi 94) ["view"]
 Ec:xo K (ca 16) "deliver" "Hall.deliver" (jt (yi 111) 14) ["self","k","stays"] [Dg İ] (ca 93)
 Je:Jr K mg "_law_deed" (yi 117) ["_law_hall","_law_twins","_law_road","_law_draw"]
 vm:Jr K mg "law" (yi 118) ["_law_script"]
 Sh:mg "worth_worth" = mg "worth"
 tf:Al (λi=>HF K mg (yi i)) kT
 tm:Al (λp=>Al (λq=>HM K (ca q.2) (jt (yi p.1) q.1)) p.2) bK
 tc:Al (λc=>L2.jp K (ca c)) RJ
 ta:Al (λp=>Al (λc=>L2.Fv K (ca c) p.1) p.2) LD
 te:Al (λp=>Al (λq=>L2.Wq K (ca p.1) q.1 (ca q.2)) p.2) BQ
 ti:Al (λp=>∃ t,mg p.1=BD (Tn p.2 t)) PV
 ZC:mg "all" = Α
 gz:mg "bool" = Α
 nt:mg "dict" = Α
 yo:mg "enumerate" = Α
 Iw:mg "int" = Α
 ng:mg "isinstance" = Α
 zw:mg "len" = Α
 Ry:mg "list" = Α
 rC:mg "max" = Α
 Yp:mg "min" = Α
 Sm:mg "range" = Α
 Bw:mg "set" = Α
 qo:mg "sorted" = Α
 QC:mg "str" = Α
 GC:mg "sum" = Α
 aq:mg "tuple" = Α
 UC:mg "zip" = Α
 Hy:YD K mg "FIRM" ["won","sure","back"]
 Bt:YD K mg "HELD" ["held"]
 Ej:mg "NoStand" = BD (Mb (ca 1))
 Kq:W.excIn K (ca 1) AX "ValueError.__new__" = G6
 ao:mg "NoDeed" = BD (Mb (ca 2))
 yt:W.excIn K (ca 2) AX "ValueError.__new__" = G6
 uk:ϵ K (Mb (ca 2)) (Mb (ca 2))=BD G6
 Tg:ϵ K (Mb (ca 2)) (Mb (ca 1))=BD İ
 Mj:ϵ K (Mb (ca 1)) (Mb (ca 2))=BD İ
 Hg:ϵ K (Mb (ca 1)) (Mb (ca 1))=BD G6
 vy:mg "Held" = BD (Mb (ca 6))
 Tv:L2.Mk K (ca 6) (ca 17)
 iz:mg "Book" = BD (Mb (ca 9))
 Nv:L2.Mk K (ca 9) (ca 30)
 cz:mg "Calm" = BD (Mb (ca 11))
 Ov:L2.Mk K (ca 11) (ca 45)
 zo:mg "Keeper" = BD (Mb (ca 15))
 Am:L2.Mk K (ca 15) (ca 55)
 Js:mg "Hall" = BD (Mb (ca 16))
 cq:L2.Mk K (ca 16) (ca 79)
 Nq:mg "Offered" = BD (Mb (ca 12))
 Gp:L2.Mk K (ca 12) (ca 45)
 jr:mg "Waiting" = BD (Mb (ca 13))
 Mp:L2.Mk K (ca 13) (ca 45)
 zy:mg "View" = BD (Mb (ca 14))
 av:L2.Mk K (ca 14) (ca 54)
 fj:L4.Jl K (ca 11)
 ak:L4.Jl K (ca 12)
 jk:W.mroIn K (ca 12) (Mb (ca 11))=BD İ
 wk:(ca 11)≠(ca 12)
 Xh:L4.Jl K (ca 13)
 yk:W.mroIn K (ca 13) (Mb (ca 11))=BD İ
 sk:(ca 11)≠(ca 13)
 nk:W.mroIn K (ca 11) (Mb (ca 13))=BD İ
 ik:(ca 13)≠(ca 11)
 tb:wv K ["least_fate","paper"]
 fQ:mg "__builtins__" = BD (Mb (Xw K))
 DC:∀ t∈(tx K).Pm,∀ t'∈(tx K).Pm,t'.P=t.P->t'=t
seal L2.PE L2.PS L2.Eu L2.PT L2.PW L2.PA L2.PI L2.PG
def yN{sc}(a:sc.kind=Ϥ:=by rfl)(b:sc.isCoroutine=İ:=by rfl)(c:sc.isGenerator=İ:=by rfl)(h:N.Nodup/\N.take Q.length=Q/\(∀ x∈Q,sc.names.lookup x=BD .local\/sc.names.lookup x=BD Kc)/\∀ y∈sc.names,y.2≠ xb:=by decide +kernel):Oc N Q sc:=⟨a,b,c,h.1,h.2.1,h.2.2.1,h.2.2.2⟩
def fO{K}(a:Uf K f b)(h:(x,d)∈LD:=by repeat (first|with_reducible exact na|refine ma _ ?_)):qG ⟨K,b,tx K⟩ d x:=λc e=>⟨a.tc.get _$ (by decide +kernel:∀ p∈LD,∀ c∈p.2,c∈RJ) _ h _ (by simpa using e),(a.ta.get _ h).get _ (by simpa using e)⟩
class ZqF (k m:outParam Nat) (x:Str) (ps:outParam (ac)) where
 f:B'->M D
 ok:∀ {P:Ca} {w:Ua} {K:ϕ} {mg:Str->Option Value} {base:Heap} {ca:Nat->Addr},Uf K mg ca->Ii ⟨K,ca,tx K⟩ P w mg base k x ps f
 len:ps.length=m
structure kE(k m n:Nat)(ps:ac) where
 f:B'->M D
 ok:∀ {P:Ca} {w:Ua} {K:ϕ} {mg:Str->Option Value} {base:Heap} {ca:Nat->Addr},Uf K mg ca->qq ⟨K,ca,tx K⟩ P w mg base k (ca n) ps f
 len:ps.length=m
class fh (k m:outParam Nat) (x:Str) (ps:outParam (ac)) (tb:outParam Mt):Prop where
 ok:∀ {P:Ca} {w:Ua} {K:ϕ} {mg:Str->Option Value} {base:Heap} {ca:Nat->Addr},Uf K mg ca->eH ⟨K,ca,tx K⟩ P w mg base k x ps tb
 len:ps.length=m
instance {k m:Nat} {x:Str} {ps:ac}:CoeFun (ZqF k m x ps) λa=>B'->M D:=⟨λq=>q.f⟩
instance {k m:Nat} {x:Str} {a:ac}:CoeOut (ZqF k m x a)$ B'->M D:=⟨λq=>q.f⟩
instance {k m n:Nat} {ps:ac}:CoeFun (kE k m n ps) λa=>B'->M D:=⟨λq=>q.f⟩
instance {k m n:Nat} {a:ac}:CoeOut (kE k m n a)$ B'->M D:=⟨λq=>q.f⟩
abbrev Hb(x:Str)(k:Nat)(N:ac)(st:Stmt)(g:Ev->M Fl):Prop:=∀ {P:Ca} {w:Ua} {K:ϕ} {b:Str->Option Value} {base:Heap} {ca:Nat->Addr} {f:Addr} {a:Value} {A:Na} {outer:List kg} {s:Shared} {H:Hp} {E:XK},Uf K b ca->Nd k (A.deeper$ ag x (zf st) s.heap.objs.size f a)->N.Nodup->dk ⟨K,ca,tx K⟩ (mo (qk P w) P w K b base N x (zf st) f a A outer s H E) (uj st) g
def Dc(n m k i:Nat)(E:ac){x:Str}{st:Stmt}{ps N:ac}{g:Ev->M Fl}(j:yi i=st:=by conv=>lhs;whnf)(f:qw E st x ps N:=by repeat constructor)(hb:Hb x k N st g:=by walk_at "-")(S:Oc N ps$ zf st:=by exact yN)(e:N.length=n:=by rfl)(d:ps.length=m:=by rfl)(c:i∈kT:=by decide +kernel):ZqF (k+1) m x ps:=⟨L4.ee λb=>L4.zd$ Vg n g b,λa=>e ▸ Ii.ee (Ii.zd$ VB (f.fn$ j ▸ a.tf.get i c) S λv v v v v v v h=>hb a h S.nd),d⟩
@[simp] theorem yqz{st}{hs hp hb S hn hm hi}:(Dc n m k i E (x:=x) (st:=st) (ps:=ps) (N:=N) (g:=g) hs hp hb S hn hm hi).f=L4.ee λa=>L4.zd$ Vg n g a:=rfl
def eh(n m k j t i:Nat)(E:ac){x:Str}{st:Stmt}{ps N:ac}{g:Ev->M Fl}{l:List$ Nat × Nat}(r:jt (yi t) i=st:=by conv=>lhs;whnf)(o:qw E st x ps N:=by repeat constructor)(hb:∀ {q:Str},Hb q k N st g:=by walk_at "-")(S:Oc N ps$ zf st:=by exact yN)(f:N.length=n:=by rfl)(e:ps.length=m:=by rfl)(c:(t,l)∈bK:=by repeat (first|with_reducible exact na|refine ma _ ?_))(d:(i,j)∈l:=by repeat (first|with_reducible exact na|refine ma _ ?_)):kE (k+1) m j ps:=⟨L4.ee λb=>L4.zd$ Vg n g b,λa=>let ⟨_,h⟩:=o.me (r ▸ ((a.tm.get (t,l) c).get (i,j) d:HM _ _ (jt (yi t) i)));f ▸ qq.ee (qq.zd$ QQ h S λv v v v v v p=>hb a p S.nd),e⟩
@[simp] theorem yqy{st}{hs hp hb S hn hm hi hj}:(eh n m k j t i E (x:=x) (st:=st) (ps:=ps) (N:=N) (g:=g) (l:=l) hs hp hb S hn hm hi hj).f=L4.ee λa=>L4.zd$ Vg n g a:=rfl
def kf(n m k j t i:Nat)(E:ac){x:Str}{st:Stmt}{ps N:ac}{g:Ev->M Fl}{l:List$ Nat × Nat}(p:jt (yi t) i=st:=by conv=>lhs;whnf)(f:qw E st x ps N:=by repeat constructor)(hb:∀ {q:Str},Hb q k N st g:=by walk_at "-")(S:Oc N ps$ zf st:=by exact yN)(e:N.length=n:=by rfl)(d:ps.length=m:=by rfl)(b:(t,l)∈bK:=by repeat (first|with_reducible exact na|refine ma _ ?_))(c:(i,j)∈l:=by repeat (first|with_reducible exact na|refine ma _ ?_)):kE (k+1) m j ps:=⟨L4.ee$ Vg n g,λa=>let ⟨_,h⟩:=f.me (p ▸ ((a.tm.get (t,l) b).get (i,j) c:HM _ _ (jt (yi t) i)));e ▸ qq.ee (QQ h S λv v v v v v o=>hb a o S.nd),d⟩
@[simp] theorem yq0{st}{hs hp hb S hn hm hi hj}:(kf n m k j t i E (x:=x) (st:=st) (ps:=ps) (N:=N) (g:=g) (l:=l) hs hp hb S hn hm hi hj).f=L4.ee (Vg n g):=rfl
theorem fh.gh k c x(q:kE j m n ps)(r:fh k m x ps b)(e:j<=k:=by decide)(h:(c,l)∈BQ:=by repeat (first|with_reducible exact na|refine ma _ ?_))(g:(x,n)∈l:=by repeat (first|with_reducible exact na|refine ma _ ?_))(d:c∈RJ:=by decide):fh k m x ps$ (c,q.f)::b:=⟨λa=>g6 (T:=⟨_,_,tx _⟩) (a.tc.get _ d) ((a.te.get _ h).get _ g) (q.ok a) e$ r.ok a,r.len⟩
def fh.nil(h:ps.length=m:=by rfl):fh k m x ps []:=⟨λa=>w6,h⟩
section
variable{ca:Nat->Addr}{k m n:Nat}{ps:ac}{x:Str}{p pos pos' apos:Zd}{e o i v:Qa}{es:List Qa}{f g fo fi fv:Ev->M D}{fs:Ev->M (B')}{cs:h8}{pl:Ql Bool}
abbrev TX(X:Cx)(ca:Nat->Addr):Tb:=⟨X.K,ca,tx X.K⟩
def P9[q:ZqF k m x ps](o:Nd n X.A)(c:Uf X.K X.mg ca)(d:FA (TX X ca) X (e::es) fs)(j:k<=n:=by decide)(i:Gl X x:=by exact rfl)(a:(x == ("__debug__" : Str))=İ:=by decide)(g:va (e::es) X.env=(İ,Lb e X.env)::va es X.env:=by rfl)(b:(pc pos$ va es X.env).any (·.1)=İ:=by rfl):FE (TX X ca) X (ϟ (ϛ x p) (e::es) [] pos)$ og m q.f [] fs:=by
 have h:=q.ok (P:=X.prog) (w:=X.w) (base:=X.base) c;have l:=q.len;subst l;exact Yr h rfl (o.mono j) i d a g b
def Ĉ{d}[q:fh k m x ps d](r:Nd n X.A)(g:Uf X.K X.mg ca)(p:FE (TX X ca) X o f)(i:FA (TX X ca) X (e::es) fs)(j:k<=n:=by decide)(b:va (e::es) X.env=(İ,Lb e X.env)::va es X.env:=by rfl)(a:(pc pos$ va es X.env).any (·.1)=İ:=by rfl) (s:Lb (ϟ (Ϝ o x apos) (e::es) [] pos) X.env=(do
   let c <-Lb o X.env
   ah apos.atName
   let (f,first) <-we [c] (lh c x pl)
   km pos f first (pc pos$ va (e::es) X.env) (Fg pos$ Ge [] X.env)):=by rfl):FE (TX X ca) X (ϟ (Ϝ o x apos) (e::es) [] pos)$ Pf d m x f fs:=by
 have h:=q.ok (P:=X.prog) (w:=X.w) (base:=X.base) g;have l:=q.len;subst l;exact fE rfl p h (r.mono j) i b a s
def ĳ{b}[q:fh k m x ps b](g:Nd n X.A)(c:Uf X.K X.mg ca)(e:FE (TX X ca) X o f)(d:k<=n:=by decide) (i:Lb (ϟ (Ϝ o x apos) [] [] pos) X.env=(do
   let a <-Lb o X.env
   ah apos.atName
   let (f,first) <-we [a] (lh a x pl)
   km pos f first (pc pos$ va [] X.env) (Fg pos$ Ge [] X.env)):=by rfl):FE (TX X ca) X (ϟ (Ϝ o x apos) [] [] pos)$ Pf b m x f Bb:=by
 have h:=q.ok (P:=X.prog) (w:=X.w) (base:=X.base) c;have l:=q.len;subst l;exact h9 rfl e h (g.mono d) i
def v8(a:Uf X.K X.mg ca)(c:FE (TX X ca) X e g)(b:Ed e x X.env (Lb e X.env)=Lb e X.env:=by rfl)(d:(x,cs)∈LD:=by repeat (first|with_reducible exact na|refine ma _ ?_)):FE (TX X ca) X (Ϝ e x pos)$ Re (Gc cs x) g:=m3 rfl (fO a d) c b
def Y0(a:Uf X.K X.mg ca)(b:FE (TX X ca) X o fo)(e:FE (TX X ca) X v fv)(d:Bg v (BD$ Ϝ o x pos') pos.line X.env=pure İ:=by rfl)(c:(x,cs)∈LD:=by repeat (first|with_reducible exact na|refine ma _ ?_)):FS (TX X ca) X (.Assign [Ϝ o x pos'] v pos)$ jl cs x fv fo:=yf6 rfl (fO a c) b e d
def iZ(a:Uf X.K X.mg ca)(c:Gl X x:=by exact rfl)(b:(x == ("__debug__" : Str))=İ:=by decide)(d:(x,z)∈PV:=by repeat (first|with_reducible exact na|refine ma _ ?_)):FE (TX X ca) X (ϛ x pos)$ eC$ Z z:=by
 obtain⟨t,h⟩:=a.ti.get _ d;exact î c h ⟨_,rfl⟩ b
end
noncomputable def Ir:Qa->Str
 | ϛ x _=>x
 | ϲ (ϛ x _::_) _ _=>x
 |_=>""
noncomputable def du:Qa->Str
 | ϲ (_::ϛ x _::_) _ _=>x
 |_=>"0"
noncomputable def fr(s:Scope)(p:h8):ac:=p.map λi=>((s.names.filter λy=>y.2 == xb).map (·.1)).getD i ""
section
variable{elt iter tgt:Qa}{ifs:List Qa}{scope:Scope}{pos spos py:Zd}{y:Str}{src:Ev->M NX}{tg:D->Ev->Option Ev}{fi:Ev->M Bool}{fe:Ev->M D}
def ß h c(e:dq T X tgt iter src)(g:(Ir tgt::du tgt::fr scope c).Nodup->∀ cl C b a ex,FG T (yn X (Ir tgt::du tgt::fr scope c) scope cl C b a ex) tgt tg)(f:∀ cl C b a ex,Vv T (yn X (Ir tgt::du tgt::fr scope c) scope cl C b a ex) ifs fi)(d:∀ cl C b a ex,FE T (yn X (Ir tgt::du tgt::fr scope c) scope cl C b a ex) elt fe)(j:(Ir tgt::du tgt::fr scope c).Nodup:=by decide +kernel)(L:Gj X (Ir tgt) (fr scope c) h scope:=by exact⟨rfl,rfl,rfl,rfl,rfl,rfl⟩)(i:X.Wb=G6:=by rfl)(k:∀ y,pe iter X.env y=pure y:=by intro _;rfl):FE T X (Ϸ elt [⟨tgt,iter,ifs,0⟩] scope pos)$ xj src h tg fi fe:=KJ i L e (g j) f d k
def fR i j c(k:X.N.Nodup)(e:dq T X tgt iter src)(h:(Ir tgt::du tgt::fr scope c).Nodup->∀ cl C b a ex,FG T (yn X (Ir tgt::du tgt::fr scope c) scope cl C b a ex) tgt tg)(f:∀ cl C b a ex,Vv T (yn X (Ir tgt::du tgt::fr scope c) scope cl C b a ex) ifs fi)(d:∀ cl C b a ex,FE T (yn X (Ir tgt::du tgt::fr scope c) scope cl C b a ex) elt fe)(o:(Ir tgt::du tgt::fr scope c).Nodup:=by decide +kernel)(n:X.N[i]?=BD y:=by rfl)(q:Loc X.env.scope y:=by first|exact Or.inl rfl|exact Or.inr rfl)(L:Gj X (Ir tgt) (fr scope c) j scope:=by exact⟨rfl,rfl,rfl,rfl,rfl,rfl⟩)(l:X.Wb=G6:=by rfl)(p:∀ y,pe iter X.env y=pure y:=by intro _;rfl)(g:Bg (Ϸ elt [⟨tgt,iter,ifs,0⟩] scope pos) (BD$ ϛ y py) spos.line X.env=pure G6:=by rfl)(m:X.fn y=G6\/X.env.scope.names.lookup y=BD .local:=by first|exact .inl rfl|exact .inr rfl|assumption):FS T X (.Assign [ϛ y py] (Ϸ elt [⟨tgt,iter,ifs,0⟩] scope pos) spos)$ Ye i$ xj src j tg fi fe:=U3 k n q l L e (h o) f d p g m
end
class ZqC (c k m:outParam Nat) (x:Str) (ps:outParam (ac)) (fn:outParam (B'->M D)):Prop where
 ok:∀ {P:Ca} {w:Ua} {K:ϕ} {mg:Str->Option Value} {base:Heap} {ca:Nat->Addr},Uf K mg ca->YR ⟨K,ca,tx K⟩ P w mg base k x c ps fn
 len:ps.length=m
def Ť{X}{d}{c k m n}{ps}{x}{i}{p b}{e}{a}{j}[q:ZqC c k m x ps i](v:Nd n X.A)(o:Uf X.K X.mg d)(r:FA (TX X d) X (e::a) j)(u:k+1<=n:=by decide)(t:Gl X x:=by exact rfl)(f:(x == ("__debug__" : Str))=İ:=by decide)(s:va (e::a) X.env=(İ,Lb e X.env)::va a X.env:=by rfl)(g:(pc b$ va a X.env).any (·.1)=İ:=by rfl):FE (TX X d) X (ϟ (ϛ x p) (e::a) [] b)$ Kn c m i j:=by
 have h:=q.ok (P:=X.prog) (w:=X.w) (base:=X.base) o;have l:=q.len;subst l;exact ĕ h rfl (v.mono u) t r f s g
set_option hygiene false
def wkA(k:String):Lean.MacroM Lean.Term:=
 if k == "_" then `(_) else if k == "?" then `(?_) else if k == "!" then `(by assumption) else if k == "λ" then `(λa a=>rfl) else let r:=(k.drop 1).toString
 if k.front == '\'' then return Lean.Syntax.mkStrLit r else if k.front.isDigit then return Lean.Syntax.mkNumLit k else let i:=λ(k:String)=>Lean.mkIdent ((k.splitOn ".").foldl Lean.Name.str .anonymous)
 if k.front == '.' then let i:=i r;`(.$i:ident) else if k == "@n" then `(by first|assumption|(show List.Nodup (_::_::_);decide +kernel)) else if k == "@o" then `(by first|exact Or.inl rfl|exact Or.inr rfl) else match k.splitOn "=" with
 |[a,b]=>return ⟨.node .none ``Lean.Parser.Term.namedArgument #[Lean.mkAtom "(",Lean.mkIdent (.mkSimple a),Lean.mkAtom ":=",Lean.Syntax.mkNumLit b,Lean.mkAtom ")"]⟩
 |_=>return i k
def wkT(s:String):Lean.MacroM Lean.Term:=do
 let m:=λ(a:List Lean.Term)=>match a.reverse with|f::l=>Lean.Syntax.mkApp f l.toArray|_=>⟨.missing⟩
 let mut t:List$ List Lean.Term:=[[]]
 for k in s.splitOn " " do
  if k == "(" || k == "[" then t:=[]::t
  else match k,t with
   |")",a::b::r=>t:=(m a::b)::r
   |"]",a::b::r=>let a:=a.reverse.toArray;t:=((<- `([$a,*]))::b)::r
   |_,b::r=>t:=((<- wkA k)::b)::r
   |_,_=>pure ()
 return m t.head!
def wkF:List (Lean.TSyntax `tactic)->Lean.MacroM (Lean.TSyntax `tactic)
 |[t]=>pure t
 |t::r=>do let r <- wkF r;`(tactic| first|$t:tactic|$r:tactic)
 |[]=>`(tactic| fail)
def wkR(s:String):Lean.MacroM (Lean.TSyntax `tactic):=do wkF (<- (s.splitOn "|").mapM λt=>do let t <- wkT t;`(tactic| refine' $t))
def wkG(s:String):Lean.MacroM (Lean.TSyntax `tactic):=do
 match s.splitOn ";" with
 |[g,r]=>let g <- wkT g;let r <- wkR r;`(tactic| (guard_target =~ $g;$r:tactic))
 |[g,n,r]=>let g <- wkT g;let n <- wkT n;let r <- wkR r;`(tactic| (guard_target =~ $g;(fail_if_success (guard_target =~ $n));$r:tactic))
 |_=>`(tactic| fail)
def wkL(s:String):Lean.MacroM (Lean.TSyntax `tactic):=do
 match s.splitOn "\n" with
 |g::l=>let g <- wkT g;let r <- wkF (<- l.mapM wkG);`(tactic| (guard_target =~ $g;$r:tactic))
 |_=>`(tactic| fail)
def wkS:=["FE _ _ _ _\nFE _ _ ( .Constant _ _ _ ) _;qD|jG|G1|Q8\nFE _ _ ( .Subscript _ ( .Slice _ _ _ _ ) _ ) _;RY rfl ? ? ?\nFE _ _ ( .Subscript _ _ _ ) _;FE _ _ ( .Subscript ( .Attribute _ _ _ ) _ _ ) _;uO lK ( UJ rfl ) ? ? λ\nFE _ _ ( .Call ( .Name 'len _ ) [ ( .Call ( .Name 'set _ ) _ _ _ ) ] _ _ ) _;M9 rfl rfl rfl ( Uf.zw ! ) rfl ( Uf.Bw ! ) ?\nFE _ _ ( .Call ( .Name 'len _ ) _ _ _ ) _;Ky zc0 ( T3 rfl ) rfl ( Uf.zw ! ) Zv ?\nFE _ _ ( .Call ( .Name 'sum _ ) _ _ _ ) _;Ky ( M7 rfl ) ( ą rfl ) rfl ( Uf.GC ! ) boot_sum ?\nFE _ _ ( .Call ( .Name 'all _ ) _ _ _ ) _;Ky ( ţ rfl ) ( A8 rfl ) rfl ( Uf.ZC ! ) boot_all ?\nFE _ _ ( .Call ( .Name 'isinstance _ ) [ _ ( .Name 'tuple _ ) ] _ _ ) _;eI .tuple ? rfl ( Uf.ng ! ) rfl ( Uf.aq ! ) boot_tuple\nFE _ _ ( .Call ( .Name 'isinstance _ ) [ _ ( .Name 'str _ ) ] _ _ ) _;eI .str ? rfl ( Uf.ng ! ) rfl ( Uf.QC ! ) boot_str\nFE _ _ ( .Call ( .Name 'isinstance _ ) [ _ ( .Name 'int _ ) ] _ _ ) _;eI .int ? rfl ( Uf.ng ! ) rfl ( Uf.Iw ! ) boot_int\nFE _ _ ( .Call ( .Name 'isinstance _ ) [ _ ( .Name 'bool _ ) ] _ _ ) _;eI .bool ? rfl ( Uf.ng ! ) rfl ( Uf.gz ! ) boot_bool\nFE _ _ ( .Call ( .Name _ _ ) _ _ _ ) _;P9 ! ! ?\nFE _ _ ( .Call ( .Attribute _ 'append _ ) _ _ _ ) _;wx Cc dm fm jO kL ? ?\nFE _ _ ( .Call ( .Attribute _ 'extend _ ) _ _ _ ) _;wx Cc gm im vX TW ? ?\nFE _ _ ( .Call ( .Attribute _ _ _ ) ( .cons _ _ ) _ _ ) _;Ĉ ! ! ? ?\nFE _ _ ( .Call ( .Attribute _ _ _ ) [ ] _ _ ) _;ĳ ! ! ?\nFE _ _ ( .Attribute _ _ _ ) _;v8 ! ?\nFE _ _ ( .Tuple _ _ _ ) _;PR ?\nFE _ _ ( .BinOp _ .Add _ _ ) _;px ( rR rfl ) nu ? ?\nFE _ _ ( .BinOp _ .Sub _ _ ) _;px Ü N9 ? ?\nFE _ _ ( .BinOp _ .Mod _ _ ) _;px jW eS ? ?\nFE _ _ ( .BinOp _ .FloorDiv _ _ ) _;px ű þ ? ?\nFE _ _ ( .BinOp _ .Mult _ _ ) _;px Ŵ ybo ? ?\nFE _ _ ( .BinOp _ .Pow _ _ ) _;px w9 U4 ? ?\nFE _ _ ( .Compare _ [ .Eq ] _ _ ) _;Dp ( aO ( Xj ! ) ) nu ? ? ( um _ )\nFE _ _ ( .Compare _ [ .NotEq ] _ _ ) _;Dp ( aV ( Xj ! ) ) nu ? ? ( um _ )\nFE _ _ ( .Compare _ [ .Lt ] _ _ ) _;Dp qL BK ? ? ( um _ )\nFE _ _ ( .Compare _ [ .LtE ] _ _ ) _;Dp NI aJ ? ? ( um _ )\nFE _ _ ( .Compare _ [ .Gt ] _ _ ) _;Dp iX cY ? ? ( um _ )\nFE _ _ ( .Compare _ [ .GtE ] _ _ ) _;Dp nN vM ? ? ( um _ )\nFE _ _ ( .Compare _ [ .Is ] _ _ ) _;Dp MR xS ? ? ( um _ )\nFE _ _ ( .Compare _ [ .IsNot ] _ _ ) _;Dp VV nR ? ? ( um _ )\nFE _ _ ( .Compare _ [ .LtE _ ] _ _ ) _;Β NI aJ NI aJ ? ? ?\nFE _ _ ( .BoolOp .And ( .cons _ ( .cons _ _ ) ) _ ) _;XM ? ?\nFE _ _ ( .BoolOp .Or ( .cons _ ( .cons _ _ ) ) _ ) _;P8 ? ?\nFE _ _ ( .BoolOp _ [ _ ] _ ) _;CJ ?\nFE _ _ ( .UnaryOp .Not _ _ ) _;U6 ?\nFE _ _ ( .UnaryOp .USub _ _ ) _;É T8 F6 ?\nFE _ _ ( .IfExp _ _ _ _ ) _;ě ? ? ?","FA _ _ _ _\nFA _ _ _ _;Rm|Oi ? ?","dk _ _ _ _\ndk _ _ _ _;qu|Bi ?|Od ? ?","FS _ _ _ _\nFS _ _ ( .Return _ _ ) _;Kr ?\nFS _ _ ( .Assign [ ( .Attribute _ _ _ ) ] _ _ ) _;Y0 ! ? ?\nFS _ _ ( .Expr _ _ ) _;Vu ?\nFS _ _ ( .Raise ( some ( .Call ( .Name 'NoStand _ ) _ _ _ ) ) _ _ ) _;IT 1 wl rfl ( Uf.Kq ! ) ( Uf.Ej ! ) rfl rfl ( Oi jG Rm )\nFS _ _ ( .Raise ( some ( .Call ( .Name 'NoDeed _ ) _ _ _ ) ) _ _ ) _;IT 2 wl rfl ( Uf.yt ! ) ( Uf.ao ! ) rfl rfl ( Oi jG Rm )","FT _ _ _ _\nFT _ _ ( .BoolOp _ _ _ ) _;L2.PW.pt ?\nFT _ _ ( .UnaryOp .Not _ _ ) _;UN ?\nFT _ _ ( .Compare _ [ .Eq ] _ _ ) _;Tq ( aO ( Xj ! ) ) nu ? ? ( um _ )\nFT _ _ ( .Compare _ [ .NotEq ] _ _ ) _;Tq ( aV ( Xj ! ) ) nu ? ? ( um _ )\nFT _ _ ( .Compare _ [ .Lt ] _ _ ) _;Tq qL BK ? ? ( um _ )\nFT _ _ ( .Compare _ [ .LtE ] _ _ ) _;Tq NI aJ ? ? ( um _ )\nFT _ _ ( .Compare _ [ .Gt ] _ _ ) _;Tq iX cY ? ? ( um _ )\nFT _ _ ( .Compare _ [ .GtE ] _ _ ) _;Tq nN vM ? ? ( um _ )\nFT _ _ ( .Compare _ [ .Is ] _ _ ) _;Tq MR xS ? ? ( um _ )\nFT _ _ ( .Compare _ [ .IsNot ] _ _ ) _;Tq VV nR ? ? ( um _ )\nFT _ _ _ _;FT _ _ ( .Compare _ _ _ _ ) _;kH ?","FW _ _ _ _\nFW _ _ _ _;X2 ? ?|o8 ? ?|AZ ?|J7 ?","FG _ _ _ _\nFG _ _ ( .Tuple _ _ _ ) _;UM n=2 rfl ?|UM n=3 rfl ?|UM n=4 rfl ?","qA _ _ _ _\nqA _ _ _ _;Z0|znv ? ?","FI _ _ _ _ _\nFI _ _ _ ( .Call ( .Name 'range _ ) [ _ ] _ _ ) _;cZ rfl ( Uf.Sm ! ) ?\nFI _ _ _ ( .Call ( .Name 'range _ ) _ _ _ ) _;lT rfl ( Uf.Sm ! ) ? ?\nFI _ _ _ _ _;cM rfl ?","dq _ _ _ _ _\ndq _ _ _ ( .Call ( .Name 'enumerate _ ) _ _ _ ) _;P7 rfl ( Uf.yo ! ) ?\ndq _ _ _ ( .Call ( .Name 'zip _ ) _ _ _ ) _;g8 rfl ( Uf.UC ! ) ? ?","Vv _ _ _ _\nVv _ _ _ _;oV|mQ ?","L4.FO _ _ _ _\nL4.FO _ _ _ _;η|Ŷ ?"]
def wkM:="A wC LZ ( W5 rfl ) rfl ( Uf.Ry ! ) boot_list ?\nB wC S2 ( C7 rfl ) rfl ( Uf.aq ! ) boot_tuple ?\nC wC rQ N0 rfl ( Uf.nt ! ) boot_dict ?\nD Tq ( FX rfl ( Xj ! ) ) nu ? ? rfl|Dp ( FX rfl ( Xj ! ) ) nu ? ? rfl\nF Jy oq rfl ? ? ?\nH wC rQ w8 rfl ( Uf.nt ! ) boot_dict ?\nI zM ?\nL hZ ?\nN ŝ\nO Ky ( zhv rfl ) ( ï rfl ) rfl ( Uf.qo ! ) L4.dY ?\nQ Ÿ rfl rfl rfl ( Uf.qo ! ) rfl ( Uf.Bw ! ) ?\nR Ť ! ! ?\nT š ( Xj ! ) ? ? ?\na dr ? ? ?\nb dr ? YU ?\nd Qw ( Xj ! ) ? ? λ\nf Vx oq rfl ? ? ?\nh UU ?\ni Tq ( nU ( Xj ! ) ) rP ? ? rfl|Dp ( nU ( Xj ! ) ) rP ? ? rfl\nj Tq ( pT ( Xj ! ) ) GR ? ? rfl|Dp ( pT ( Xj ! ) ) GR ? ? rfl\nl yfh ?\nm KG ( Xj ! ) ? ? ?\nn T4\no XP\ns Tq eN ( JX rfl false ) ? ? rfl|Dp eN ( JX rfl false ) ? ? rfl\nu iZ !\nv ę ?\nx uO lK ( UJ rfl ) ? ? λ\ny TQ ?\nz bM ?"
local macro_rules
 |`(tactic| walk_at $s:str)=>do
  let c:=s.getString.front;let r:=(s.getString.drop 1).toString;let r':=Lean.Syntax.mkStrLit r
  if c == '-' then return <- `(tactic| ((repeat intro _);walk_at "";walk_at $r'))
  if c == '+' then return <- `(tactic| (walk_at "";walk_at $r'))
  let n:=λ(c:Char)=>toString (c.toNat - 48);let (t,r) <-(if c == 'c' || c == 'q' || c == 'r' then (do
   let d:=(r.takeWhile (·!= '.')).toString.toList;let o:=(r.drop (d.length+1)).toString;let j:=n (d.headD '0');let d:=d.drop (if c == 'c' then 0 else 1);let e:=(d.takeWhile (·!= '/')).map n;let p:=((d.dropWhile (·!= '/')).drop 1).map n;let p:=if p.isEmpty then (List.range e.length).map toString else p
   let b:=λ(l:List String)=>l.foldl (·++·++" ") "[ "++"] ";let l:=b e++b p
   return (<- wkR (if c == 'c' then "ß "++l++"? ? ? ?" else if c == 'q' then "Š ( fR "++j++" "++l++"! ? ? ? ? )" else "fR "++j++" "++l++"! ? ? ? ?"),o)) else match (wkM.splitOn "\n").find? (·.front == c) with
    |some t=>return (<- wkR (t.drop 2).toString,r)
    |_=>return (<- wkF (<- (("FE _ _ _ _;Kf #\nFG _ _ _ _;F8 i=# @n rfl @o\nFS _ _ ( .Assign _ _ _ ) _;Tr i=# @n rfl @o ?\n_;vP i=# BS @n rfl @o ?".replace "#" (n c)).splitOn "\n").mapM wkG),r))
  let r:=Lean.Syntax.mkStrLit r;let t <- `(tactic| ($t:tactic<;>walk_at ""));let f:=λu=>`(tactic| first|$t:tactic|(rotate_left;$u:tactic))
  let u <- f (<- f (<- f (<- f t)))
  `(tactic| ($u:tactic;walk_at $r))
local macro_rules
 |`(tactic| walk_at "")=>do
  let r <- wkF (<- wkS.mapM wkL)
  `(tactic| repeat' ((fail_if_success guard_target =~ Ev->_);first
  |$r:tactic
  |(guard_target =~ List.Nodup _->_;intro _ _ _ _ _ _)
  |(intro _ _ _ _ _)))
section
variable{P:Ca}{w:Ua}{K:ϕ}{mg:Str->Option Value}{base:Heap}{ca:Nat->Addr}(a:Uf K mg ca)
include a
instance iG:ZqF 1 2 "_law_cell_at" ["_law_script","_law_k"]:=Dc 2 2 0 113 [] (hb:=by walk_at "-a1001")
instance ZP:ZqF 1 1 "is_whole" ["thing"]:=Dc 1 1 0 8 [] (hb:=by walk_at "-00")
instance mC:ZqF 2 3 "is_between" ["thing","least","most"]:=Dc 3 3 1 9 [] (hb:=by walk_at "-0102")
instance bS:ZqF 3 1 "is_hand" ["thing"]:=Dc 1 1 2 11 [] (hb:=by walk_at "-0u")
instance DN:ZqF 4 1 "makes_a_pot" ["thing"]:=Dc 1 1 3 57 [] (hb:=by walk_at "-0000000u0u0u")
abbrev KF:Ev->M Fl:=(rh (Qr (eT$ qb uX (Aa 1)$ eC$ Z 2)$ Dq$ eT$ og 1 DN []$ Ra (Aa 2) Bb) Xx Wh)
def dQ:Ev->M Fl:=
 (Qb (xp (yG$ Aa 0) (xk 2$ yg (ud 1)$ yg (ud 2) Tk) KF)$ gg$ rj$ Uk Io$ Ra (Aa 0) Bb)
instance ZU:ZqF 5 1 "checked_pots" ["pots"]:=Dc 3 1 4 58 ["number","made"] (g:=dQ) (hb:=by exact λa b c=>
 (Od (Jy oq rfl (by walk_at "+0") (by walk_at "+12")$ Bi$ dr (by walk_at "+1u2") (Bi j8) qu)$ by walk_at "+zA0"))
def iy:=kf 2 2 0 17 50 0 [] (hb:=by walk_at "-01")
instance NE:ZqF 1 1 "whole_of" ["made"]:=Dc 1 1 0 59 [] (hb:=by walk_at "-00")
instance:ZqC 6 1 2 "Held" ["self","whole"] iy.f:=⟨λa=>⟨_,a.vy,a.Tv,iy.ok a⟩,rfl⟩
def ux:=kf 2 2 5 30 62 0 [] (hb:=by walk_at "-0100c.y00zR00c.y00n")
def lB:=eh 1 1 0 44 62 14 [] (hb:=by walk_at "-zA0")
instance zes:fh 1 1 "made_of" ["self"] [(9,lB)]:=fh.gh 1 9 "made_of" lB .nil
abbrev GM:Ev->M Fl:=(rh (rO (eT$ qb (zB İ) (Aa 0)$ vF (Aa 3) Α$ BD$ eC$ Z 2)$ eT$ qb oLt (qb Nb (Aa 3)$ eC$ Z 4)$ qb Wj (Aa 1)$ eC$ Z 1) Xx Wh)
def XS:Ev->M Fl:=
 (Qb (rh (Dq$ eT$ og 3 mC []$ Ra (Aa 1)$ Ra (eC$ Z 1)$ Ra (eC$ Z 50) Bb) Xx Wh)$ Bn (bi$ Aa 2) (ud 3) GM)
instance iO:ZqF 3 3 "check_span" ["hand","every","pots"]:=Dc 4 3 2 100 ["made"] (g:=XS) (hb:=by walk_at "-b1uf23bs0331")
abbrev AO:Ev->M Fl:=(Hr (eC$ ϒ G6) (Re (Gc [14,15] "known")$ Aa 0)$ Aa 2)
def UK:Ev->M Fl:=
 (Bn (bi$ Aa 1) (ud 2) AO)
def Fw:=kf 3 2 0 57 108 2 ["word"] (g:=UK) (hb:=by walk_at "-f12m02")
instance zjz:fh 1 2 "learn" ["self","words"] [(15,Fw)]:=fh.gh 1 15 "learn" Fw .nil
def RC:=kf 4 4 0 56 108 1 [] (hb:=by walk_at "-m101m201m301")
instance N5:fh 1 4 "hold" ["self","account","claim","seen"] [(15,RC)]:=fh.gh 1 15 "hold" RC .nil
instance HS:ZqF 3 1 "is_day" ["thing"]:=Dc 1 1 2 13 [] (hb:=by walk_at "-0u")
instance xQ:ZqF 3 1 "is_word" ["thing"]:=Dc 1 1 2 12 [] (hb:=by walk_at "-0u")
instance AG:ZqF 3 1 "is_amount" ["thing"]:=Dc 1 1 2 15 [] (hb:=by walk_at "-0u")
instance IV:ZqF 3 1 "is_side" ["thing"]:=Dc 1 1 2 10 [] (hb:=by walk_at "-0")
instance lI:ZqF 4 1 "is_tie" ["thing"]:=Dc 1 1 3 27 [] (hb:=by walk_at "-000000")
instance zH:ZqF 5 1 "are_ties" ["thing"]:=Dc 1 1 4 29 [] (hb:=by walk_at "-a00uazc.y000zc.y0000")
instance II:ZqF 3 1 "are_shares" ["thing"]:=Dc 1 1 2 28 [] (hb:=by walk_at "-000u0u")
instance zS:ZqF 3 1 "is_number" ["thing"]:=Dc 1 1 2 14 [] (hb:=by walk_at "-0u")
instance mu:ZqF 6 1 "is_stand" ["thing"]:=Dc 1 1 5 30 [] (hb:=by walk_at "-00000")
abbrev zBD(x q:Str)(s:Stmt)(c:ac):Prop:=∀ (kV b d:Value) (an:Option Addr) (a ct:Value) (us:dl),us.length=c.length->bindArgs (Ϯ x q (Qk s) (uj s) (zf s) Ic kV b d an a ct) ⟨us,[]⟩=pure (c.zip us)
def Qs{N P}{sc}(a:sc.kind=Ϥ)(b:sc.isCoroutine=İ)(c:sc.isGenerator=İ)(h:N.Nodup/\N.take P.length=P/\(∀ x∈P,sc.names.lookup x=BD .local\/sc.names.lookup x=BD Kc)/\∀ y∈sc.names,y.2≠ xb):Oc N P sc:=⟨a,b,c,h.1,h.2.1,h.2.2.1,h.2.2.2⟩
abbrev fP:Stmt:=yi 31
def XN:Ev->M Fl:=
 (Qb (Ye 3$ Eh$ Ra (Aa 0)$ Ra (Aa 1)$ Ra (wu (eT$ qb Ko (Aa 2)$ eC Ϛ) (Eh Bb)$ Aa 2) Bb)$ Qb (rh (Dq$ eT$ og 1 mu []$ Ra (Aa 3) Bb) (eD 1$ Ra (eC$ ϔ "number, shares and ties make no stand") Bb) Wh)$ gg$ Aa 3)
def oh:B'->M D:=ee λa=>zd$ Vg 4 XN a
def bQ:Oc ["number","shares","ties","made"] ["number","shares","ties"]$ zf fP:=Qs rfl rfl rfl (by decide +kernel)
def ő:IE "stand" "stand" fP ["number","shares","ties"] [Ic]:=λe e e e e e e e e e d b c=>⟨λa=>QF.ap [0,0,0] d (by simpa using a) (by intro _ _ _;show Oe _ _ _ _;exact Wc rfl b c rfl rfl),λa=>QF.ap [0,0] d (by simpa using a) (by intro _ _;show Oe _ _ _ _;exact Wc rfl b c rfl rfl)⟩
def WU:Nr ⟨K,ca,tx K⟩ P w mg base 7 "stand" ["number","shares","ties"] [Ic] oh:=
 Nr.ee$ Nr.zd (Y4 a.oh bQ λv v v v v v v b=>
  by have:=bQ.nd;walk_at "+30122a33")
instance OG:ZqF 8 2 "first" ["left","right"]:=Dc 2 2 7 32 [] (hb:=by exact λa b c=>
 (Bi$ Kr$ Ů (WU a) rfl (b.mono$ by decide) rfl é bZ$ by walk_at "+01"))
def Wo:=kf 7 7 0 45 71 0 [] (hb:=by walk_at "-010203040zA50zA6")
instance:ZqC 11 1 7 "Calm" ["self","pot","side","mine","grant","may","strikes"] Wo.f:=⟨λa=>⟨_,a.cz,a.Ov,Wo.ok a⟩,rfl⟩
abbrev t7:Stmt:=yi 75
def bY:Ev->M Fl:=
 (Qb (Ye 4$ og 2 OG []$ Ra (Aa 2)$ Ra (Aa 3) Bb)$ gg$ Kn 11 7 Wo$ Ra (Aa 0)$ Ra (Aa 1)$ Ra (Aa 4)$ Ra (eC Ϛ)$ Ra (ci$ Ra (Aa 4) Bb)$ Ra (ci Bb) Bb)
def ae:B'->M D:=ee$ Vg 5 bY
def KQ:Oc ["pot","side","left","right","mine"] ["pot","side","left","right"]$ zf t7:=Qs rfl rfl rfl (by decide +kernel)
def n4:Ii ⟨K,ca,tx K⟩ P w mg base 9 "first_account" ["pot","side","left","right"] ae:=
 Ii.ee (VB a.ae KQ λv v v v v v v b=>
  by have:=KQ.nd;walk_at "+423R014v4v")
abbrev WP:Ev->M Fl:=(rh (eT$ qb wh (qb Nb (Aa 6)$ Aa 7)$ Aa 1) (Bm$ Pf [(15,RC)] 4 "hold" (Aa 0)$ Ra (og 4 ae []$ Ra (Aa 5)$ Ra (Aa 7)$ Ra (qb Nb (Aa 6)$ eC$ Z 2)$ Ra (qb Nb (Aa 6)$ eC$ Z 3) Bb)$ Ra (eC$ .gt ["held"])$ Ra (eC$ ϩ [] []) Bb) Wh)
abbrev UB:Ev->M Fl:=(Bn (bi$ Eh$ Ra (eC$ Z 0)$ Ra (eC$ Z 1) Bb) (ud 7) WP)
abbrev oU:Stmt:=jt (yi 108) 0
def uS:Ev->M Fl:=
 (Qb (Bm$ og 3 iO []$ Ra (Aa 1)$ Ra (Aa 2)$ Ra (Aa 3) Bb)$ Qb (jl [15] "hand" (Aa 1)$ Aa 0)$ Qb (jl [14,15,16] "every" (Aa 2)$ Aa 0)$ Qb (jl [14,15] "last_look" (eC$ Z 0)$ Aa 0)$ Qb (jl [15] "gave" (eC$ Z 0)$ Aa 0)$ Qb (jl [14,15] "known" uo$ Aa 0)$ Qb (jl [15] "accounts" uo$ Aa 0)$ Qb (jl [9,15] "claims" uo$ Aa 0)$ Qb (jl [15] "seen" uo$ Aa 0)$ Qb (jl [15] "asked" uo$ Aa 0)$ Qb (jl [15] "finishing" uo$ Aa 0)$ Qb (Bm$ Pf [(15,Fw)] 2 "learn" (Aa 0)$ Ra (wu (eT$ qb Ko (Aa 4)$ eC Ϛ) (ci Bb)$ Aa 4) Bb)$ xp (yG$ Aa 3) (xk 2$ yg (ud 5)$ yg (ud 6) Tk) UB)
def Wl:B'->M D:=ee$ Vg 8 uS
def EW:Oc ["self","hand","every","pots","words","pot","made","side"] ["self","hand","every","pots","words"]$ zf oU:=Qs rfl rfl rfl (by decide +kernel)
def O1:IE "__init__" "Keeper.__init__" oU ["self","hand","every","pots","words"] [Ic]:=λe e e e e e e e e e d b c=>⟨λa=>QF.ap [0,0,0,0,0] d (by simpa using a) (by intro _ _ _ _ _;show Oe _ _ _ _;exact Wc rfl b c rfl rfl),λa=>QF.ap [0,0,0,0] d (by simpa using a) (by intro _ _ _ _;show Oe _ _ _ _;exact Wc rfl b c rfl rfl)⟩
def dS:Rq ⟨K,ca,tx K⟩ P w mg base 10 (ca 55) ["self","hand","every","pots","words"] [Ic] Wl:=
 Rq.ee (gL a.Wl EW λv v v v v v b=>
  by have c:=EW.nd;exact(Od (by walk_at "+123")$ Od (by walk_at "+01")$ Od (by walk_at "+02")$ Od (by walk_at "+0")$ Od (by walk_at "+0")$ Od (by walk_at "+0n")$ Od (by walk_at "+0n")$ Od (by walk_at "+0n")$ Od (by walk_at "+0n")$ Od (by walk_at "+0n")$ Od (by walk_at "+0n")$ Od (by walk_at "+04v4")$ Bi$ Jy oq rfl (by walk_at "+3") (by walk_at "+56")$ Bi$ Vx oq rfl (by walk_at "") (by walk_at "+7")$ Bi$ dr (by walk_at "+671") (Bi$ Vu$ fE (k:=1) (ps:=["self","account","claim","seen"]) rfl (Kf 0) (N5.ok a) (b.mono$ by decide)$ Oi (Yr (n4 a) rfl (b.mono$ by decide) rfl$ by walk_at "+5766")$ Oi (YQ (ss:=["held"]) rfl a.Bt)$ Oi XP Rm) qu))
instance BJ:ZqF 1 2 "words_of" ["hand","words"]:=Dc 2 2 0 110 [] (hb:=by exact λa b c=>
 (Bi$ Kr$ bM$ E5 (f:=Aa 1)$ by walk_at "+c0.L101120"))
abbrev DM:Ev->M Fl:=(Hr (Kn 15 5 Wl$ Xu []$ Ra (Aa 6)$ Ra (Aa 3)$ Ra (Re (Gc [9,14,16] "pots")$ Aa 0)$ Ra (og 2 BJ []$ Ra (Aa 6)$ Ra (Aa 5) Bb) Bb) (Re (Gc [16] "keepers")$ Aa 0)$ Aa 6)
abbrev GD:Ev->M Fl:=(rh (eT$ qb zp (Aa 8)$ Re (Gc [16] "keepers")$ Aa 0) (CH (eC$ ϒ G6) (Re (Gc [16] "things")$ Aa 0)$ Eh$ Ra (eC$ ϔ "word")$ Ra (Aa 7) Bb) Wh)
instance:ZqC 9 6 2 "Book" ["self","pots"] ux.f:=⟨λa=>⟨_,a.iz,a.Nv,ux.ok a⟩,rfl⟩
abbrev SS:Stmt:=jt (yi 111) 0
def jQ:Ev->M Fl:=
 (Qb (jl [16] "public" (Kn 9 2 ux$ Ra (Aa 1) Bb)$ Aa 0)$ Qb (jl [9,14,16] "pots" (Pf [(9,lB)] 1 "made_of" (Re (Gc [16] "public")$ Aa 0) Bb)$ Aa 0)$ Qb (jl [14,15,16] "every" (Aa 3)$ Aa 0)$ Qb (jl [16] "keepers" uo$ Aa 0)$ Qb (jl [16] "under_way" (nv Bb)$ Aa 0)$ Qb (jl [16] "things" PM$ Aa 0)$ Qb (Ye 5$ wu (eT$ qb Ko (Aa 4)$ eC Ϛ) (eC$ ϩ [] [])$ Aa 4)$ Qb (Bn (bi$ rj$ Re kA$ Aa 2) (ud 6) DM)$ Uw (Aa 5)$ xp (Ws$ Aa 5) (xk 2$ yg (ud 7)$ yg (ud 8) Tk) GD)
def ll:B'->M D:=ee$ Vg 9 jQ
def sS:Oc ["self","pots","keeps","every","words","owners","hand","word","owner"] ["self","pots","keeps","every","words"]$ zf SS:=Qs rfl rfl rfl (by decide +kernel)
def T2:IE "__init__" "Hall.__init__" SS ["self","pots","keeps","every","words"] [Ic]:=λe e e e e e e e e e d b c=>⟨λa=>QF.ap [0,0,0,0,0] d (by simpa using a) (by intro _ _ _ _ _;show Oe _ _ _ _;exact Wc rfl b c rfl rfl),λa=>QF.ap [0,0,0,0] d (by simpa using a) (by intro _ _ _ _;show Oe _ _ _ _;exact Wc rfl b c rfl rfl)⟩
def kR:Rq ⟨K,ca,tx K⟩ P w mg base 12 (ca 79) ["self","pots","keeps","every","words"] [Ic] ll:=
 Rq.ee (gL a.ll sS λv v v v v v b=>
  by have d:=sS.nd;exact(Od (by walk_at "+0R1")$ Od (by walk_at "+00")$ Od (by walk_at "+03")$ Od (by walk_at "+0n")$ Od (by walk_at "+0l")$ Od (by walk_at "+0N")$ Od (by walk_at "+54o4")$ Od (Vx oq rfl (by walk_at "+zQ2") (by walk_at "+6")$ Bi$ KG (Xj b) (YH (c:=15) (ps:=["self","hand","every","pots","words"]) a.zo a.Am (dS a) (ϑ rfl) Ϡ (λv v=>ub.nil) rfl (b.mono$ by decide) rfl$ by walk_at "+63065") (by walk_at "+0")$ Kf 6)$ by walk_at "+hFL578aj80T07"))
def Br:=eh 2 2 0 61 108 6 [] (hb:=by walk_at "-bj10d01")
instance zeu:fh 1 2 "account" ["self","pot"] [(15,Br)]:=fh.gh 1 15 "account" Br .nil
abbrev DA:Ev->M Fl:=(Ye 3$ Pf [(15,Br)] 2 "account" (Aa 0)$ Ra (Aa 1) Bb)
abbrev nB:Ev->M Fl:=(Ye 4$ qb Nb (qb Nb (Re (Gc [10,11,12,13] "mine")$ Aa 3)$ eC$ Z 1)$ Re (Gc [7,8,10,11,12,13] "side")$ Aa 3)
abbrev cA:Ev->M Fl:=(Ye 5$ Uk wA$ Ra (qb Wj (eC$ Z 1)$ qb Fi (qb Wr (Aa 2)$ eC$ Z 16)$ Uk EG$ Ra (eC$ Z 1)$ Ra (Aa 4) Bb)$ Ra (qb Ap (eC$ Z 10)$ eC$ Z 12) Bb)
abbrev vA:Ev->M Fl:=(rh (eT$ qb wh (qb Fi (Aa 2)$ eC$ Z 4)$ eC$ Z 0) (gg$ Eh$ Ra (eC$ ϔ "give")$ Ra (Aa 1)$ Ra (Aa 5) Bb) Wh)
abbrev sA:Ev->M Fl:=(rh (Qr (eT$ qb wh (qb Fi (Aa 2)$ eC$ Z 4)$ eC$ Z 1)$ eT$ qb wh (qb Nb (Re (Gc [10,11,12,13] "mine")$ Aa 3)$ eC$ Z 2)$ Eh Bb) (gg$ Eh$ Ra (eC$ ϔ "pay")$ Ra (Aa 1)$ Ra (Aa 5)$ Ra (qb Fi (qb Wr (Aa 2)$ eC$ Z 4)$ eC$ Z 60)$ Ra (qb Fi (qb Wr (Aa 2)$ eC$ Z 240)$ eC$ Z 30) Bb) Wh)
abbrev jA:Ev->M Fl:=(gg$ Eh$ Ra (qb Nb (ci$ Ra (eC$ ϔ "settle")$ Ra (eC$ ϔ "drop") Bb)$ qb Fi (Aa 2)$ eC$ Z 2)$ Ra (Aa 1)$ Ra (qb Nb (qb Nb (qb Nb (Re (Gc [10,11,12,13] "mine")$ Aa 3)$ eC$ Z 2)$ qb Fi (qb Wr (Aa 2)$ eC$ Z 4)$ Uk Il$ Ra (qb Nb (Re (Gc [10,11,12,13] "mine")$ Aa 3)$ eC$ Z 2) Bb)$ eC$ Z 2) Bb)
def VA:Ev->M Fl:=
 (Qb DA$ Qb nB$ Qb cA$ Qb vA$ Qb sA jA)
instance xu:ZqF 2 3 "_law_wish" ["_law_keeper","_law_pot","_law_draw"]:=Dc 6 3 1 115 ["_law_account","_law_own","_law_amount"] (g:=VA) (hb:=by exact λa c b=>
 (Od (by walk_at "+301")$ Od (by walk_at "+4x33")$ Od (Tr (i:=5) b rfl (ϑ rfl)$ Ky (rT rfl) jY rfl a.Yp boot_min$ Oi (px (rR rfl) nu qD$ px jW eS (by walk_at "+2")$ Ky (X5 rfl) ψ rfl a.rC boot_max$ by walk_at "+4")$ by walk_at "")$ by walk_at "+a215a2x31522v21x32x3"))
def Px:=eh 2 2 0 67 108 12 [] (hb:=by exact λa b c=>
 (Bi$ Kr$ XM (by walk_at "+i10")$ CJ$ Dp (õ rfl$ Xj b) nu (by walk_at "+d01") (YQ (ss:=["held"]) rfl a.Bt)$ um _))
instance zj5:fh 1 2 "holds" ["self","pot"] [(15,Px)]:=fh.gh 1 15 "holds" Px .nil
def ar:=eh 1 1 0 48 72 0 []
def Rr:=eh 1 1 0 50 73 0 []
def Fu:=eh 1 1 0 52 74 0 []
instance zpw:fh 1 1 "word" ["self"] [(11,ar),(12,Rr),(13,Fu)]:=fh.gh 1 11 "word" ar$ .gh 1 12 "word" Rr$ .gh 1 13 "word" Fu .nil
instance LS:ZqF 1 3 "with_more" ["shares","side","amount"]:=Dc 3 3 0 35 [] (hb:=by walk_at "-a1020002")
instance zz:ZqF 8 3 "following" ["one","shares","ties"]:=Dc 3 3 7 36 [] (hb:=by exact λa b c=>
 (Bi$ Kr$ Ļ (WU a) rfl (b.mono$ by decide) rfl$ by walk_at "+012"))
instance eQ:ZqF 1 1 "other_side" ["side"]:=Dc 1 1 0 17 [] (hb:=by walk_at "-0")
instance WM:ZqF 9 3 "gift" ["one","side","amount"]:=Dc 4 3 8 37 ["less"] (hb:=by walk_at "-a12301203120")
instance hH:ZqF 9 5 "tied" ["one","payer","amount","word","day"]:=Dc 6 5 8 38 ["tie"] (hb:=by walk_at "-51234a5001205")
abbrev tK:Ev->M Fl:=(rh (eT$ qb wh (qb Nb (Aa 2)$ eC$ Z 2)$ Aa 1) (gg$ Aa 2) Wh)
def EQ:Ev->M Fl:=
 (Qb (Bn (bi$ qb Nb (Aa 0)$ eC$ Z 2) (ud 2) tK)$ gg$ eC Ϛ)
instance AC:ZqF 1 2 "tie_of" ["one","word"]:=Dc 3 2 0 39 ["tie"] (g:=EQ) (hb:=by walk_at "-f02a212")
instance RQ:ZqF 2 3 "is_paid_by" ["one","word","side"]:=Dc 4 3 1 104 ["tie"] (hb:=by walk_at "-301332")
instance MS:ZqF 2 2 "tie_to_end" ["one","word"]:=Dc 3 2 1 41 ["tie"] (hb:=by walk_at "-201a22")
instance aW:ZqF 9 3 "ended" ["one","tie","side"]:=Dc 4 3 8 42 ["ties"] (hb:=by walk_at "-3Bzc1.y0002000213")
instance dR:ZqF 10 2 "settled" ["one","word"]:=Dc 3 2 9 43 ["tie"] (hb:=by walk_at "-201022")
instance lY:ZqF 10 2 "dropped" ["one","word"]:=Dc 3 2 9 44 ["tie"] (hb:=by walk_at "-201022")
instance YL:ZqF 11 3 "stand_wished" ["account","wish","known"]:=Dc 5 3 10 105 ["mine","side"] (hb:=by walk_at "-3040a1341a1134111a1314i1231a131431")
instance ZL:ZqF 1 1 "allowance_of" ["wish"]:=Dc 1 1 0 106 [] (hb:=by walk_at "-000")
instance RH:ZqF 1 1 "deals" ["one"]:=Dc 1 1 0 33 [] (hb:=by walk_at "-0zc.y000")
instance FF:ZqF 7 2 "is_stand_of" ["thing","coin"]:=Dc 2 2 6 34 [] (hb:=by walk_at "-001")
def Ug:=eh 3 3 0 46 71 1 [] (hb:=by walk_at "-012")
instance zdk:fh 1 3 "agree_of" ["self","side","one"] [(10,Ug),(11,Ug),(12,Ug),(13,Ug)]:=fh.gh 1 10 "agree_of" Ug$ .gh 1 11 "agree_of" Ug$ .gh 1 12 "agree_of" Ug$ .gh 1 13 "agree_of" Ug .nil
instance:ZqC 12 1 7 "Offered" ["self","pot","side","mine","grant","may","strikes"] Wo.f:=⟨λa=>⟨_,a.Nq,a.Gp,Wo.ok a⟩,rfl⟩
abbrev Ù:Stmt:=yi 76
def xN:Ev->M Fl:=
 (Qb (rh (Qr (eT$ qb qh (Re (Gc [7,8,10,11,12,13] "side")$ Aa 0)$ eC$ Z 0)$ eT$ qb qh (Pf [(11,ar),(12,Rr),(13,Fu)] 1 "word" (Aa 0) Bb)$ eC$ ϔ "calm") (eD 2$ Ra (eC$ ϔ "only the lead offers, and only when it is calm") Bb) Wh)$ Qb (Ye 3$ Eh$ Ra (qb Wj (qb Nb (Re (Gc [10,11,12,13] "mine")$ Aa 0)$ eC$ Z 0)$ eC$ Z 1)$ Ra (Aa 1)$ Ra (Aa 2) Bb)$ Qb (rh (Dq$ eT$ og 2 FF []$ Ra (Aa 3)$ Ra (og 1 RH []$ Ra (Re (Gc [10,11,12,13] "mine")$ Aa 0) Bb) Bb) (eD 1$ Ra (eC$ ϔ "what is offered is no stand of the pot") Bb) Wh)$ Qb (Ye 4$ Kn 12 7 Wo$ Ra (Re (Gc [10,11,12,13] "pot")$ Aa 0)$ Ra (Re (Gc [7,8,10,11,12,13] "side")$ Aa 0)$ Ra (Re (Gc [10,11,12,13] "mine")$ Aa 0)$ Ra (Re (Gc [10,11,12,13] "grant")$ Aa 0)$ Ra (ci$ Ra (Re (Gc [10,11,12,13] "mine")$ Aa 0)$ Ra (Aa 3) Bb)$ Ra (Re (Gc [10,11,12,13] "strikes")$ Aa 0) Bb)$ gg$ Eh$ Ra (Aa 4)$ Ra (Eh$ Ra (eC$ ϔ "offer")$ Ra (Re (Gc [10,11,12,13] "pot")$ Aa 0)$ Ra (Pf [(10,Ug),(11,Ug),(12,Ug),(13,Ug)] 3 "agree_of" (Aa 0)$ Ra (eC$ Z 0)$ Ra (Aa 3) Bb) Bb) Bb)
def ve:B'->M D:=ee$ Vg 5 xN
def mP:Oc ["account","shares","ties","one","behind"] ["account","shares","ties"]$ zf Ù:=Qs rfl rfl rfl (by decide +kernel)
def XV:Ii ⟨K,ca,tx K⟩ P w mg base 8 "offered" ["account","shares","ties"] ve:=
 Ii.ee (VB a.ve mP λv v v v v v v b=>
  by have:=mP.nd;walk_at "+a003x012a304R0000v0304003")
instance nY:ZqF 3 1 "is_pot" ["thing"]:=Dc 1 1 2 16 [] (hb:=by walk_at "-0u")
instance gY:ZqF 4 1 "is_of_a_side" ["thing"]:=Dc 1 1 3 46 [] (hb:=by walk_at "-000")
instance CI:ZqF 7 1 "is_thing" ["thing"]:=Dc 1 1 6 47 [] (hb:=by walk_at "-a000a000a000a000")
instance HR:ZqF 8 1 "is_agree" ["thing"]:=Dc 1 1 7 64 [] (hb:=by walk_at "-00")
instance xP:ZqF 8 1 "is_strike" ["thing"]:=Dc 1 1 7 65 [] (hb:=by walk_at "-00")
instance bB:ZqF 9 1 "has_its_parts" ["letter"]:=Dc 1 1 8 66 [] (hb:=by walk_at "-a000a0000a000a0000a000")
instance Wp:ZqF 10 1 "is_letter" ["thing"]:=Dc 1 1 9 67 [] (hb:=by walk_at "-b00000")
instance (priority:=1001) zdl:fh 1 3 "agree_of" ["self","side","one"] [(11,Ug)]:=fh.gh 1 11 "agree_of" Ug .nil
instance zI:ZqF 8 2 "is_following" ["thing","one"]:=Dc 2 2 7 70 [] (hb:=by walk_at "-0101")
def Ul:=eh 3 3 0 47 71 2 [] (hb:=by walk_at "-012")
instance zcu:fh 1 3 "strike_of" ["self","side","one"] [(11,Ul)]:=fh.gh 1 11 "strike_of" Ul .nil
instance:ZqC 13 1 7 "Waiting" ["self","pot","side","mine","grant","may","strikes"] Wo.f:=⟨λa=>⟨_,a.jr,a.Mp,Wo.ok a⟩,rfl⟩
def Zp:=kf 5 2 10 49 72 1 ["one","agree","behind"] (hb:=by walk_at "-a011021302a1032004R0023v020400200")
instance (priority:=1002) zdm:fh 1 3 "agree_of" ["self","side","one"] [(12,Ug)]:=fh.gh 1 12 "agree_of" Ug .nil
instance (priority:=1001) zb5:fh 1 3 "strike_of" ["self","side","one"] [(12,Ul)]:=fh.gh 1 12 "strike_of" Ul .nil
def eu:=kf 5 2 10 51 73 1 ["one","agree","behind"] (hb:=by walk_at "-2x0302a11030004R0023v20vx04000")
instance (priority:=1002) zb6:fh 1 3 "strike_of" ["self","side","one"] [(13,Ul)]:=fh.gh 1 13 "strike_of" Ul .nil
def yu:=kf 4 2 10 53 74 1 ["old","behind"] (hb:=by walk_at "-2x0a1100203R0000v00v23")
instance zf8:fh 11 2 "taken" ["self","letter"] [(11,Zp),(12,eu),(13,yu)]:=fh.gh 11 11 "taken" Zp$ .gh 11 12 "taken" eu$ .gh 11 13 "taken" yu .nil
abbrev zk0:Stmt:=yi 107
def IJ:Ev->M Fl:=
 (Qb (rh (eT$ qb wh (Re (Gc [7,8,10,11,12,13] "side")$ Aa 0)$ eC$ Z 0) (gg$ og 3 ve []$ Ra (Aa 0)$ Ra (qb Nb (Aa 1)$ eC$ Z 1)$ Ra (qb Nb (Aa 1)$ eC$ Z 2) Bb) Wh)$ Qb (Ye 2$ Eh$ Ra (eC$ ϔ "offer")$ Ra (Re (Gc [10,11,12,13] "pot")$ Aa 0)$ Ra (Pf [(10,Ug),(11,Ug),(12,Ug),(13,Ug)] 3 "agree_of" (Aa 0)$ Ra (eC$ Z 0)$ Ra (Aa 1) Bb) Bb)$ gg$ Eh$ Ra (qb Nb (Pf [(11,Zp),(12,eu),(13,yu)] 2 "taken" (Aa 0)$ Ra (Aa 2) Bb)$ eC$ Z 0)$ Ra (Eh$ Ra (eC$ ϔ "ask")$ Ra (Re (Gc [10,11,12,13] "pot")$ Aa 0)$ Ra (qb Nb (Aa 1)$ eC$ Z 1)$ Ra (qb Nb (Aa 1)$ eC$ Z 2) Bb) Bb)
def Nf:B'->M D:=ee$ Vg 3 IJ
def qO:Oc ["account","one","offer"] ["account","one"]$ zf zk0:=Qs rfl rfl rfl (by decide +kernel)
def zgi:Ii ⟨K,ca,tx K⟩ P w mg base 12 "step_to" ["account","one"] Nf:=
 Ii.ee (VB a.Nf qO λv v v v v v v b=>
  by have c:=qO.nd;exact(Od (dr (by walk_at "+0") (Bi$ Kr$ Yr (XV a) rfl (b.mono$ by decide) rfl$ by walk_at "+011") qu)$ Od (Tr (i:=2) qO.nd rfl (ϑ rfl)$ PR$ Oi jG$ Oi (by walk_at "+0")$ Oi (fE (k:=1) (ps:=["self","side","one"]) rfl (Kf 0) (zdk.ok a) (b.mono$ by decide)$ by walk_at "+1") Rm)$ by walk_at "+02011"))
instance WT:ZqF 1 2 "shown_in_time" ["tie","shown"]:=Dc 2 2 0 40 [] (hb:=by exact λb a c=>
 (Bi$ Kr$ XM (by walk_at "+i01")$ CJ$ Dp qL BK (Qw (Xj a) (Kf 1) (by walk_at "+0")$ λv v=>rfl) (by walk_at "+0")$ um _))
instance rX:ZqF 2 3 "lot_of_paid" ["view","seen","tie"]:=Dc 3 3 1 80 [] (hb:=by walk_at "-a21a02")
instance uT:ZqF 2 3 "lot_of_due" ["view","seen","tie"]:=Dc 3 3 1 81 [] (hb:=by walk_at "-a21a02aD20002")
instance YJ:ZqF 3 3 "lot_of" ["view","pot","tie"]:=Dc 3 3 2 82 [] (hb:=by walk_at "-a21012012")
abbrev qF:Ev->M Fl:=(Qb (Ye 6$ og 3 YJ []$ Ra (Aa 0)$ Ra (Aa 1)$ Ra (Aa 5) Bb)$ Qb (Hr (Eh$ Ra (Aa 6)$ Ra (qb Nb (Aa 5)$ eC$ Z 1)$ Ra (qb Nb (Aa 5)$ eC$ Z 3) Bb) (Aa 4)$ qb Nb (Aa 5)$ eC$ Z 2)$ rh (eT$ Re (RF İ ["won","sure","back"])$ Aa 6) (jx (λa b=>a+b) 3$ qb Nb (Aa 5)$ eC$ Z 1) Wh)
def jT:Ev->M Fl:=
 (Qb (Ye 3$ qb Nb (qb Nb (Aa 2)$ eC$ Z 1)$ qb Nb (Aa 1)$ eC$ Z 0)$ Qb (Ye 4 uo)$ Qb (Bn (bi$ qb Nb (Aa 2)$ eC$ Z 2) (ud 5) qF)$ gg$ Eh$ Ra (Aa 3)$ Ra (Aa 4) Bb)
instance ME:ZqF 4 3 "read_stand" ["view","pot","one"]:=Dc 7 3 3 83 ["firm","lots","tie","lot"] (g:=jT) (hb:=by exact λa b c=>
 (Od (by walk_at "+321")$ Od (by walk_at "+4n")$ Od (Vx oq rfl (by walk_at "+2") (by walk_at "+5")$ Od (by walk_at "+6015")$ Od (by walk_at "+m65545")$ Bi$ dr (ú (ss:=["won","sure","back"]) rfl a.Hy$ Kf 6) (by walk_at "+35") qu)$ by walk_at "+34"))
abbrev dL:Ev->M Fl:=(Bm$ Qq zi (Aa 1)$ Ra (rj$ xj (zm$ bi$ qb Nb (Aa 2)$ eC$ Z 1) [0,2] (ud 0) Yj$ og 3 ME []$ Ra (Aa 2)$ Ra (Aa 3)$ Ra (Aa 0) Bb) Bb)
def vT:Ev->M Fl:=
 (Qb (Ye 1$ nv Bb)$ Qb (Bn (bi$ Re (Gc [9,14,16] "pots")$ Aa 0) (ud 2) dL)$ gg$ Aa 1)
instance oK:ZqF 5 1 "read_pots" ["view"]:=Dc 3 1 4 84 ["readings","pot"] (g:=vT) (hb:=by walk_at "-1lf021zc02/10.y202301")
abbrev LH:Ev->M Fl:=(Bm$ Qq Xq (Aa 3)$ Ra (rj$ xj (zm$ Zs$ Uk Il$ Ra (Aa 2) Bb) [4] (ud 0) Yj$ qb Wj (Aa 2)$ ci$ Ra (Aa 0) Bb) Bb)
abbrev UD:Ev->M Fl:=(Qb (Ye 3$ nv Bb)$ Qb (Bn (bi$ Aa 1) (ud 4) LH)$ Ye 1$ Aa 3)
def jP:Ev->M Fl:=
 (Qb (Ye 1$ ci$ Ra (ci Bb) Bb)$ Qb (Bn (bi$ Aa 0) (ud 2) UD)$ gg$ Aa 1)
instance WF:ZqF 1 1 "all_choices" ["readings"]:=Dc 5 1 0 85 ["choices","stands","longer","chosen"] (g:=jP) (hb:=by walk_at "-1vvf023lf143zc4.y202v0131")
abbrev wL:Ev->M Fl:=(Bm$ Qq zi (iI Uu (Aa 1)$ Ra (Aa 3)$ Ra (nv Bb) Bb)$ Ra (Aa 4) Bb)
abbrev zP:Ev->M Fl:=(xp (wB$ qb Nb (Aa 2)$ eC$ Z 1) (xk 2$ yg (ud 3)$ yg (ud 4) Tk) wL)
def gU:Ev->M Fl:=
 (Qb (Ye 1 uo)$ Qb (Bn (bi$ Aa 0) (ud 2) zP)$ gg$ Aa 1)
instance GO:ZqF 1 1 "lots_by_word" ["reads"]:=Dc 5 1 0 87 ["by_word","read","word","lot"] (g:=gU) (hb:=by exact λa b c=>
 (Od (by walk_at "+1n")$ Od (Vx oq rfl (cM rfl$ Kf 0) (by walk_at "+2")$ Bi$ Jy oq rfl (by walk_at "+I2") (by walk_at "+34")$ Bi$ Vu$ wx Cc dm fm jO kL (hV gf Ek PySem.F.type_dict_setdefault Æ į (Kf 1)$ by walk_at "+3l")$ Oi (Kf 4) Rm)$ by walk_at "+1"))
instance eO:ZqF 1 1 "fates_of" ["lots"]:=Dc 1 1 0 88 [] (hb:=by walk_at "-vzc.y0000")
instance QL:ZqF 1 3 "comes_by_fate" ["lot","fate","every"]:=Dc 3 3 0 89 [] (hb:=by walk_at "-a011001120")
instance aB:ZqF 2 3 "sum_by_fate" ["lots","fate","every"]:=Dc 3 3 1 90 [] (hb:=by walk_at "-zc12/10.y000230")
abbrev G2:Stmt:=yi 91
def ZX:Ev->M Fl:=
 (gg$ EE [0,1] (og 3 aB []$ Ra (Aa 1)$ Ra (Aa 0)$ Ra (Aa 2) Bb)$ Ra (og 1 eO []$ Ra (Aa 0) Bb) Bb)
def Se:B'->M D:=ee λa=>zd$ Vg 2 ZX a
def ZW:Oc ["lots","every"] ["lots","every"]$ zf G2:=Qs rfl rfl rfl (by decide +kernel)
def K8:Ii ⟨K,ca,tx K⟩ P w mg base 5 "least_fate" ["lots","every"] Se:=
 Ii.ee$ Ii.zd (MQ a.Se ZW λv v v v v v c=>
  by have e:=ZW.nd;exact(Bi$ Kr$ eX (x:="fate") (M':=["lots","every"]) (ix:=[0,1]) (t:=JG K) (k:=2) (c.mono$ by decide) ⟨rfl,rfl,rfl,rfl,rfl,rfl⟩ rfl ⟨(wU K),λd b=>a.DC _ (wU K) d b,rfl,a.tb.hd _ ⋯,rfl,rfl,rfl,a.fQ,a.tb.bb⟩ rfl a.Yp rfl rfl rfl (λv v v v v=>rfl) (by walk_at "+0")$ λv v v v v c=>(by walk_at "+102")))
abbrev kW:Ev->M Fl:=(jx (λa b=>a+b) 4$ og 3 aB []$ Ra (Aa 6)$ Ra (qb Lh (Aa 2)$ Aa 5)$ Ra (Aa 3) Bb)
def XU:Ev->M Fl:=
 (Qb (Ye 4$ Uk Oy$ Ra (rj$ xj (zm$ bi$ Aa 0) [] (ud 0) Yj$ qb Nb (Aa 0)$ eC$ Z 0) Bb)$ Qb (xp (wB$ Aa 1) (xk 2$ yg (ud 5)$ yg (ud 6) Tk) kW)$ gg$ Aa 4)
instance PJ:ZqF 3 4 "sum_of" ["reads","by_word","fates","every"]:=Dc 7 4 2 92 ["total","word","lots"] (g:=XU) (hb:=by exact λb a c=>
 (Od (by walk_at "+4zc.y000")$ Od (Jy oq rfl (zM$ Kf 1) (by walk_at "+56")$ Bi$ vP (i:=4) BS c rfl (ϑ rfl)$ Yr (aB.ok b) rfl (a.mono$ by decide) rfl$ Oi (Kf 6)$ Oi (Qw (Xj a) (Kf 2) (Kf 5)$ λv v=>rfl)$ Oi (Kf 3) Rm)$ by walk_at "+4"))
abbrev cU:Ev->M Fl:=(Hr (og 2 Se []$ Ra (Aa 6)$ Ra (Aa 2) Bb) (Aa 4)$ Aa 5)
def vR:Ev->M Fl:=
 (Qb (Ye 3$ og 1 GO []$ Ra (Aa 0) Bb)$ Qb (Ye 4 uo)$ Qb (xp (wB$ Aa 3) (xk 2$ yg (ud 5)$ yg (ud 6) Tk) cU)$ gg$ Eh$ Ra (og 4 PJ []$ Ra (Aa 0)$ Ra (Aa 3)$ Ra (Aa 4)$ Ra (Aa 2) Bb)$ Ra (Aa 1)$ Ra (Aa 4) Bb)
instance jF:ZqF 6 3 "least_paper" ["reads","chosen","every"]:=Dc 7 3 5 93 ["by_word","fates","word","lots"] (g:=vR) (hb:=by exact λb a c=>
 (Od (by walk_at "+30")$ Od (by walk_at "+4n")$ Od (Jy oq rfl (zM$ Kf 3) (by walk_at "+56")$ Bi$ KG (Xj a) (Yr (K8 b) rfl (a.mono$ by decide) rfl$ by walk_at "+62") (Kf 4)$ Kf 5)$ by walk_at "+034214"))
instance bJ:ZqF 1 2 "chosen_readings" ["readings","chosen"]:=Dc 2 2 0 86 [] (hb:=by walk_at "-zc.010101")
abbrev Ś:Stmt:=yi 94
def AR:Ev->M Fl:=
 (Qb (Ye 1$ og 1 oK []$ Ra (Aa 0) Bb)$ Qb (Ye 2$ rj$ xj (zm$ bi$ og 1 WF []$ Ra (Aa 1) Bb) [1,0] (ud 0) Yj$ og 3 jF []$ Ra (og 2 bJ []$ Ra (Aa 2)$ Ra (Aa 0) Bb)$ Ra (Aa 0)$ Ra (Re (Gc [14,15,16] "every")$ Aa 3) Bb)$ gg$ EE [] (qb Nb (Aa 0)$ eC$ Z 0)$ Ra (Aa 2) Bb)
def ej:B'->M D:=ee λa=>zd$ Vg 3 AR a
def AW:Oc ["view","readings","papers"] ["view"]$ zf Ś:=Qs rfl rfl rfl (by decide +kernel)
def BZ:Ii ⟨K,ca,tx K⟩ P w mg base 7 "paper" ["view"] ej:=
 Ii.ee$ Ii.zd (MQ a.ej AW λv v v v v v c=>
  by have e:=AW.nd;exact(Od (by walk_at "+10")$ Od (by walk_at "+q210.y102003")$ Bi$ Kr$ eX (x:="told") (M':=[]) (ix:=[]) (t:=LI K) (k:=0) (c.mono$ by decide) ⟨rfl,rfl,rfl,rfl,rfl,rfl⟩ rfl ⟨(qP K),λd b=>a.DC _ (qP K) d b,rfl,a.tb.hd _ ⋯,rfl,rfl,rfl,a.fQ,a.tb.bb⟩ rfl a.Yp rfl rfl rfl (λv v v v v=>rfl) (Oi (Kf 2) Rm)$ λv v v v v c=>(by walk_at "+0")))
instance sB:ZqF 8 1 "worth" ["view"]:=Dc 1 1 7 95 [] (hb:=by exact λa b c=>
 (Bi$ Kr$ uO lK (UJ rfl) (Yr (BZ a) rfl (b.mono$ by decide) rfl$ Oi (Kf 0) Rm) qD$ λd d=>rfl))
instance EJ:ZqF 1 2 "stands_told" ["account","claim"]:=Dc 2 2 0 101 [] (hb:=by exact λa b c=>
 (Od (by walk_at "+a10") YU))
def GA:=kf 5 5 0 54 79 0 [] (hb:=by walk_at "-01020zA30zc.y400zA0C0")
def zu:=eh 1 1 0 58 108 3 [] (hb:=by walk_at "-zO0")
instance zf9:fh 1 1 "words" ["self"] [(15,zu)]:=fh.gh 1 15 "words" zu .nil
abbrev sR:Ev->M Fl:=(Bm$ Qq zi (Aa 2)$ Ra (Eh$ Ra (Re (Gc [7,8,10,11,12,13] "side")$ Aa 4)$ Ra (og 2 EJ []$ Ra (Aa 4)$ Ra (qb Lh (Re (Gc [9,15] "claims")$ Aa 0)$ Aa 3) Bb)$ Ra (qb Lh (Re (Gc [15] "seen")$ Aa 0)$ Aa 3) Bb) Bb)
instance:ZqC 14 1 5 "View" ["self","every","look","words","pots"] GA.f:=⟨λa=>⟨_,a.zy,a.av,GA.ok a⟩,rfl⟩
def SW:Ev->M Fl:=
 (Qb (Ye 2$ nv Bb)$ Qb (Uw (Aa 1)$ xp (Ws$ Aa 1) (xk 2$ yg (ud 3)$ yg (ud 4) Tk) sR)$ gg$ rj$ Kn 14 5 GA$ Ra (Re (Gc [14,15,16] "every")$ Aa 0)$ Ra (Re (Gc [14,15] "last_look")$ Aa 0)$ Ra (Pf [(15,zu)] 1 "words" (Aa 0) Bb)$ Ra (Aa 2) Bb)
def iC:=eh 5 2 2 62 108 7 ["pots","pot","account"] (g:=SW) (hb:=by walk_at "-2lhFL134244d03d03zR0002")
instance zdi:fh 3 2 "view_by" ["self","accounts"] [(15,iC)]:=fh.gh 3 15 "view_by" iC .nil
def OF:=eh 1 1 3 63 108 8 [] (hb:=by walk_at "-00")
instance zjx:fh 4 1 "view" ["self"] [(15,OF)]:=fh.gh 4 15 "view" OF .nil
def Yq:=eh 1 1 8 64 108 9 [] (hb:=by exact λa b c=>
 (Bi$ Kr$ Yr (Ii.alias (sB.ok a) a.Sh) rfl (b.mono$ by decide) rfl$ by walk_at "+0"))
instance zga:fh 9 1 "worth" ["self"] [(15,Yq)]:=fh.gh 9 15 "worth" Yq .nil
def Lv:=eh 4 3 9 66 108 11 ["accounts"] (hb:=by exact λa b c=>
 (Od (by walk_at "+3H0")$ Od (by walk_at "+m131")$ Bi$ Kr$ Dp nN vM (Yr (Ii.alias (sB.ok a) a.Sh) rfl (b.mono$ by decide) rfl$ by walk_at "+03") (by walk_at "+02")$ um _))
instance zdj:fh 10 3 "is_good" ["self","account","allowance"] [(15,Lv)]:=fh.gh 10 15 "is_good" Lv .nil
abbrev zG:Ev->M Fl:=(Ye 3$ qb Nb (Aa 2)$ eC$ Z 1)
abbrev AH:Ev->M Fl:=(Ye 4$ Re (Gc [7,8,10,11,12,13] "side")$ qb Lh (Re (Gc [15] "accounts")$ Aa 0)$ Aa 3)
abbrev DF:Ev->M Fl:=(Ye 5$ og 1 ZL []$ Ra (Aa 2) Bb)
abbrev jI:Ev->M Fl:=(Ye 6$ og 2 Nf []$ Ra (qb Lh (Re (Gc [15] "accounts")$ Aa 0)$ Aa 3)$ Ra (Aa 1) Bb)
abbrev AF:Ev->M Fl:=(rh (Dq$ eT$ Pf [(15,Lv)] 3 "is_good" (Aa 0)$ Ra (qb Nb (Aa 6)$ eC$ Z 0)$ Ra (Aa 5) Bb) (gg$ Eh$ Ra (eC$ ϒ İ)$ Ra (ci Bb) Bb) Wh)
abbrev SE:Ev->M Fl:=(rh (eT$ qb wh (Aa 4)$ eC$ Z 0) (Qb (Hr (qb Nb (Aa 6)$ eC$ Z 0) (Re (Gc [15] "accounts")$ Aa 0)$ Aa 3)$ RE [15] "gave" (Aa 5)$ Aa 0)$ Hr (Eh$ Ra (Aa 5)$ Ra (qb Nb (Aa 1)$ eC$ Z 1)$ Ra (qb Nb (Aa 1)$ eC$ Z 2) Bb) (Re (Gc [15] "asked")$ Aa 0)$ Aa 3)
abbrev fJ:Ev->M Fl:=(rh (eT$ qb wh (qb Nb (Aa 2)$ eC$ Z 0)$ eC$ ϔ "settle") (gg$ Eh$ Ra (eC$ ϒ G6)$ Ra (ci$ Ra (Eh$ Ra (eC$ ϔ "word")$ Ra (Aa 3)$ Ra (qb Nb (Aa 2)$ eC$ Z 2) Bb)$ Ra (qb Nb (Aa 6)$ eC$ Z 1) Bb) Bb) Wh)
abbrev qH:Ev->M Fl:=(gg$ Eh$ Ra (eC$ ϒ G6)$ Ra (ci$ Ra (qb Nb (Aa 6)$ eC$ Z 1) Bb) Bb)
def vH:Ev->M Fl:=
 (Qb zG$ Qb AH$ Qb DF$ Qb jI$ Qb AF$ Qb SE$ Qb fJ qH)
def sy:=kf 7 3 12 69 108 14 ["pot","side","allowance","step"] (g:=vH) (hb:=by exact λa b c=>
 (Od (by walk_at "+32")$ Od (by walk_at "+4d03")$ Od (by walk_at "+52")$ Od (Tr (i:=6) c rfl (ϑ rfl)$ Yr (zgi a) rfl (b.mono$ by decide) rfl$ by walk_at "+d031")$ Od (by walk_at "+a065v")$ Od (dr (by walk_at "+4") (Od (by walk_at "+m603")$ Bi$ iT rfl (fO a) (Kf 0)$ Kf 5)$ by walk_at "+m51103")$ by walk_at "+a2v326v6"))
instance zcs:fh 13 3 "wish_for" ["self","one","wish"] [(15,sy)]:=fh.gh 13 15 "wish_for" sy .nil
abbrev vC:Ev->M Fl:=(rh (Dq$ eT$ Pf [(15,Px)] 2 "holds" (Aa 0)$ Ra (qb Nb (Aa 1)$ eC$ Z 1) Bb) Xx Wh)
abbrev TB:Ev->M Fl:=(rh (eT$ qb wh (qb Nb (Aa 1)$ eC$ Z 0)$ eC$ ϔ "finish") Xx Wh)
abbrev iE:Ev->M Fl:=(Ye 2$ qb Lh (Re (Gc [15] "accounts")$ Aa 0)$ qb Nb (Aa 1)$ eC$ Z 1)
abbrev RD:Ev->M Fl:=(rh (eT$ qb qh (Pf [(11,ar),(12,Rr),(13,Fu)] 1 "word" (Aa 2) Bb)$ eC$ ϔ "calm") (gg$ Eh$ Ra (eC$ ϒ İ)$ Ra (ci Bb) Bb) Wh)
abbrev FC:Ev->M Fl:=(GI (Ye 3$ og 3 YL []$ Ra (Aa 2)$ Ra (Aa 1)$ Ra (Re (Gc [14,15] "known")$ Aa 0) Bb)$ ⟨(sx [(1,G6),(2,İ)]),Α,(gg$ Eh$ Ra (eC$ ϒ İ)$ Ra (ci Bb) Bb)⟩::[])
abbrev VC:Ev->M Fl:=(gg$ Pf [(15,sy)] 3 "wish_for" (Aa 0)$ Ra (Aa 3)$ Ra (Aa 1) Bb)
def lC:Ev->M Fl:=
 (Qb vC$ Qb TB$ Qb iE$ Qb RD$ Qb FC VC)
def Er:=kf 4 2 13 68 108 13 ["account","one"] (g:=lC) (hb:=by exact λa c d=>
 (Od (by walk_at "+b01")$ Od (by walk_at "+b1")$ Od (by walk_at "+2d01")$ Od (by walk_at "+a2v")$ Od (GS rfl rfl (λz z b=>(by walk_at "+3210"))$ .cons rfl ⋯ (ϑ a.Ej) (P1$ uV a.Hg$ uV a.Tg B6) (λz=>(by walk_at "+v")) .nil)$ by walk_at "+031"))
instance X7:fh 14 2 "wish" ["self","wish"] [(15,Er)]:=fh.gh 14 15 "wish" Er .nil
def qv:=eh 2 2 0 81 111 2 [] (hb:=by walk_at "-bj10d01")
instance zet:fh 1 2 "keeper" ["self","hand"] [(16,qv)]:=fh.gh 1 16 "keeper" qv .nil
instance SC:ZqF 1 1 "things_in" ["letter"]:=Dc 1 1 0 68 [] (hb:=by walk_at "-a0va0v0zA0")
abbrev g7:Ev->M Fl:=(CH (eC$ ϒ G6) (Re (Gc [16] "things")$ Aa 0)$ Aa 2)
def sT:Ev->M Fl:=
 (Bn (bi$ og 1 SC []$ Ra (Aa 1) Bb) (ud 2) g7)
def gE:=kf 3 2 1 89 111 10 ["thing"] (g:=sT) (hb:=by walk_at "-f12T02")
instance zb7:fh 2 2 "tell_band" ["self","letter"] [(16,gE)]:=fh.gh 2 16 "tell_band" gE .nil
abbrev Bz:Ev->M Fl:=(Qb (Ye 4$ vF (qb Nb (Re (Gc [9,14,16] "pots")$ Aa 0)$ qb Nb (Aa 3)$ eC$ Z 1) Α$ BD$ eC$ Z 2)$ Qb (Ye 5$ wu (eT$ qb wh (qb Nb (Aa 4)$ eC$ Z 0)$ Aa 1) (qb Nb (Aa 4)$ eC$ Z 1)$ qb Nb (Aa 4)$ eC$ Z 0)$ rh (eT$ qb ju (Aa 5)$ Re (Gc [16] "keepers")$ Aa 0) (Bm$ Qq zi (Re (Gc [16] "under_way")$ Aa 0)$ Ra (Eh$ Ra (Aa 5)$ Ra (Aa 3) Bb) Bb)$ Bm$ Pf [(16,gE)] 2 "tell_band" (Aa 0)$ Ra (Aa 3) Bb)
def fN:Ev->M Fl:=
 (Bn (bi$ Aa 2) (ud 3) Bz)
def Wu:=kf 6 3 2 88 111 9 ["letter","hands","to"] (g:=fN) (hb:=by walk_at "-f234x0354144ai5005303")
instance zj0:fh 3 3 "send" ["self","sender","letters"] [(16,Wu)]:=fh.gh 3 16 "send" Wu .nil
def qB:=kf 4 3 14 91 111 12 ["told"] (hb:=by walk_at "-30120133")
instance (priority:=1001) zj1:fh 15 3 "wish" ["self","hand","wish"] [(16,qB)]:=fh.gh 15 16 "wish" qB .nil
def Az:=eh 2 2 2 92 111 13 [] (hb:=by walk_at "-b10")
instance zaq:fh 3 2 "check_letter" ["self","k"] [(16,Az)]:=fh.gh 3 16 "check_letter" Az .nil
def iD:=kf 2 2 3 94 111 15 [] (hb:=by exact λa b c=>
 (Od (by walk_at "+01")$ Bi$ Vu$ wx Cc Ff Gf mH MH (by walk_at "+0")$ Oi (Kf 1) Rm))
instance zj2:fh 4 2 "lose" ["self","k"] [(16,iD)]:=fh.gh 4 16 "lose" iD .nil
abbrev pG:Ev->M Fl:=(GI (Ye 2$ og 3 ve []$ Ra (qb Lh (Re (Gc [15] "accounts")$ Aa 0)$ qb Nb (Aa 1)$ eC$ Z 1)$ Ra (qb Nb (Aa 1)$ eC$ Z 2)$ Ra (qb Nb (Aa 1)$ eC$ Z 3) Bb)$ ⟨(sx [(1,G6),(2,G6)]),Α,(gg$ ci Bb)⟩::[])
abbrev BG:Ev->M Fl:=(rh (Dq$ eT$ Pf [(15,Lv)] 3 "is_good" (Aa 0)$ Ra (qb Nb (Aa 2)$ eC$ Z 0)$ Ra (eC$ Z 0) Bb) (gg$ ci Bb) Wh)
abbrev dH:Ev->M Fl:=(Hr (qb Nb (Aa 2)$ eC$ Z 0) (Re (Gc [15] "accounts")$ Aa 0)$ qb Nb (Aa 1)$ eC$ Z 1)
abbrev eG:Ev->M Fl:=(gg$ ci$ Ra (qb Nb (Aa 2)$ eC$ Z 1) Bb)
def oF:Ev->M Fl:=
 (Qb pG$ Qb BG$ Qb dH eG)
def Ew:=kf 3 2 10 71 108 16 ["step"] (g:=oF) (hb:=by exact λa c d=>
 (Od (GS rfl rfl (λz z b=>(Bi$ Tr (i:=2) d rfl (ϑ rfl)$ Yr (XV a) rfl (c.mono$ by decide) rfl$ by walk_at "+d0111"))$ .Kw rfl ⋯ (ϑ a.ao) rfl ⋯ (ϑ a.Ej) (xZ$ lW a.Mj a.Hg$ lW a.uk a.Tg ê) (λz=>(by walk_at "+v")) .nil)$ by walk_at "+a02vm201v2"))
instance zct:fh 11 2 "take_ask" ["self","letter"] [(15,Ew)]:=fh.gh 11 15 "take_ask" Ew .nil
def wt:=eh 2 2 0 72 108 17 [] (hb:=by walk_at "-a1j101d01")
instance za1:fh 1 2 "is_as_asked" ["self","letter"] [(15,wt)]:=fh.gh 1 15 "is_as_asked" wt .nil
abbrev IA:Ev->M Fl:=(Ye 2$ qb Nb (Aa 1)$ eC$ Z 1)
abbrev Yz:Ev->M Fl:=(Ye 3$ Pf [(11,Zp),(12,eu),(13,yu)] 2 "taken" (qb Lh (Re (Gc [15] "accounts")$ Aa 0)$ Aa 2)$ Ra (Aa 1) Bb)
abbrev jC:Ev->M Fl:=(Ye 4$ Pf [(15,wt)] 2 "is_as_asked" (Aa 0)$ Ra (Aa 1) Bb)
abbrev WB:Ev->M Fl:=(Ye 5$ wu (eT$ Aa 4) (qb Nb (qb Lh (Re (Gc [15] "asked")$ Aa 0)$ Aa 2)$ eC$ Z 0)$ eC$ Z 0)
abbrev KC:Ev->M Fl:=(rh (Dq$ eT$ Pf [(15,Lv)] 3 "is_good" (Aa 0)$ Ra (qb Nb (Aa 3)$ eC$ Z 0)$ Ra (Aa 5) Bb) (gg$ ci Bb) Wh)
abbrev zD:Ev->M Fl:=(Hr (qb Nb (Aa 3)$ eC$ Z 0) (Re (Gc [15] "accounts")$ Aa 0)$ Aa 2)
abbrev IC:Ev->M Fl:=(rh (eT$ Aa 4) (Qb (Bm$ iI Cy (Re (Gc [15] "asked")$ Aa 0)$ Ra (Aa 2) Bb)$ RE [15] "gave" (Aa 5)$ Aa 0) Wh)
abbrev jD:Ev->M Fl:=(gg$ wu (eT$ qb Ko (qb Nb (Aa 3)$ eC$ Z 1)$ eC Ϛ) (ci Bb)$ ci$ Ra (qb Nb (Aa 3)$ eC$ Z 1) Bb)
def AB:Ev->M Fl:=
 (Qb IA$ Qb Yz$ Ww [(13,11),(11,13),(11,12)] [11,12,13] (qb Nb (Aa 3)$ eC$ Z 0) (qb Lh (Re (Gc [15] "accounts")$ Aa 0)$ Aa 2) (gg$ ci Bb)$ Qb jC$ Qb WB$ Qb KC$ Qb zD$ Qb IC jD)
def Mr:=kf 6 2 11 73 108 18 ["pot","step","as_asked","allowance"] (g:=AB) (hb:=by exact λa b c=>
 (Od (by walk_at "+21")$ Od (by walk_at "+3d021")$ x9 (Xj b) (lL a.Xh a.fj a.nk a.ik$ lL a.fj a.Xh a.yk a.sk$ lL a.fj a.ak a.jk a.wk zu3) (bO a.fj$ bO a.ak$ bO a.Xh ē) rfl (by walk_at "+3") (by walk_at "+d02") (by walk_at "+v")$ Od (by walk_at "+401")$ Od (by walk_at "+54d02")$ Od (by walk_at "+a035v")$ Od (by walk_at "+m302")$ Od (dr (kH$ Kf 4) (Od (Vu$ hV gf Pn PySem.F.type_dict_pop zyb zsa (by walk_at "+0")$ Oi (Kf 2) Rm)$ Bi$ iT rfl (fO a) (Kf 0)$ Kf 5) qu)$ by walk_at "+3vv3"))
instance zb8:fh 12 2 "take_step" ["self","letter"] [(15,Mr)]:=fh.gh 12 15 "take_step" Mr .nil
def Ei:=kf 2 2 12 70 108 15 [] (hb:=by walk_at "-b1a10v1vb01a10101")
instance zj3:fh 13 2 "take" ["self","letter"] [(15,Ei)]:=fh.gh 13 15 "take" Ei .nil
def bx:=kf 3 3 13 90 111 11 [] (hb:=by walk_at "-01d012")
instance zb9:fh 14 3 "hand_over" ["self","to","letter"] [(16,bx)]:=fh.gh 14 16 "hand_over" bx .nil
abbrev zR:Stmt:=jt (yi 111) 14
def ZJ:Ev->M Fl:=
 (Qb (Bm$ Pf [(16,Az)] 2 "check_letter" (Aa 0)$ Ra (Aa 1) Bb)$ Qb (Ye 3$ qb Nb (Re (Gc [16] "under_way")$ Aa 0)$ Aa 1)$ Qb (rh (Dq$ eT$ Aa 2) (Bm$ Qq Lq (Re (Gc [16] "under_way")$ Aa 0)$ Ra (Aa 1) Bb) Wh)$ Bm$ Pf [(16,bx)] 3 "hand_over" (Aa 0)$ Ra (qb Nb (Aa 3)$ eC$ Z 0)$ Ra (qb Nb (Aa 3)$ eC$ Z 1) Bb)
def Ec:B'->M D:=ee$ Vg 4 ZJ
def lS:Oc ["self","k","stays","sent"] ["self","k","stays"]$ zf zR:=Qs rfl rfl rfl (by decide +kernel)
def TZ:IE "deliver" "Hall.deliver" zR ["self","k","stays"] [Dg İ]:=λe e e e e e e e e e d b c=>⟨λa=>QF.ap [0,0,0] d (by simpa using a) (by intro _ _ _;show Oe _ _ _ _;exact Wc rfl b c rfl rfl),λa=>QF.ap [0,0] d (by simpa using a) (by intro _ _;show Oe _ _ _ _;exact Wc rfl b c rfl rfl)⟩
def KR:Rq ⟨K,ca,tx K⟩ P w mg base 15 (ca 93) ["self","k","stays"] [Dg İ] Ec:=
 Rq.ee (gL a.Ec lS λv v v v v v b=>
  by have c:=lS.nd;exact(Od (by walk_at "+01")$ Od (by walk_at "+3x01")$ Od (dr (UN$ kH$ Kf 2) (Bi$ Vu$ wx Cc Ff Gf mH MH (by walk_at "+0")$ Oi (Kf 1) Rm) qu)$ by walk_at "+033"))
abbrev cB:Ev->M Fl:=(Ye 5$ Uk GE$ Ra (IM (qb wh (Aa 4)$ eC$ Z 2)$ qb wh (qb Fi (Aa 3)$ eC$ Z 8)$ eC$ Z 0) Bb)
abbrev Xy:Ev->M Fl:=(Ye 6$ og 3 xu []$ Ra (qb Lh (Aa 1)$ Aa 4)$ Ra (Aa 5)$ Ra (qb Wr (Aa 3)$ eC$ Z 16) Bb)
abbrev Vy:Ev->M Fl:=(zF (Pf [(15,Er)] 2 "wish" (qb Lh (Aa 1)$ Aa 4)$ Ra (Aa 6) Bb)$ xk 2$ yg (ud 7)$ yg (ud 8) Tk)
abbrev Dy:Ev->M Fl:=(rh (eT$ qb wh (Aa 5)$ eC$ Z 0) (Bm$ Qq Xq (Aa 2)$ Ra (xj (zm$ bi$ Aa 8) [4] (ud 0) Yj$ Eh$ Ra (qb VD (eC$ Z 3)$ Aa 2)$ Ra (Aa 0) Bb) Bb) Wh)
abbrev wy:Ev->M Fl:=(gg$ qb wh (Pf [(16,qB)] 3 "wish" (Aa 0)$ Ra (Aa 4)$ Ra (Aa 6) Bb)$ Aa 7)
abbrev nM:Ev->M Fl:=(Ye 12$ Pf [(16,Ec)] 3 "deliver" (Aa 0)$ Ra (Aa 9)$ Ra (eC$ ϒ G6) Bb)
abbrev TJ:Ev->M Fl:=(Ye 12$ Pf [(16,λa=>Ec$ a++[ϒ İ])] 2 "deliver" (Aa 0)$ Ra (Aa 9) Bb)
abbrev OE:Ev->M Fl:=(Bm$ Qq Lq (Aa 2)$ Ra (Aa 9) Bb)
abbrev JA:Ev->M Fl:=(Ye 4$ qb Nb (ci$ Ra (eC$ Z 1)$ Ra (eC$ Z 2) Bb)$ qb Fi (qb Wr (Aa 3)$ eC$ Z 8)$ eC$ Z 2)
abbrev lG:Ev->M Fl:=(rh (Qr (eT$ qb oLt (qb Fi (Aa 3)$ eC$ Z 8)$ eC$ Z 3)$ eT$ qb wh (Aa 2)$ ci Bb) (Qb cB$ Qb Xy$ Qb Vy$ Qb Dy wy) Wh)
abbrev rF:Ev->M Fl:=(Ye 9$ qb Fi (qb Wr (Aa 3)$ eC$ Z 16)$ Uk Il$ Ra (Aa 2) Bb)
abbrev Rv:Ev->M Fl:=(rh (eT$ qb wh (qb Fi (Aa 3)$ eC$ Z 8)$ eC$ Z 3) (Qb OE$ gg$ qb Ko (Pf [(16,iD)] 2 "lose" (Aa 0)$ Ra (Aa 9) Bb)$ eC Ϛ) Wh)
abbrev Wy:Ev->M Fl:=(zF (qb Nb (Aa 2)$ Aa 9)$ xk 2$ yg (ud 10)$ yg (ud 11) Tk)
abbrev Ay:Ev->M Fl:=(Ye 12$ eC Ϛ)
abbrev pz:Ev->M Fl:=(rh (eT$ qb dC (Aa 12)$ eC Ϛ) (gg$ eC$ ϒ İ) Wh)
abbrev oz:Ev->M Fl:=(Bm$ Qq Xq (Aa 2)$ Ra (xj (zm$ bi$ Pf [(15,Ei)] 2 "take" (qb Lh (Aa 1)$ Aa 10)$ Ra (Aa 11) Bb) [10] (ud 0) Yj$ Eh$ Ra (qb VD (eC$ Z 3)$ Aa 2)$ Ra (Aa 0) Bb) Bb)
abbrev rz:Ev->M Fl:=(gg$ eC$ ϒ G6)
abbrev l3:Stmt:=yi 117
def OM:Ev->M Fl:=
 (Qb JA$ Qb lG$ Qb rF$ Qb Rv$ Qb Wy$ Qb Ay$ Qb (rh (eT$ qb wh (qb Fi (Aa 3)$ eC$ Z 8)$ eC$ Z 4) nM$ Qb TJ$ Bm$ Qq Lq (Aa 2)$ Ra (Aa 9) Bb)$ Qb pz$ Qb oz rz)
def Je:B'->M D:=ee$ Vg 13 OM
def nA:Oc ["_law_hall","_law_twins","_law_road","_law_draw","_law_hand","_law_pot","_law_wish_here","_law_done","_law_letters","_law_k","_law_to","_law_letter","_law_told"] ["_law_hall","_law_twins","_law_road","_law_draw"]$ zf l3:=Qs rfl rfl rfl (by decide +kernel)
def K3:Ii ⟨K,ca,tx K⟩ P w mg base 16 "_law_deed" ["_law_hall","_law_twins","_law_road","_law_draw"] Je:=
 Ii.ee (VB a.Je nA λz z z z z z z b=>
  by have d:=nA.nd;exact(Od (by walk_at "+4v3")$ Od (dr (by walk_at "+32v") (Od (Tr (i:=5) nA.nd rfl (ϑ rfl)$ wC Ħ Y1 rfl a.Iw boot_int$ by walk_at "+43")$ Od (Tr (i:=6) nA.nd rfl (ϑ rfl)$ Yr (xu.ok a) rfl (b.mono$ by decide) rfl$ Oi (Qw (Xj b) (Kf 1) (Kf 4)$ λz z=>rfl)$ by walk_at "+53")$ Od (gT (fE (k:=14) (ps:=["self","wish"]) rfl (Qw (Xj b) (Kf 1) (Kf 4)$ λz z=>rfl) (X7.ok a) (b.mono$ by decide)$ Oi (Kf 6) Rm)$ by walk_at "+78")$ by walk_at "+a52c4.y80200467") qu)$ Od (by walk_at "+932")$ Od (dr (by walk_at "+3") (Od (Vu$ wx Cc Ff Gf mH MH (Kf 2)$ Oi (Kf 9) Rm)$ by walk_at "+09") qu)$ Od (gT (by walk_at "+29")$ by walk_at "+:;")$ Od (by walk_at "+<")$ Od (dr (by walk_at "+3") (Bi$ Tr (i:=12) nA.nd rfl (ϑ rfl)$ X3 (k:=15) (c:=16) (ps:=["self","k","stays"]) rfl (Kf 0) (a.tc.get 16$ by decide) ((a.te.get (16,_)$ by repeat (first|with_reducible exact na|refine ma _ ?_)).get ("deliver",93)$ by repeat (first|with_reducible exact na|refine ma _ ?_)) (KR a) (b.mono$ by decide)$ by walk_at "+9")$ Od (Tr (i:=12) nA.nd rfl (ϑ rfl)$ å (n:=2) (dds:=[ϒ İ]) (dvs:=[Ϭ İ]) (k:=15) (c:=16) (ps:=["self","k","stays"]) rfl (Kf 0) (a.tc.get 16$ by decide) ((a.te.get (16,_)$ by repeat (first|with_reducible exact na|refine ma _ ?_)).get ("deliver",93)$ by repeat (first|with_reducible exact na|refine ma _ ?_)) (KR a) (Ϟ rfl Ϡ) (λz z=>(ub.cons (by rw[Oa]) ub.nil)) rfl (b.mono$ by decide)$ Oi (Kf 9) Rm)$ Bi$ Vu$ wx Cc Ff Gf mH MH (Kf 2)$ Oi (Kf 9) Rm)$ Od (by walk_at "+a<")$ Od (Vu$ wx Cc gm im vX TW (Kf 2)$ Oi (KJ (x:="_law_answer") (z0:="0") (M':=["_law_to"]) (ix:=[10]) rfl ⟨rfl,rfl,rfl,rfl,rfl,rfl⟩ (TQ$ cM rfl$ fE (k:=13) (ps:=["self","letter"]) rfl (Qw (Xj b) (Kf 1) (Kf 10)$ λz z=>rfl) (zj3.ok a) (b.mono$ by decide)$ Oi (Kf 11) Rm) (λz z z z z=>(by walk_at "+0")) (λz z z z z=>oV)$ λz z z z z=>(by walk_at "+20")) Rm)$ by walk_at ""))
abbrev QH:Ev->M Fl:=(Ye 2$ qb Fi (qb qz (qb Wj (qb Wj (qb Fi (Aa 0)$ eC$ Z 2147483647)$ qb qz (eC$ Z 7919)$ Aa 1)$ eC$ Z 1)$ eC$ Z 48271)$ eC$ Z 2147483647)
abbrev MF:Ev->M Fl:=(Ye 2$ qb Fi (qb qz (Aa 2)$ qb Wj (qb Wr (Aa 2)$ eC$ Z 1009)$ eC$ Z 69621)$ eC$ Z 2147483647)
abbrev MG:Ev->M Fl:=(Ye 2$ qb Fi (qb qz (Aa 2)$ qb Wj (qb Wr (Aa 2)$ eC$ Z 997)$ eC$ Z 16807)$ eC$ Z 2147483629)
abbrev sF:Ev->M Fl:=(Ye 3$ qb Fi (qb Wr (Aa 0)$ eC$ Z 2)$ qb Ap (eC$ Z 10)$ eC$ Z 40)
abbrev bG:Ev->M Fl:=(rh (eT$ qb wh (qb Fi (Aa 0)$ eC$ Z 2)$ eC$ Z 1) (gg$ Aa 2) Wh)
abbrev ZF:Ev->M Fl:=(rh (eT$ qb pU (Aa 3)$ qb Ap (eC$ Z 10)$ eC$ Z 20) (gg$ Aa 3) Wh)
abbrev gJ:Ev->M Fl:=(gg$ qb Wj (Aa 3)$ qb qz (qb Ap (eC$ Z 5040)$ eC$ Z 6)$ Aa 2)
def eF:Ev->M Fl:=
 (Qb QH$ Qb MF$ Qb MG$ Qb sF$ Qb bG$ Qb ZF gJ)
instance TD:ZqF 1 2 "_law_mixed" ["_law_cell","_law_k"]:=Dc 4 2 0 114 ["_law_number","_law_rest"] (g:=eF) (hb:=by walk_at "-20122222230a02a3332")
def vt:=kf 1 1 0 82 111 3 [] (hb:=by walk_at "-A0")
instance zj4:fh 1 1 "road" ["self"] [(16,vt)]:=fh.gh 1 16 "road" vt .nil
def kx:=eh 1 1 0 60 108 5 [] (hb:=by walk_at "-0")
instance zgb:fh 1 1 "given" ["self"] [(15,kx)]:=fh.gh 1 15 "given" kx .nil
abbrev RW:Ev->M Fl:=(Ye 3$ Pf [(16,qv)] 2 "keeper" (Aa 0)$ Ra (Aa 2) Bb)
abbrev iY:Ev->M Fl:=(Ye 4$ qb Lh (Aa 1)$ Aa 2)
abbrev mY:Ev->M Fl:=(rh (Qr (eT$ qb qh (Pf [(15,Yq)] 1 "worth" (Aa 3) Bb)$ Pf [(15,Yq)] 1 "worth" (Aa 4) Bb)$ Qr (eT$ qb qh (Pf [(15,kx)] 1 "given" (Aa 3) Bb)$ Pf [(15,kx)] 1 "given" (Aa 4) Bb)$ eT$ qb qh (Pf [(15,zu)] 1 "words" (Aa 3) Bb)$ Pf [(15,zu)] 1 "words" (Aa 4) Bb) (gg$ eC$ ϒ İ) Wh)
abbrev AT:Ev->M Fl:=(rh (Qr (eT$ qb qh (Re (Gc [10,11,12,13] "may")$ Pf [(15,Br)] 2 "account" (Aa 3)$ Ra (eC$ Z 0) Bb)$ Re (Gc [10,11,12,13] "may")$ Pf [(15,Br)] 2 "account" (Aa 4)$ Ra (eC$ Z 0) Bb)$ eT$ qb qh (Re (Gc [10,11,12,13] "mine")$ Pf [(15,Br)] 2 "account" (Aa 3)$ Ra (eC$ Z 0) Bb)$ Re (Gc [10,11,12,13] "mine")$ Pf [(15,Br)] 2 "account" (Aa 4)$ Ra (eC$ Z 0) Bb) (gg$ eC$ ϒ İ) Wh)
abbrev YC:Ev->M Fl:=(Qb RW$ Qb iY$ Qb mY AT)
def QS:Ev->M Fl:=
 (Qb (Uw (Aa 1)$ xp (oC$ Aa 1) (ud 2) YC)$ gg$ eC$ ϒ G6)
instance dM:ZqF 10 2 "_law_same" ["_law_hall","_law_twins"]:=Dc 5 2 9 116 ["_law_hand","_law_one","_law_other"] (g:=QS) (hb:=by exact λc a b=>
 (Od (UU$ Jy oq rfl (J9$ Kf 1) (by walk_at "+2")$ Od (by walk_at "+302")$ Od (Tr (i:=4) b rfl (ϑ rfl)$ Qw (Xj a) (Kf 1) (Kf 2)$ λv v=>rfl)$ by walk_at "+a343434a3434")$ by walk_at ""))
abbrev u1:Ev->M Fl:=(Ye 1$ rj$ xj (zm$ Zs$ eC$ Z 4) [0] (ud 0) Yj$ qb Fi (og 2 iG []$ Ra (Aa 2)$ Ra (Aa 0) Bb)$ qb Wj (qb Ap (eC$ Z 10)$ eC$ Z 12)$ eC$ Z 1)
abbrev u2:Ev->M Fl:=(Ye 2$ ci$ Ra (Eh$ Ra (eC$ Z 1)$ Ra (eC$ Z 2)$ Ra (qb Nb (Aa 1)$ eC$ Z 0)$ Ra (qb Nb (Aa 1)$ eC$ Z 1)$ Ra (eC$ Z 20) Bb)$ Ra (Eh$ Ra (eC$ Z 2)$ Ra (eC$ Z 3)$ Ra (qb Nb (Aa 1)$ eC$ Z 2)$ Ra (qb Nb (Aa 1)$ eC$ Z 3)$ Ra (eC$ Z 30) Bb) Bb)
abbrev u3:Ev->M Fl:=(Ye 3 uo)
abbrev wT:Ev->M Fl:=(Hr (qb Wj (eC$ Z 1)$ qb Fi (Aa 4)$ eC$ Z 3) (Aa 3)$ Aa 4)
abbrev u4:Ev->M Fl:=(Bn (Zs$ eC$ Z 60) (ud 4) wT)
abbrev u5:Ev->M Fl:=(Ye 5$ Kn 16 5 ll$ Xu []$ Ra (Aa 2)$ Ra (ci$ Ra (eC$ Z 2)$ Ra (eC$ Z 1) Bb)$ Ra (eC$ Z 6)$ Ra (Aa 3) Bb)
abbrev u6:Ev->M Fl:=(Ye 6$ Kn 16 5 ll$ Xu []$ Ra (Aa 2)$ Ra (ci$ Ra (eC$ Z 1)$ Ra (eC$ Z 2) Bb)$ Ra (eC$ Z 6)$ Ra (Aa 3) Bb)
abbrev u7:Ev->M Fl:=(Ye 7 uo)
abbrev AJ:Ev->M Fl:=(Hr (Kn 15 5 Wl$ Xu []$ Ra (Aa 8)$ Ra (eC$ Z 6)$ Ra (Aa 2)$ Ra (rj$ xj (zm$ Zs$ eC$ Z 60) [8,3] (ud 0) (eT$ qb wh (qb Lh (Aa 3)$ Aa 0)$ Aa 2)$ Aa 0) Bb) (Aa 7)$ Aa 8)
abbrev u8:Ev->M Fl:=(Bn (bi$ ci$ Ra (eC$ Z 1)$ Ra (eC$ Z 2) Bb) (ud 8) AJ)
abbrev u9:Ev->M Fl:=(Ye 9$ nv Bb)
abbrev m9:Ev->M Fl:=(rh (Dq$ eT$ og 4 Je []$ Ra (Aa 5)$ Ra (Aa 7)$ Ra (Aa 9)$ Ra (og 2 TD []$ Ra (qb Nb (Aa 0)$ Aa 10)$ Ra (Aa 10) Bb) Bb) (gg$ eC$ ϒ İ) Wh)
abbrev S7:Ev->M Fl:=(rh (Qr (eT$ qb qh (Pf [(16,vt)] 1 "road" (Aa 5) Bb)$ Aa 9)$ Dq$ eT$ og 2 dM []$ Ra (Aa 5)$ Ra (Aa 7) Bb) (gg$ eC$ ϒ İ) Wh)
abbrev YG:Ev->M Fl:=(Qb m9 S7)
abbrev RM:Ev->M Fl:=(Bn (mG (eC$ Z 4)$ Uk wA$ Ra (Uk Il$ Ra (Aa 0) Bb)$ Ra (eC$ Z 34) Bb) (ud 10) YG)
abbrev wF:Ev->M Fl:=(Ye 11$ Pf [(16,vt)] 1 "road" (Aa 5) Bb)
abbrev hG:Ev->M Fl:=(Bm$ Qq zi (Aa 11)$ Ra (Eh$ Ra (eC$ Z 1)$ Ra (eC$ ϔ "x") Bb) Bb)
abbrev tG:Ev->M Fl:=(rh (Qr (eT$ qb qh (Pf [(16,vt)] 1 "road" (Aa 6) Bb)$ ci Bb)$ Qr (eT$ qb qh (Pf [(15,Yq)] 1 "worth" (Pf [(16,qv)] 2 "keeper" (Aa 6)$ Ra (eC$ Z 1) Bb) Bb)$ qb Nb (Aa 1)$ eC$ Z 0)$ eT$ qb qh (Pf [(15,Yq)] 1 "worth" (Pf [(16,qv)] 2 "keeper" (Aa 6)$ Ra (eC$ Z 2) Bb) Bb)$ qb Wj (qb Nb (Aa 1)$ eC$ Z 1)$ qb Nb (Aa 1)$ eC$ Z 2) (gg$ eC$ ϒ İ) Wh)
abbrev mI:Ev->M Fl:=(gg$ qb wh (Pf [(16,vt)] 1 "road" (Aa 5) Bb)$ Aa 9)
abbrev B2:Stmt:=yi 118
def iR:Ev->M Fl:=
 (Qb u1$ Qb u2$ Qb u3$ Qb u4$ Qb u5$ Qb u6$ Qb u7$ Qb u8$ Qb u9$ Qb RM$ Qb wF$ Qb hG$ Qb tG mI)
def vm:B'->M D:=Vg 12 iR
def UG:Oc ["_law_script","_law_coins","_law_pots","_law_words","_law_word","_law_hall","_law_still","_law_twins","_law_hand","_law_road","_law_k","_law_found"] ["_law_script"]$ zf B2:=Qs rfl rfl rfl (by decide +kernel)
def S9:wN ⟨K,ca,tx K⟩ P w mg 17 "law" ["_law_script"] vm:=
 Q6 a.vm UG λz z z z z z z z b=>
  by have d:=UG.nd;exact(Od (by walk_at "+q10.y020")$ Od (by walk_at "+2v1111")$ Od (by walk_at "+3n")$ Od (by walk_at "+f4m434")$ Od (Tr (i:=5) UG.nd rfl (ϑ rfl)$ YH (c:=16) (ps:=["self","pots","keeps","every","words"]) a.Js a.cq (kR a) (ϑ rfl) Ϡ (λz z=>ub.nil) rfl (b.mono$ by decide) rfl$ by walk_at "+2v3")$ Od (Tr (i:=6) UG.nd rfl (ϑ rfl)$ YH (c:=16) (ps:=["self","pots","keeps","every","words"]) a.Js a.cq (kR a) (ϑ rfl) Ϡ (λz z=>ub.nil) rfl (b.mono$ by decide) rfl$ by walk_at "+2v3")$ Od (by walk_at "+7n")$ Od (Vx oq rfl (by walk_at "+v") (by walk_at "+8")$ Bi$ KG (Xj b) (YH (c:=15) (ps:=["self","hand","every","pots","words"]) a.zo a.Am (dS a) (ϑ rfl) Ϡ (λz z=>ub.nil) rfl (b.mono$ by decide) rfl$ Oi (Kf 8)$ Oi qD$ Oi (Kf 2)$ Oi (bM$ KJ (x:="_law_word") (z0:="0") (M':=["_law_hand","_law_words"]) (ix:=[8,3]) rfl ⟨rfl,rfl,rfl,rfl,rfl,rfl⟩ (by walk_at "+y") (λz z z z z=>(by walk_at "+0")) (λz z z z z=>(mQ$ Tq (aO$ Xj b) nu (Qw (Xj b) (Kf 3) (Kf 0)$ λz z=>rfl) (Kf 2)$ um _))$ λz z z z z=>(Kf 0)) Rm) (Kf 7)$ Kf 8)$ Od (by walk_at "+9l")$ Od (Vx oq rfl (lT rfl a.Sm qD$ Ky (rT rfl) jY rfl a.Yp boot_min$ by walk_at "+0") (by walk_at "+:")$ Od (dr (UN$ kH$ Yr (K3 a) rfl (b.mono$ by decide) rfl$ by walk_at "+5790::") (by walk_at "") qu)$ by walk_at "+a5957")$ by walk_at "+;5;a6v6161159")
end
end K51
namespace K51
open L2 L4
set_option maxHeartbeats 4000000
section
variable{α:Type}{xs:List α}{σ:Ha}{fi:Ev->M Bool}{fe:Ev->M D}{tg:D->Ev->Option Ev}{nx:NX}{rest:Ev}
def uF(ϋ:Option D->Prop)(v a:α->D)(b:α->Option D) p y(w:∀ i j,i<=xs.length->nx i (σ++j)=BD ((xs[i]?).map v))(z:∀ x o c,ϋ c->tg (v x) (o::c::rest)=BD (BD (a x)::b x::rest)/\ϋ (b x))
  (h:∀ x∈xs,∀ j,fi (BD (a x)::b x::rest) (σ++j)=Y (p x) (σ++j)/\(p x=G6->fe (BD (a x)::b x::rest) (σ++j)=Y (y x) (σ++j))) (B:xs.length<=1000) :
  ∀ k i o c f,ϋ c->xs.length<k+i->i<=xs.length->f.length<=i->
   di nx σ.length tg fi fe k i (o::c::rest) (σ++[ϐ f])=Y () (σ++[ϐ$ f++((xs.drop i).filter p).map y]):=by
 intro k;induction k with
 |zero=>intro i o c f _ t n;omega
 |succ k r=>
  intro i o c f u t n C;unfold di;rw[w i _ n];cases e:xs[i]? with
  |none=>
   have l:=Jb.mp e;rw[Zo l];simp
  |some d=>
   obtain⟨l,m⟩:=da.mp e;have q:xs.drop i=d::xs.drop (i+1):=by rw[<-m];exact We l
   apply b_;intro z_;obtain⟨s1,s2⟩:=h d (by rw[<-m];exact Ch l) [ϐ f];obtain⟨A,s⟩:=z d o c u;apply z_;simp only[Ih,A];rw[tj,yA s1,Sd];by_cases g:p d=G6
   ·rw[g,ka rfl,tj,yA$ s2 g,Sd,tj,Rz ⋯,Sd,r (i+1) _ _ _ s ⋯ ⋯ (by simp;omega),q,se,ka g];simp
   ·rw[ua g,r (i+1) _ _ f s ⋯ ⋯ ⋯,q,se,ua g]
end
def BA{xs}(h:rf xs=G6):Vf a (Y (O a.length)$ a++[ϐ xs])=Y (ύ xs) a:=by
 have:=CS (σ:=a) (j:=[]) (j':=[]) h
 simp_all
def JD{e:Type}{xs:List e}{src}{s}{ix}{fi}{fe}{ρ}{σ} v y p(m:src ρ σ=Y s σ)(l:∀ i j,s.nx i (σ++j)=BD ((xs[i]?).map v))(k:xs.length<=1000)
  (a:∀ x∈xs,∀ j,fi (BD (v x)::Α::(ix.map λi=>(ρ[i]?).getD Α)) (σ++j)=Y (p x) (σ++j)/\(p x=G6->fe (BD (v x)::Α::(ix.map λi=>(ρ[i]?).getD Α)) (σ++j)=Y (y x) (σ++j))) (f:∀ x∈xs,p x=G6->cl (y x)=G6) :
  rj (xj (zm src) ix (ud 0) fi fe) ρ σ=Y (ύ$ (xs.filter p).map y) σ:=by
 show Vf σ (Rc (Rc _ JE) _ σ)=_;rw[tj,tj,m,Sd];show Vf σ (Rc (di s.nx σ.length (ud 0) fi fe 1001 0$ Α::Α::(ix.map λi=>(ρ[i]?).getD Α)) _$ σ++[ϐ []])=_;rw[tj,uF (λo=>o=Α) v v (λd=>Α) p y (λi j d=>l i j) (λx o q h=>by subst h;exact⟨rfl,rfl⟩) a k 1001 0 Α Α [] rfl ⋯ ⋯ ⋯,Sd];refine Eq.trans (Cb (Vf σ) ?_)$ BA (Fn λd g=>by obtain⟨x,n,rfl⟩:=wa.mp g;obtain⟨b,c⟩:=Gd.mp n;exact f x b c);simp
def ev{c:Type}{xs:List c}{src}{s}{ix}{fe}{ρ}{σ} v y(h:src ρ σ=Y s σ)(g:∀ i j,s.nx i (σ++j)=BD ((xs[i]?).map v))(f:xs.length<=1000)
  (a:∀ x∈xs,∀ j,fe (BD (v x)::Α::(ix.map λi=>(ρ[i]?).getD Α)) (σ++j)=Y (y x) (σ++j)) (e:∀ x∈xs,cl (y x)=G6) :
  rj (xj (zm src) ix (ud 0) Yj fe) ρ σ=Y (ύ$ xs.map y) σ:=by
 have:=JD (p:=λk=>G6) v y (fi:=Yj) h g f (λd b j=>⟨rfl,λk=>a d b j⟩) (λd b k=>e d b)
 rwa [Ag.mpr λk k=>rfl]at this
def R7{h:Type}{xs:List h}{e}{nx}{ix}{fe}{ρ}{c}(a b y:h->D)(p:e ρ c=Y nx c)(n:∀ i j,i<=xs.length->nx i (c++j)=BD ((xs[i]?).map λx=>Ϗ [a x,b x]))(m:xs.length<=1000)
  (f:∀ x∈xs,∀ j,fe (BD (a x)::BD (b x)::(ix.map λi=>(ρ[i]?).getD Α)) (c++j)=Y (y x) (c++j)) (k:∀ x∈xs,cl (y x)=G6) :
  rj (xj e ix (xk 2$ yg (ud 0)$ yg (ud 1) Tk) Yj fe) ρ c=Y (ύ$ xs.map y) c:=by
 show Vf c (Rc _ _ c)=_;rw[tj,p,Sd];show Vf c (Rc (di nx c.length _ Yj fe 1001 0$ Α::Α::(ix.map λi=>(ρ[i]?).getD Α)) _ _)=_;rw[tj,uF (λd=>True) _ a _ _ y n (λx o q d=>⟨rfl,trivial⟩) (λx g j=>⟨rfl,λd=>f x g j⟩) m 1001 0 Α Α [] trivial ⋯ ⋯ ⋯,Sd];refine Eq.trans (Cb _ ?_)$ BA (Fn λd l=>by obtain⟨x,g,rfl⟩:=wa.mp l;exact k x g);have fe:List.filter _ xs=xs:=Ag.mpr λd d=>rfl;simp[fe]
noncomputable def Sc:D->Bool
 | Z _=>G6
 | Ϛ=>G6
 | ϒ _=>G6
 | ϔ _=>G6
 |_=>İ
noncomputable def bd(d:D)(a b:Int):Bool:=match d with
 | Z i=>decide (a<=i) && decide (i<=b)
 |_=>İ
theorem Ì x a:Dw .int (ϔ x) a=Y (ϒ İ) a:=nr rfl
def e8(h:Sc d=G6) a:ZP [d] a=Y (ϒ$ match d with | Z _=>G6|_=>İ) a:=by
 unfold ZP Dc;cases d with
 |int i=>simp
 |ic=>simp
 |bl b=>simp
 |str x=>simp[Ì]
 |_=>cases h
def Qx(h:Sc d=G6) a b c:mC [d,Z a,Z b] c=Y (ϒ$ bd d a b) c:=by
 have w:=e8 h;unfold mC Dc;cases d with
 |int i=>cases e:decide (a<=i)<;>simp[bd,e,w]
 |ic=>simp[bd,w]
 |bl b=>simp[bd,w]
 |str x=>simp[bd,w]
 |_=>cases h
theorem U7 a b c d e r f:Nb (Ϗ$ a::b::c::d::e::r) (Z 4) f=Y e f:=dA$ Qo rfl
@[simp] theorem yeu f lo b a c:vF f lo b a c=(f a c).bind (tO (lz lo a)$ lz b a):=nr rfl
@[simp] theorem yba lo a x b:tO lo a x b=(lo b).bind (kM x a):=nr rfl
@[simp] theorem ybb x a lo b:kM x a lo b=(a b).bind (Au x lo):=nr rfl
@[simp] theorem zuu b a:lz Α b a=Y Α a:=nr rfl
@[simp] theorem zuv f a b:lz (BD f) a b=(f a b).bind oN:=nr rfl
@[simp] theorem zzj i a:oN (Z i) a=Y (BD i) a:=nr rfl
@[simp] theorem iA xs lo a b:Au (Ϗ xs) lo a b=Y (Ϗ$ Ss xs lo a) b:=nr rfl
@[simp] theorem ypz a r b:Nb (ύ$ a::r) (Z 0) b=Y a b:=WA$ Qo rfl
@[simp] theorem yp0 a b r c:Nb (ύ$ a::b::r) (Z 1) c=Y b c:=WA$ Qo rfl
@[simp] theorem yp1 a b c r d:Nb (ύ$ a::b::c::r) (Z 2) d=Y c d:=WA$ Qo rfl
@[simp] theorem yp2 a b c d r e:Nb (ύ$ a::b::c::d::r) (Z 3) e=Y d e:=WA$ Qo rfl
theorem ay(h:nx i c=BD (BD d))(f:b d e=BD ρ1):Hn nx b a (k+1) i e c=(a ρ1 c).bind (fu$ Hn nx b a k$ i+1):=by
 rw[Hn];simp only[h,f];rfl
def YF(h:nx i b=BD Α):Hn nx d a (k+1) i c b=Y (ϙ c) b:=by
 rw[Hn];simp only[h]
@[simp] theorem Q2 f a b:yG f a b=(f a b).bind Ox:=nr rfl
@[simp] theorem Mw b d a c e:xp b d a c e=vk c (MI d a c) (b c e):=kl ..
theorem mX{xs}(b:pi a x=BD xs)(h:rf xs=G6):Vf a (Io [x] a)=Y (ύ xs) a:=by
 have e:Io [x] a=Y (O a.length) (a++[ϐ xs]):=by unfold Io;simp[b];rfl
 have:=CS (σ:=a) (j:=[]) (j':=[]) h
 simp_all
section
variable{σ:Ha}{x:D}{xs:B'}
def dU(h:uf σ x=BD xs):Ox x σ=Y (Ms x) σ:=by unfold Ox;rw[h]
def XI(h:uf σ x=BD xs)(a:xs[i]?=BD d):Ms x i σ=BD (BD$ Ϗ [Z i,d]):=by unfold Ms;rw[h];simp[a]
def pP(h:uf σ x=BD xs):Ms x xs.length σ=BD Α:=by unfold Ms;rw[h];simp
end
@[simp] theorem b_0:(("accept" : Str) == "offer")=İ:=by decide
@[simp] theorem b_1:(("agree" : Str) == "strike")=İ:=by decide
@[simp] theorem b_2:(("agree" : Str) == "word")=İ:=by decide
@[simp] theorem b_3:(("ask" : Str) == "accept")=İ:=by decide
@[simp] theorem b_4:(("ask" : Str) == "offer")=İ:=by decide
@[simp] theorem b_5:(("ask" : Str) == "struck")=İ:=by decide
@[simp] theorem b_6:(("ask" : Str) == "word")=İ:=by decide
@[simp] theorem b_7:(("drop" : Str) == "finish")=İ:=by decide
@[simp] theorem b_8:(("drop" : Str) == "give")=İ:=by decide
@[simp] theorem b_9:(("drop" : Str) == "pass")=İ:=by decide
@[simp] theorem yv5:(("drop" : Str) == "pay")=İ:=by decide
@[simp] theorem yv6:(("drop" : Str) == "settle")=İ:=by decide
@[simp] theorem yv7:(("give" : Str) == "settle")=İ:=by decide
@[simp] theorem yv8:(("pass" : Str) == "give")=İ:=by decide
@[simp] theorem yv9:(("pass" : Str) == "pay")=İ:=by decide
@[simp] theorem ywa:(("pass" : Str) == "settle")=İ:=by decide
@[simp] theorem ywb:(("pay" : Str) == "give")=İ:=by decide
@[simp] theorem ywc:(("pay" : Str) == "settle")=İ:=by decide
@[simp] theorem ywd:(("settle" : Str) == "drop")=İ:=by decide
@[simp] theorem ywe:(("settle" : Str) == "finish")=İ:=by decide
@[simp] theorem ywf:(("settle" : Str) == "give")=İ:=by decide
@[simp] theorem ywg:(("settle" : Str) == "pass")=İ:=by decide
@[simp] theorem ywh:(("settle" : Str) == "pay")=İ:=by decide
@[simp] theorem ywi:(("strike" : Str) == "word")=İ:=by decide
@[simp] theorem ywj:(("struck" : Str) == "accept")=İ:=by decide
@[simp] theorem ywk:(("struck" : Str) == "offer")=İ:=by decide
theorem EA{xs}(h:rf xs=G6) a:Vf a (Io [ύ xs] a)=Y (ύ xs) a:=mX (K1 xs) h
def Bq(xs:List a)(v:a->D)(i:Nat):(xs.map v)[i]?=(xs[i]?).map v:=Ja ..
def bt(h:a<=i/\i<=b) c:mC [Z i,Z a,Z b] c=Y (ϒ G6) c:=by
 rw[Qx rfl];simp[bd,h]
def AM(h:s=0\/s=1) c:IV [Z s] c=Y (ϒ G6) c:=by
 unfold IV Dc;simp[(bt (i:=s) (a:=0) (b:=1) ⋯ c)]
def nX(h:0<=s/\s<=59) a:xQ [Z s] a=Y (ϒ G6) a:=by
 unfold xQ Dc;simp[(bt h a)]
def BL(h:0<=s/\s<=1000000) a:zS [Z s] a=Y (ϒ G6) a:=by
 unfold zS Dc;simp[(bt h a)]
def yX(h:0<=p/\p<=2) a:nY [Z p] a=Y (ϒ G6) a:=by
 unfold nY Dc;simp[(bt h a)]
def aN s a:eQ [Z s] a=Y (Z$ 1 - s) a:=by
 unfold eQ Dc;simp
structure Ti where
 (p a w y:Int)
noncomputable def Ti.D(t:Ti):L4.D:=Ϗ [Z t.p,Z t.a,Z t.w,Z t.y]
structure Ti.Ok(t:Ti):Prop where
 p:t.p=0\/t.p=1
 a:1<=t.a/\t.a<=1000000000000
 w:0<=t.w/\t.w<=59
 y:0<=t.y/\t.y<=1000000
noncomputable def Oo(b:List Ti):Int:=(b.map Ti.a).sum
def Hl(n a b:Int)(c:List Ti):D:=Ϗ [Z n,Ϗ [Z a,Z b],Ϗ$ c.map Ti.D]
def SU{t:Ti}(f:t.p=0\/t.p=1)(g:0<=t.w/\t.w<=59)(h:0<=t.y/\t.y<=1000000) b:lI [t.D] b=Y (ϒ$ bd (Z t.a) 1 1000000000000) b:=by
 have c:AG [Z t.a] b=Y (ϒ$ bd (Z t.a) 1 1000000000000) b:=by
  unfold AG Dc;simp[(Qx (d:=Z t.a) rfl 1 1000000000000 b)]
 have e:HS [Z t.y] b=Y (ϒ G6) b:=by
  unfold HS Dc;dsimp only;simp[(bt h b)]
 unfold Ti.D lI Dc;dsimp only;generalize bd _ 1 1000000000000=B at *;cases B<;>simp[(AM f b),c,(nX g b),e]
def R6{t:Ti}(h:t.Ok) b:lI [t.D] b=Y (ϒ G6) b:=by
 rw[SU h.p h.w h.y];simp[bd,h.a]
def t4{a:List Ti}(p:∀ t∈a,t.Ok)(u:a.length<=6) b:zH [Ϗ$ a.map Ti.D] b=Y (ϒ$ decide (a.map Ti.w).Nodup) b:=by
 have k:∀ b,bi (Aa 0) [BD$ Ϗ$ a.map Ti.D] b=Y (.seq$ a.map Ti.D) b:=λb=>by simp
 have l1:=ev (ix:=[]) (fe:=og 1 lI []$ Ra (Aa 0) Bb) Ti.D (λd=>ϒ G6) (k b) (λi d=>Cb BD$ Bq a _ i) ⋯ (λt h j=>by
  have:=R6 (p t h)$ b++j;simp[this]) (λd d=>by simp)
 have l2:=ev (ix:=[]) (fe:=qb Nb (Aa 0)$ eC$ Z 2) Ti.D (λt=>Z t.w) (k b) (λi d=>Cb BD$ Bq a _ i) ⋯ (λt h j=>by simp[Ti.D]) (λd s=>by simp);have m:a.map (λt=>Z t.w)=(a.map Ti.w).map Z:=by rw[Ta];rfl
 rw[m]at l2;have c:=J6 (σ:=b) (f:=λd:Ti=>G6) (l:=a);rw[show a.all _=G6 from gb.mpr λd d=>rfl]at c;have s1:=ū (σ:=b) (l:=a.map Ti.w) (by simp;lia);have q:Il [Ϗ$ a.map Ti.D] b=Y (Z (a.length:Int)) b:=by
  have:=QT (σ:=b)$ a.map Ti.D;simpa using this
 have o:decide ((a.length:Int) > 6)=İ:=by simp;lia
 have n:(((Jk$ a.map Ti.w).length:Int) == (a.length:Int))=decide (a.map Ti.w).Nodup:=by
  have g:=B4$ a.map Ti.w;have e:(a.map Ti.w).length=a.length:=by simp
  by_cases h:(a.map Ti.w).Nodup
  ·rw[Eb h,g.mpr h,e];simp
  ·rw[Xa h];have:(Jk _).length≠a.length:=λz=>h$ g.mp (by rw[z,e]);simp;lia
 unfold zH Dc;dsimp only;generalize ((Jk _).length:Int)=M,(a.length:Int)=N,a.map (λd=>ϒ G6)=r,a.map Ti.D=TT,(a.map Ti.w).map Z=W at *;simp[l1,l2,c,s1,q,o,n,-Jq]
def Np(a b:Int):Bool:=bd (Z a) 0 2000000000000 && bd (Z b) 0 2000000000000
def gK(g:0<=n/\n<=1000000)(h:∀ t∈ts,t.Ok)(f:ts.length<=6) c:mu [Hl n a b ts] c=Y (ϒ$ Np a b && decide (ts.map Ti.w).Nodup) c:=by
 have e:II [Ϗ [Z a,Z b]] c=Y (ϒ$ Np a b) c:=by
  have w:=Qx (d:=Z a) rfl 0 2000000000000 c;unfold II Np Dc;dsimp only;generalize bd _ 0 2000000000000=B at *;cases B<;>simp[w,(Qx (d:=Z b) rfl 0 2000000000000 c)]
 unfold Hl mu Dc;dsimp only;generalize Np a b=B,Ϗ _=TT at *;cases B<;>simp[(BL g c),e,(t4 h f c)]
def sZ{a:List Ti}(d:6<a.length) b:zH [Ϗ$ a.map Ti.D] b=Y (ϒ İ) b:=by
 have c:decide ((a.length:Int) > 6)=G6:=by simp;lia
 unfold zH Dc;simp[c]
def t5(g:0<=n/\n<=1000000)(f:6<ts.length) c:mu [Hl n a b ts] c=Y (ϒ İ) c:=by
 have e:II [Ϗ [Z a,Z b]] c=Y (ϒ$ Np a b) c:=by
  have w:=Qx (d:=Z a) rfl 0 2000000000000 c;unfold II Np Dc;dsimp only;generalize bd _ 0 2000000000000=B at *;cases B<;>simp[w,(Qx (d:=Z b) rfl 0 2000000000000 c)]
 unfold Hl mu Dc;dsimp only;generalize Np a b=B,Ϗ _=TT at *;cases B<;>simp[(BL g c),e,(sZ f c)]
structure Zn(n a b:Int)(ts:List Ti):Prop where
 n:0<=n/\n<=1000000
 a:0<=a/\a<=2000000000000
 b:0<=b/\b<=2000000000000
 t:∀ t∈ts,t.Ok
 l:ts.length<=6
 d:(ts.map Ti.w).Nodup
def Iy(h:Zn n a b ts) c:mu [Hl n a b ts] c=Y (ϒ G6) c:=by
 rw[gK h.n h.t (by have:=h.l;omega)];simp[Np,bd,h.a,h.b,h.d]
def xI(t:Ti):cl t.D=G6:=by unfold Ti.D;simp
def eV(b:List Ti):rf (b.map Ti.D)=G6:=Fn λd a=>by obtain⟨t,_,rfl⟩:=wa.mp a;exact xI t
def KS n a b c:cl (Hl n a b c)=G6:=by
 unfold Hl;simp[eV]
def ZZ(f:0<=u/\u<=1000000000000)(g:0<=v/\v<=1000000000000) c:OG [Z u,Z v] c=Y (Hl 0 u v []) c:=by
 have d:=Iy (n:=0) (a:=u) (b:=v) (ts:=[]) ⟨by lia,by lia,by lia,by simp,by simp,by simp⟩ c;have e:oh [Z 0,Ϗ [Z u,Z v],Ϛ] c=Y (Hl 0 u v []) c:=by
  unfold Hl at d ⊢;simp at d ⊢;unfold oh XN;simp[d]
 unfold OG Dc;simp[e,(KS 0 u v [])]
def C0 a b c:Oy [Ϗ [Z a,Z b]] c=Y (Z$ a+b) c:=by
 simp[Oy,cr]
def TN(l:gV) a:Oy [ύ$ l.map Z] a=Y (Z l.sum) a:=by
 simp[Oy]
def ZG n a b(m:c.length<=6) e:RH [Hl n a b c] e=Y (Z$ a+b+Oo c) e:=by
 have g:∀ e,Nb (Hl n a b c) (Z 1) e=Y (Ϗ [Z a,Z b]) e:=λe=>by simp[Hl]
 have l:=ev (s:=.seq _) (ix:=[]) (fe:=qb Nb (Aa 0)$ eC$ Z 1) (ρ:=[BD$ Hl n a b c]) (σ:=e) (src:=bi$ qb Nb (Aa 0)$ eC$ Z 2) Ti.D (λt=>Z t.a) (by rfl) (λi d=>Cb BD$ Bq c _ i) ⋯ (λt h j=>by simp[Ti.D]) (λd k=>by simp);have f:c.map (λt=>Z t.a)=(c.map Ti.a).map Z:=by rw[Ta];rfl
 rw[f]at l;have o:=TN (c.map Ti.a) e;unfold RH Dc;dsimp only;generalize (c.map Ti.a).map Z=G,Hl n a b c=S at *;simp[g,l,C0,o,Oo,-Jq]
def XJ(h:Zn n a b d) c:FF [Hl n a b d,Z$ a+b+Oo d] c=Y (ϒ G6) c:=by
 unfold FF Dc;simp[(Iy h c),(ZG n a b (by have:=h.l;omega) c)]
abbrev Kv:=List$ Bd × D
structure Sn where
 (n a b:Int)
 ts:List Ti
def Sn.D(s:Sn):L4.D:=Hl s.n s.a s.b s.ts
def Hi(s:Sn):cl s.D=G6:=KS ..
def pF(b:List Sn):rf (b.map Sn.D)=G6:=Fn λd a=>by obtain⟨s,_,rfl⟩:=wa.mp a;exact Hi s
def s0(s:Sn) a:Nb s.D (Z 0) a=Y (Z s.n) a:=by unfold Sn.D Hl;simp
def s1(s:Sn) c:Nb s.D (Z 1) c=Y (Ϗ [Z s.a,Z s.b]) c:=by unfold Sn.D Hl;simp
def s2(s:Sn) a:Nb s.D (Z 2) a=Y (Ϗ$ s.ts.map Ti.D) a:=by unfold Sn.D Hl;simp
noncomputable def ow(q:Int)(s:Sn):Int:=if q=0 then s.a else s.b
def lQ(d:q=0\/q=1) s c:Nb (Ϗ [Z s.a,Z s.b]) (Z q) c=Y (Z$ ow q s) c:=by
 rcases d with rfl|rfl<;>simp[ow]
structure Sn.Ok(W:Int)(s:Sn):Prop where
 st:Zn s.n s.a s.b s.ts
 w:s.a+s.b+Oo s.ts=W
abbrev Pv:=Int × List Sn
def Qe(p:Pv):D:=Ϗ [Z p.1,ύ$ p.2.map Sn.D,ϩ [] []]
noncomputable def Zi(e:Int)(K:gV)(P:B'):D:=ϻ 14 ["every","last_look","known","pots"] [Z e,Z 0,ύ$ K.map Z,ύ P]
theorem IF(K:gV):rf (K.map Z)=G6:=Fn λd a=>by obtain⟨s,_,rfl⟩:=wa.mp a;rfl
def eU p:cl (Qe p)=G6:=by unfold Qe;simp[cl,pF]
def yT(ps:List Pv):rf (ps.map Qe)=G6:=Fn λd a=>by obtain⟨p,_,rfl⟩:=wa.mp a;exact eU p
def V6 e K(h:rf P=G6):cl (Zi e K P)=G6:=by unfold Zi;simp[h]
structure Lo where
 (w:Int)
 (k:Str)
 (v d:Int)
noncomputable def Lo.D(l:Lo):L4.D:=Ϗ [ϔ l.k,Z l.v,Z l.d]
structure Rd where
 (f:Int)
 (x:List Lo)
noncomputable def Ri(x:List Lo):Kv:=x.map λl=>(.inl l.w,l.D)
noncomputable def Rd.D(r:Rd):L4.D:=Ϗ [Z r.f,ϩ ((Ri r.x).map (·.1)) ((Ri r.x).map (·.2))]
noncomputable def lk(e:Int)(K:gV)(q:Int)(t:Ti):Str:=if t.p=q then (if t.y<=0 then "back" else "open")else if t.y<=0 then "gone" else if t.w∈K/\e<t.y then "sure" else "hangs"
noncomputable def ZM(k:Str):Bool:=k == "sure" || k == "back"
def fa(e:Int)(K:gV)(q:Int)(t:Ti):Int:=if ZM (lk e K q t)then t.a else 0
def dB(e:Int)(K:gV)(q:Int)(a:List Ti):Int:=(a.map$ fa e K q).sum
def lo(e:Int)(K:gV)(q:Int)(t:Ti):Lo:=⟨t.w,lk e K q t,t.a,t.y⟩
def rd(e:Int)(K:gV)(q:Int)(s:Sn):Rd:=⟨ow q s+dB e K q s.ts,s.ts.map$ lo e K q⟩
def HP(l:Lo):cl l.D=G6:=by unfold Lo.D;simp
def FQ x:rf ((Ri x).map (·.2))=G6:=Fn λd a=>by
 unfold Ri at a;rw[Ta]at a;obtain⟨l,_,rfl⟩:=wa.mp a;exact HP l
def uI(r:Rd):cl r.D=G6:=by unfold Rd.D;simp[cl,FQ]
def ŀ(b:List Rd):rf (b.map Rd.D)=G6:=Fn λd a=>by obtain⟨s,_,rfl⟩:=wa.mp a;exact uI s
@[simp] theorem WJ b a:uo b a=Y (O a.length) (a++[ώ []]):=nr rfl
@[simp] theorem zic o f b a c:iI o f b a c=(f a c).bind (mz o$ b a):=nr rfl
@[simp] theorem tQ f c b a d:Hr f c b a d=vk a (BO a c b) (f a d):=kl ..
@[simp] theorem jX c b d a e:BO a c b d e=vk a (HJ a b d) (c a e):=kl ..
@[simp] theorem nV b d x a c:HJ a b d x c=vk a (zn a d x) (b a c):=kl ..
theorem Uq(h:σ[n]?=BD (ώ kvs))(a:kvs.length<1000):zn ρ d (O n) (Z w) σ=Y (ϙ ρ) (σ.set n$ ώ$ Ni kvs (.inl w) d):=by
 unfold zn;simp only[Ai,h];rw[ka (show kvs.length<lg from a)]
theorem xG{f:D->Option D}(a:∀ d,cl d=G6->f d=BD d):∀ {xs:B'},rf xs=G6->Hk f xs=BD xs
 |[],_=>rfl
 |x::xs,h=>by
  rw[rf,Ma]at h;rw[Hk,a x h.1,xG a h.2]
theorem BU(h:rf (kvs.map (·.2))=G6):fz σ.length (σ++ώ kvs::j) (m+1) (O σ.length)=BD (ϩ (kvs.map (·.1)) (kvs.map (·.2))):=by
 have e:(σ++ώ kvs::j)[σ.length]?=BD (ώ kvs):=by simp
 unfold fz;dsimp only;rw[ua$ Ud _,e];dsimp only;rw[xG (λd a=>Ow a) h];rfl
theorem B9 b m(xs:gV):Mv b (Z m) (xs.map Z)=BD (xs.map λx=>decide$ x=m):=by
 induction xs with
 |nil=>rfl
 |cons x xs a=>
  rw[nb,nb,Mv,a];rfl
def Ċ(K:gV) w a:TF İ (Z w) (ύ$ K.map Z) a=Y (ϒ$ decide$ w∈K) a:=by
 have:pi a (ύ _)=BD (K.map Z):=rfl;unfold TF;simp only[this,B9];have e:((K.map λx=>decide$ x=w).any id)=decide (w∈K):=by
  rw[OB];by_cases h:w∈K
  ·rw[Eb h,Uc];exact⟨w,h,by simp⟩
  ·rw[Xa h,ek];intro x b;simp;intro z;exact h$ z ▸ b
 simp[e]
def Ï e K q t:lk e K q t = "back"\/lk e K q t = "open"\/lk e K q t = "gone"\/lk e K q t = "sure"\/lk e K q t = "hangs":=by
 unfold lk;repeat' split
 all_goals simp
theorem U0 e K q t a:RF İ ["won","sure","back"] (ϔ$ lk e K q t) a=Y (ϒ$ ZM$ lk e K q t) a:=by
 rcases Ï e K q t with h|h|h|h|h<;>rw[h]<;>exact nr rfl
section
variable(e:Int)(K:gV)(P:B')(σ:Ha)(q:Int)(ss:List Sn)
def e7 t:YJ [Zi e K P,Qe (q,ss),t.D] σ=Y (ϔ$ lk e K q t) σ:=by
 have d:∀ σ,Gc [14,15] "last_look" (Zi e K P) σ=Y (Z 0) σ:=λσ=>Ik (XB rfl) rfl rfl;have o:∀ σ,Gc [14,15] "known" (Zi e K P) σ=Y (ύ$ K.map Z) σ:=λσ=>Ik (XB rfl) rfl rfl;have r:∀ σ,Gc [14,15,16] "every" (Zi e K P) σ=Y (Z$ e) σ:=λσ=>Ik (XB rfl) rfl rfl;have u:∀ σ,Nb (Qe (q,ss)) (Z 0) σ=Y (Z q) σ:=λσ=>by unfold Qe;simp
 have v:∀ σ,Nb (Qe (q,ss)) (Z 2) σ=Y (ϩ [] []) σ:=λσ=>by unfold Qe;simp
 have s:∀ σ,Nb t.D (Z 0) σ=Y (Z t.p) σ:=λσ=>by unfold Ti.D;simp
 have l:∀ σ,Nb t.D (Z 2) σ=Y (Z t.w) σ:=λσ=>by unfold Ti.D;simp
 have f:∀ σ,Nb t.D (Z 3) σ=Y (Z t.y) σ:=λσ=>by unfold Ti.D;simp
 have x:∀ σ,ju (Z t.w) (ϩ [] []) σ=Y (ϒ İ) σ:=λσ=>nr rfl;have i:=Ċ K t.w;have g:∀ σ,WT [t.D,ϩ [] []] σ=Y (ϒ İ) σ:=λσ=>by
  unfold WT Dc;simp[l,x]
 have A:∀ σ,uT [Zi e K P,ϩ [] [],t.D] σ=Y (ϔ$ if t.y<=0 then "gone" else if t.w∈K/\e<t.y then "sure" else "hangs") σ:=λσ=>by
  unfold uT Dc;by_cases a:t.y<=0
  ·have c:decide ((0:Int) ≥ t.y)=G6:=Eb a;simp[g,d,f,c,a]
  ·have c:decide ((0:Int) ≥ t.y)=İ:=Xa a;by_cases j:t.w∈K
   ·have m:decide (t.w∈K)=G6:=Eb j;rw[m]at i;by_cases k:e<t.y
    ·have n:decide (e<t.y)=G6:=Eb k;rw[ua a,ka ⟨j,k⟩];simp[g,d,o,r,l,f,c,i,n]
    ·have n:decide (e<t.y)=İ:=Xa k;rw[ua a,ua λz=>k z.2];simp[g,d,o,r,l,f,c,i,n]
   ·have m:decide (t.w∈K)=İ:=Xa j;rw[m]at i;rw[ua a,ua λz=>j z.1];simp[g,d,o,r,l,f,c,i]
 have B:∀ σ,rX [Zi e K P,ϩ [] [],t.D] σ=Y (ϔ$ if t.y<=0 then "back" else "open") σ:=λσ=>by
  unfold rX Dc;by_cases a:t.y<=0
  ·have c:decide ((0:Int) ≥ t.y)=G6:=Eb a;simp[g,d,f,c,a]
  ·have c:decide ((0:Int) ≥ t.y)=İ:=Xa a;simp[g,d,f,c,a]
 unfold YJ lk Dc;by_cases h:t.p=q
 ·simp only[h,af];rw[h]at s;simp[u,v,s,B]
 ·have b:(t.p == q)=İ:=by simp[h]
  simp only[h,On];simp[u,v,s,A,b]
def hD d(h:∀ p∈a,p.1≠.inl w):Ni a (.inl w) d=a++[(.inl w,d)]:=by
 unfold Ni;rw[ua];intro z;obtain⟨p,b,e⟩:=Uc.mp z;exact h p b ⋯
theorem RT(S:D):∀ (g c:List Ti) (f:Int) (u k:Option D),((c++g).map Ti.w).Nodup->(c++g).length<=9->∃ h i,Lj (ud 5) qF (g.map Ti.D) [BD$ Zi e K P,BD$ Qe (q,ss),BD S,BD$ Z f,BD$ O σ.length,u,k] (σ++[ώ$ Ri$ c.map$ lo e K q])=Y (ϙ [BD$ Zi e K P,BD$ Qe (q,ss),BD S,BD$ Z$ f+dB e K q g,BD$ O σ.length,h,i]) (σ++[ώ$ Ri$ (c++g).map$ lo e K q])
 |[],c,f,u,k,_,_=>⟨u,k,by simp[dB]⟩
 |t::g,c,f,u,k,hd,A=>by
  have l:=λσ=>e7 e K P σ q ss t;have L:∀ σ,Nb t.D (Z 1) σ=Y (Z t.a) σ:=λσ=>by unfold Ti.D;simp
  have N:∀ σ,Nb t.D (Z 2) σ=Y (Z t.w) σ:=λσ=>by unfold Ti.D;simp
  have ϋ:∀ σ,Nb t.D (Z 3) σ=Y (Z t.y) σ:=λσ=>by unfold Ti.D;simp
  have j:∀ p∈Ri (c.map$ lo e K q),p.1≠.inl t.w:=λp v e=>by
   unfold Ri at v;rw[Ta]at v;obtain⟨C,z,rfl⟩:=wa.mp v;have e:C.w=t.w:=by simpa [lo]using e
   rw[wc,nb,Nc]at hd;exact hd.2.2 C.w (Jc z) t.w na e
  have B:=λE=>Uq (ρ:=E) (σ:=σ++[ώ$ Ri$ c.map$ lo e K q]) (d:=Ϗ [ϔ$ lk e K q t,Z t.a,Z t.y]) (n:=σ.length) (w:=t.w) (kvs:=Ri$ c.map$ lo e K q) ⋯ (by unfold Ri;simp at A ⊢;lia);rw[gC,hD _ j,show Ri (c.map$ lo e K q)++[((.inl t.w),Ϗ [ϔ$ lk e K q t,Z t.a,Z t.y])]=Ri ((c++[t]).map$ lo e K q) by simp[Ri,lo,Lo.D]]at B;have J:=U0 e K q t;have H:∀ (f:Ev->M D) (m o r s h i:Option D) (x:D) (σ:Ha),jx (λa b=>a+b) 3 f [m,o,r,BD x,s,h,i] σ=vk [m,o,r,BD x,s,h,i] (WC (λa b=>a+b) 3 [m,o,r,BD x,s,h,i] x) (f [m,o,r,BD x,s,h,i] σ):=λf m o r s h i x σ=>cR rfl;obtain⟨h,i,I⟩:=RT S g (c++[t]) (f+fa e K q t) (BD t.D) (BD$ ϔ$ lk e K q t) (by rw[Zc];exact hd) (by rw[Zc];exact A);refine⟨h,i,?_⟩;rw[show f+dB e K q (t::g)=f+fa e K q t+dB e K q g by simp[dB];lia,show c++t::g=c++[t]++g by simp,<-I,nb,iq];simp only[Ab,Vb];have b:qF [BD$ Zi e K P,BD$ Qe (q,ss),BD S,BD$ Z f,BD$ O σ.length,BD t.D,k] (σ++[ώ$ Ri$ c.map$ lo e K q])=Y (ϙ [BD$ Zi e K P,BD$ Qe (q,ss),BD S,BD$ Z$ f+fa e K q t,BD$ O σ.length,BD t.D,BD$ ϔ$ lk e K q t]) (σ++[ώ$ Ri$ (c++[t]).map$ lo e K q]):=by
   unfold qF fa;generalize σ++[ώ$ Ri$ c.map$ lo e K q]=ό,σ++[ώ$ Ri$ (c++[t]).map$ lo e K q]=ϊ,Qe (q,ss)=P,Zi e K P=V,t.D=Q,lk e K q t=G at *;generalize ZM G=F at *;cases F<;>simp[l,L,N,ϋ,B,J,H]
  rw[b,Sd,il]
def Y9(d:q=0\/q=1){s}(b:(s.ts.map Ti.w).Nodup)(c:s.ts.length<=9):ME [Zi e K P,Qe (q,ss),s.D] σ=Y (rd e K q s).D σ:=by
 have g:∀ σ,Nb (Qe (q,ss)) (Z 0) σ=Y (Z q) σ:=λσ=>by unfold Qe;simp
 obtain⟨h,i,a⟩:=RT e K P σ q ss s.D s.ts [] (ow q s) Α Α b c;have a:Lj _ _ _ _ (σ++[ώ []])=Y (ϙ [BD _,BD _,BD s.D,BD$ Z (rd e K q s).f,BD$ O σ.length,h,i]) (σ++[ώ$ Ri (rd e K q s).x]):=a;have fz:Vf σ (Y (Ϗ [Z (rd e K q s).f,O σ.length])$ σ++[ώ$ Ri (rd e K q s).x])=Y (rd e K q s).D σ:=by
  unfold Vf;dsimp only;rw[ka ⋯];have:fz σ.length (σ++[ώ$ Ri (rd e K q s).x]) 6 (Ϗ [Z (rd e K q s).f,O σ.length])=BD (rd e K q s).D:=by
   unfold fz;dsimp only;unfold Hk;unfold Hk;rw[(BU (σ:=σ) (j:=[]) (m:=4)$ FQ (rd e K q s).x)];rfl
  rw[this]
 unfold ME jT Dc;simp[g,(s1 s),(s2 s),(lQ d s),a,fz]
end
def ų(h:ys.length+zs.length<=1000):Xq (O σ.length) [ύ zs] (σ++[ϐ ys])=Y Ϛ (σ++[ϐ$ ys++zs]):=by
 have e:uf (σ++[ϐ ys]) (ύ zs)=BD zs:=rfl;unfold Xq;simp only[AN,e];rw[ka (show _<=lg from h),gC]
theorem ł{xs ys}(b:Aa i a σ=Y (ύ xs) σ)(c:Aa j a σ=Y (ύ ys) σ):GK (Aa i) (Aa j) a σ=Y (pD (ύ xs)$ ύ ys) σ:=by
 unfold GK;rw[tj,b,Sd];unfold lV;rw[tj,c,Sd];rfl
noncomputable def Dv{c:Type}(a:c->Int):List c->c->c
 |[],b=>b
 |x::xs,b=>if a x<a b then Dv a xs x else Dv a xs b
theorem qM{d:Type}{f:d->D}{a:d->Int}{g:Ev->M D}{rest:Ev}{e:Ha}:∀ (xs:List d) (b:d),(∀ x∈xs,g (BD (f x)::rest) e=Y (Z$ a x) e)->sv g rest (xs.map f) (f b) (a b) e=Y (f$ Dv a xs b) e
 |[],b,_=>rfl
 |x::xs,b,h=>by
  have i:=λy j=>h y$ ma _ j;rw[nb];unfold sv Dv;rw[tj,yA$ h x na,Sd];dsimp only;by_cases c:a x<a b
  ·rw[ka c,ka c];exact qM xs x i
  ·rw[ua c,ua c];exact qM xs b i
def eY{f}{key}{rest}{xs}{x:a}(h:∀ y∈x::xs,fe (BD (f y)::rest) σ=Y (Z$ key y) σ):Sx fe rest [ύ$ (x::xs).map f] σ=Y (f$ Dv key xs x) σ:=by
 rw[nb];unfold Sx;dsimp only;rw[tj,yA$ h x na,Sd];exact qM xs x λy b=>h y$ ma _ b
@[simp] theorem zmt d b c a e:EE d b c a e=(c a e).bind (Sx b$ d.map λi=>(a[i]?).getD Α):=nr rfl
theorem Gw{x:List b}{a:b}(h:x[i]?=BD a):x.take (i+1)=x.take i++[a]:=by
 rw[List.take_add_one,h];rfl
def MD{xs}(P:Nat->Ev->Ha->Prop)(B:xs.length<=1000)(y:S=.seq xs\/∃ n,S=.Zm n/\∀ i ρ σ,P i ρ σ->jf σ n=BD xs)
  (v:∀ i d ρ σ,xs[i]?=BD d->P i ρ σ->∃ f c e,tg d ρ=BD f/\body f σ=Y (ϙ c) e/\P (i+1) c e) (u:P 0 ρ σ):∃ a b,bI tg body ρ S σ=Y (ϙ a) b/\P xs.length a b:=by
 rcases y with rfl|⟨n,rfl,A⟩
 ·have s:∀ (r:B') (i:Nat) (ρ:Ev) (σ:Ha),xs.drop i=r->i<=xs.length->P i ρ σ->∃ a b,Lj tg body r ρ σ=Y (ϙ a) b/\P xs.length a b:=λr=>by
   induction r with
   |nil=>
    intro i ρ σ j z g;have:i=xs.length:=by have:=List.drop_eq_nil_iff.mp j;omega
    exact⟨ρ,σ,by simp,this ▸ g⟩
   |cons d r t=>
    intro i ρ σ j z g;have h:xs[i]?=BD d:=by have:=Cb (·[0]?) j;simpa using this
    apply b_;intro z_;obtain⟨f,c,e,l,m,o⟩:=v i d ρ σ h g;obtain⟨a,b,p,q⟩:=t (i+1) c e (by have:=Cb List.tail j;simpa using this) (da.mp h).1 o;apply z_;exact⟨a,b,by rw[JQ l,m,Sd,il,p],q⟩
  exact s xs 0 ρ σ rfl ⋯ u
 ·have s:∀ (k i:Nat) (ρ:Ev) (σ:Ha),xs.length<k+i->i<=xs.length->P i ρ σ->∃ a b,Hw tg body n k i ρ σ=Y (ϙ a) b/\P xs.length a b:=λk=>by
   induction k with
   |zero=>intro i ρ σ w x;omega
   |succ k t=>
    intro i ρ σ w x g;rw[Hw];simp only[(A i ρ σ g)];cases h:xs[i]? with
    |none=>
     have:i=xs.length:=by have:=Jb.mp h;omega
     exact⟨ρ,σ,rfl,this ▸ g⟩
    |some d=>
     obtain⟨f,c,e,l,m,o⟩:=v i d ρ σ h g;obtain⟨a,b,p,q⟩:=t (i+1) c e ⋯ (da.mp h).1 o;refine⟨a,b,?_,q⟩;simp only[l];show (body f σ).bind _=_;rw[m,Sd,il,p]
  exact s 1001 0 ρ σ ⋯ ⋯ u
noncomputable def RL(a:List$ List Rd):D:=ύ (a.map λb=>ύ$ b.map Rd.D)
def Sk(e:Int)(K:gV)(ps:List Pv):List$ List Rd:=ps.map λp=>p.2.map$ rd e K p.1
structure Fp(ps:List Pv):Prop where
 n:ps.length<=3
 q:∀ p∈ps,p.1=0\/p.1=1
 f:∀ p∈ps,0<p.2.length/\p.2.length<=2
 d:∀ p∈ps,∀ s∈p.2,(s.ts.map Ti.w).Nodup/\s.ts.length<=9
 a:∀ p∈ps,∀ s∈p.2,∀ t∈s.ts,0<=t.a
def B0 a:cl (RL a)=G6:=Fn λd b=>by obtain⟨c,_,rfl⟩:=wa.mp b;exact ŀ c
def M1(h:Fp ps) e K a:oK [Zi e K$ ps.map Qe] a=Y (RL$ Sk e K ps) a:=by
 have z:∀ a,Gc [9,14,16] "pots" (Zi e K$ ps.map Qe) a=Y (ύ$ ps.map Qe) a:=λa=>Ik (XB rfl) rfl rfl;obtain⟨C,E,o,y,rfl,rfl⟩:=MD (S:=.seq$ ps.map Qe) (xs:=ps.map Qe) (tg:=ud 2) (body:=dL) (ρ:=[BD$ Zi e K$ ps.map Qe,BD$ O a.length,Α]) (σ:=a++[ϐ []]) (λi ρ g=>∃ y,ρ=[BD$ Zi e K$ ps.map Qe,BD$ O a.length,y]/\g=a++[ϐ ((Sk e K$ ps.take i).map λb=>ύ$ b.map Rd.D)]) (by have:=h.n;simp;lia) (ϑ rfl) (λi d ρ g u A=>by
  obtain⟨y,rfl,rfl⟩:=A;rw[Ja]at u;obtain⟨p,v,rfl⟩:=Ga.mp u;have k:=Da v;obtain⟨q,c⟩:=p;have l:∀ g,rj (xj (zm$ bi$ qb Nb (Aa 2)$ eC$ Z 1) [0,2] (ud 0) Yj$ og 3 ME []$ Ra (Aa 2)$ Ra (Aa 3)$ Ra (Aa 0) Bb) [BD$ Zi e K$ ps.map Qe,BD$ O a.length,BD$ Qe (q,c)] g=Y (ύ$ (c.map$ rd e K q).map Rd.D) g:=λg=>by
   rw[Ta];refine ev (s:=.seq$ c.map Sn.D) (ix:=[0,2]) Sn.D _ (by unfold Qe;simp) (λi I=>Cb BD$ Bq c _ i) (by have:=(h.f _ k).2;dsimp only at this;lia) (λs w j=>?_) (λs I=>uI _);have r:=Y9 e K (ps.map Qe) (g++j) q c (h.q _ k) (h.d _ k s w).1 (h.d _ k s w).2;rw[show (Rd.D ∘ rd e K q) s=(rd e K q s).D from rfl];generalize g++j=ό,s.D=H,Qe (q,c)=x,Zi e K (ps.map Qe)=V,(rd e K q s).D=R at *;simp[r]
  have t:=Rz (σ:=a) (xs:=(Sk e K$ ps.take i).map λb=>ύ$ b.map Rd.D) (d:=ύ$ (c.map$ rd e K q).map Rd.D) (by have:=h.n;unfold Sk;simp;lia);have B:∀ m,Cr zi m (O a.length) (a++[ϐ ((Sk e K$ ps.take i).map λb=>ύ$ b.map Rd.D)])=(m$ a++[ϐ ((Sk e K$ ps.take i).map λb=>ύ$ b.map Rd.D)]).bind (zi$ O a.length):=λm=>Lx (xs:=(Sk e K$ ps.take i).map λb=>ύ$ b.map Rd.D) (by unfold uf jf;simp);rw[show ((Sk e K$ ps.take i).map λb=>ύ$ b.map Rd.D)++[ύ$ (c.map$ rd e K q).map Rd.D]=(Sk e K$ ps.take$ i+1).map λb=>ύ$ b.map Rd.D by rw[Gw v];unfold Sk;simp]at t;refine⟨[BD$ Zi e K$ ps.map Qe,BD$ O a.length,BD$ Qe (q,c)],[BD$ Zi e K$ ps.map Qe,BD$ O a.length,BD$ Qe (q,c)],_,rfl,?_,_,rfl,rfl⟩;generalize Qe (q,c)=x,Zi e K (ps.map Qe)=V,a++[ϐ ((Sk e K$ ps.take i).map λb=>ύ$ b.map Rd.D)]=ό,a++[ϐ ((Sk e K$ ps.take$ i+1).map λb=>ύ$ b.map Rd.D)]=ϊ,(c.map$ rd e K q).map Rd.D=F at *;simp[B,l,t,-Jq]) ⟨Α,rfl,by simp[Sk]⟩
 rw[Ia,yc]at o;have fz:Vf a (Y (O a.length)$ a++[ϐ ((Sk e K ps).map λb=>ύ$ b.map Rd.D)])=Y (RL$ Sk e K ps) a:=BA$ B0$ Sk e K ps;have o:Lj (ud 2) dL (ps.map Qe) [BD$ Zi e K$ ps.map Qe,BD$ O a.length,Α] (a++[ϐ []])=_:=o;unfold oK vT Dc;dsimp only;generalize ps.map Qe=P,Zi e K (ps.map Qe)=V,a++[ϐ ((Sk e K ps).map λb=>ύ$ b.map Rd.D)]=ϊ,RL (Sk e K ps)=G at *;simp[z,o,fz]
abbrev Rx:=Rd × Nat
noncomputable def cD(c:List Rx):D:=ύ (c.map λp=>Z p.2)
theorem fH c:cl (cD c)=G6:=Fn λd a=>by obtain⟨p,_,rfl⟩:=wa.mp a;rfl
noncomputable def ext(a:List Rd)(c:List Rx):List$ List Rx:=a.zipIdx.map λp=>c++[p]
def xm(a:List$ List Rd)(acc:List$ List Rx):List$ List Rx:=a.foldl (λacc b=>acc.flatMap$ ext b) acc
def Pk:List (List Rd)->List Rx->Prop
 |[],[]=>True
 |rs::a,p::c=>rs[p.2]?=BD p.1/\Pk a c
 |_,_=>False
theorem Pk.len:∀ {a:List$ List Rd} {c:List Rx},Pk a c->c.length=a.length
 |[],[],_=>rfl
 |_::a,_::c,h=>Cb (·+ 1) (Pk.len h.2)
 |[],_::_,h=>h.elim
 |_::_,[],h=>h.elim
theorem pN:∀ (b:List$ List Rd) {acc:List$ List Rx} {c:List Rx},c∈xm b acc->∃ a∈acc,∃ r,c=a++r/\Pk b r
 |[],acc,c,h=>⟨c,h,[],by simp,trivial⟩
 |rs::b,acc,c,h=>by
  obtain⟨a',d,r,rfl,g⟩:=pN b h;obtain⟨a,e,i⟩:=List.mem_flatMap.mp d;obtain⟨p,f,rfl⟩:=wa.mp i;exact⟨a,e,p::r,by simp,List.mem_zipIdx_iff_getElem?.mp f,g⟩
theorem aH(a:List Rd):∀ acc:List$ List Rx,(acc.flatMap$ ext a).length=acc.length * a.length
 |[]=>by simp
 |c::acc=>by
  rw[Tt,Gb,aH a acc,lb,Nat.succ_mul];unfold ext;simp;lia
theorem qN:∀ (a:List$ List Rd) (acc:List$ List Rx),(∀ b∈a,b.length<=2)->(xm a acc).length<=acc.length * 2 ^ a.length
 |[],acc,_=>by simp[xm]
 |b::a,acc,h=>by
  have:=qN a (acc.flatMap$ ext b) λr c=>h r$ ma _ c;rw[aH]at this;refine Ya this ?_;rw[lb,Nat.pow_succ,Go,Nat.mul_comm _ 2,<-Go,<-Go];exact Nat.mul_le_mul_right _$ Nat.mul_le_mul_left _$ h b na
theorem fV:∀ (a:List$ List Rd) {acc:List$ List Rx},(∀ b∈a,0<b.length)->acc≠[]->xm a acc≠[]
 |[],acc,_,h=>h
 |b::a,acc,h,c=>fV a (λr d=>h r$ ma _ d) λz=>by
  have:=Cb List.length z;rw[aH]at this;have:=Nat.mul_pos (Ui.mpr c)$ h b na
  simp_all
def OS(h:n<=3):2 ^ n<=8:=by
 have:n=0\/n=1\/n=2\/n=3:=by lia
 rcases this with rfl|rfl|rfl|rfl<;>decide
def IsL(a:Nat)(b:Ha)(d:D)(xs:B'):Prop:=d=ύ xs\/∃ n,d=O n/\a<=n/\jf b n=BD xs
def Κ{xs}(h:IsL a.length (a++J) d xs)(b:rf xs=G6):Vf a (Y d$ a++J)=Y (ύ xs) a:=by
 rcases h with rfl|⟨n,rfl,g,c⟩
 ·unfold Vf;dsimp only;rw[ka ⋯,Ow (show cl _=G6 by rw[cl];exact b)]
 ·have e:=JH c;unfold Vf;dsimp only;rw[ka ⋯];have:fz a.length (a++J) 6 (O n)=BD (ύ xs):=by
   unfold fz;rw[ua ⋯];dsimp only;rw[ua ⋯,e];dsimp only;rw[xG (λd f=>Ow f) b];rfl
  rw[this]
def ŵ a c:(ext a c).map cD=(List.range a.length).map λ(i:Nat)=>ύ$ c.map (λp=>Z p.2)++[Z i]:=by
 have e:a.zipIdx.map (·.2)=List.range a.length:=by rw[List.zipIdx_map_snd,List.range_eq_range']
 rw[<-e];unfold ext cD;simp only[Ta]
 simp_all
def zt0(s:a.length<=2)(r:c.length<=3)(t:ys.length<=100) R C d:LH [R,C,BD$ ύ$ a.map Rd.D,BD$ O d.length,BD$ cD c] (d++[ϐ ys])=Y (ϙ [R,C,BD$ ύ$ a.map Rd.D,BD$ O d.length,BD$ cD c]) (d++[ϐ$ ys++(ext a c).map cD]):=by
 have g:∀ (i:Nat) b,Wj (cD c) (ύ [Z i]) b=Y (ύ$ c.map (λp=>Z p.2)++[Z i]) b:=λi b=>by unfold cD;rw[HI (by unfold lg;simp;omega)]
 have h:∀ b,Il [ύ$ a.map Rd.D] b=Y (Z a.length) b:=λb=>by simp
 have l:∀ b,rj (xj (zm$ Zs$ Uk Il$ Ra (Aa 2) Bb) [4] (ud 0) Yj$ qb Wj (Aa 2)$ ci$ Ra (Aa 0) Bb) [R,C,BD$ ύ$ a.map Rd.D,BD$ O d.length,BD$ cD c] b=Y (ύ$ (ext a c).map cD) b:=λb=>by
  have n:Yu (Z a.length) b=Y (.seq$ (List.range a.length).map λ(i:Nat)=>Z i) b:=by
   rw[NF ⋯ ⋯];rfl
  have o:Zs (Uk Il$ Ra (Aa 2) Bb) [R,C,BD$ ύ$ a.map Rd.D,BD$ O d.length,BD$ cD c] b=Y (.seq$ (List.range a.length).map λ(i:Nat)=>Z i) b:=by
   generalize a.map Rd.D=f at *;simp[h,n]
  rw[ŵ];exact ev (ix:=[4]) (xs:=List.range a.length) (fe:=qb Wj (Aa 2)$ ci$ Ra (Aa 0) Bb) (λ(i:Nat)=>Z i) (λ(i:Nat)=>ύ$ c.map (λp=>Z p.2)++[Z i]) o (λi u=>Cb BD$ Bq (List.range a.length) _ i) (by simp;omega) (λi u j=>by
   have:=g i$ b++j;generalize cD c=e at *;simp[this]) (λi u=>by rw[cl,WK,show rf (c.map λp=>Z p.2)=G6 from fH c];rfl)
 have ex:=ų (σ:=d) (ys:=ys) (zs:=(ext a c).map cD) (by unfold ext;simp;omega);have k:∀ m,Cr Xq m (O d.length) (d++[ϐ ys])=(m$ d++[ϐ ys]).bind (Xq$ O d.length):=λm=>Lx (xs:=ys) (by unfold uf jf;simp);unfold LH;generalize a.map Rd.D=f,(ext a c).map cD=q,cD c=e at *;simp[k,l,ex,-Jq]
def O4{xs}(h:IsL f a d xs)(b:∀ a,Aa i ρ a=Y d a) J:∃ S,bi (Aa i) ρ (a++J)=Y S (a++J)/\(S=.seq xs\/∃ n,S=.Zm n/\∀ J,jf (a++J) n=BD xs):=by
 rcases h with rfl|⟨n,rfl,_,c⟩
 ·exact⟨.seq xs,by rw[NA,b];simp,ϑ rfl⟩
 ·have g:∀ J,jf (a++J) n=BD xs:=λJ=>by
   have e:=JH c;unfold jf;rw[ib (da.mp e).1,e]
  refine⟨.Zm n,?_,ϖ ⟨n,rfl,g⟩⟩;rw[NA,b,Sd];show (match jf _ n with|some _=>_|none=>_)=_;rw[g]
def U1(m:b.length<=2){acc:List$ List Rx}(u:acc.length<=8)(v:∀ c∈acc,c.length<=3)(q:σ0<=a.length)(w:IsL σ0 a d$ acc.map cD) R x g:∃ k,UD [R,BD d,BD$ ύ$ b.map Rd.D,x,g] a=Y (ϙ [R,BD$ O a.length,BD$ ύ$ b.map Rd.D,BD$ O a.length,k]) (a++[ϐ$ (acc.flatMap$ ext b).map cD])/\IsL σ0 (a++[ϐ$ (acc.flatMap$ ext b).map cD]) (O a.length) ((acc.flatMap$ ext b).map cD):=by
 obtain⟨S,p,t⟩:=O4 w (ρ:=[R,BD d,BD$ ύ$ b.map Rd.D,BD$ O a.length,g]) (i:=1) (λC=>rfl) [ϐ []];obtain⟨z,A,o,k,rfl,rfl⟩:=MD (S:=S) (xs:=acc.map cD) (tg:=ud 4) (body:=LH) (ρ:=[R,BD d,BD$ ύ$ b.map Rd.D,BD _,g]) (σ:=a++[ϐ []]) (λi ρ l=>∃ y,ρ=[R,BD d,BD$ ύ$ b.map Rd.D,BD$ O a.length,y]/\l=a++[ϐ$ ((acc.take i).flatMap$ ext b).map cD]) (by simp;omega) (by
   rcases t with h|⟨n,r,s⟩
   ·exact ϑ h
   ·exact ϖ ⟨n,r,λi ρ l j=>by obtain⟨_,_,rfl⟩:=j;exact s _⟩) (λi B ρ l f j=>by
  obtain⟨y,rfl,rfl⟩:=j;rw[Ja]at f;obtain⟨c,e,rfl⟩:=Ga.mp f;have st:=zt0 m (v c$ Da e) (ys:=((acc.take i).flatMap$ ext b).map cD) (by rw[Ia,aH,re];exact Ya (Nat.mul_le_mul (Ya (Xv ..) u) m) ⋯) R (BD d) a;rw[show ((acc.take i).flatMap$ ext b).map cD++(ext b c).map cD=((acc.take$ i+1).flatMap$ ext b).map cD by rw[Gw e];simp]at st;exact⟨_,_,_,rfl,st,_,rfl,rfl⟩) ⟨g,rfl,by simp⟩
 rw[Ia,yc]at o;refine⟨k,?_,ϖ ⟨a.length,rfl,q,AN _⟩⟩;unfold UD;simp[p,o,-NA]
def j5(G:b.length<=3)(t:∀ f∈b,f.length<=2) g:WF [RL b] g=Y (ύ$ (xm b [[]]).map cD) g:=by
 obtain⟨B,C,p,d,q,m,n,J,rfl,rfl,l⟩:=MD (S:=.seq$ b.map λf=>ύ$ f.map Rd.D) (xs:=b.map λf=>ύ$ f.map Rd.D) (tg:=ud 2) (body:=UD) (ρ:=[BD$ RL b,BD$ ύ [ύ []],Α,Α,Α]) (σ:=g) (λi ρ s=>∃ d q m n J,ρ=[BD$ RL b,BD d,q,m,n]/\s=g++J/\IsL g.length s d ((xm (b.take i) [[]]).map cD)) (by simp;omega) (ϑ rfl) (λi E ρ s j u=>by
  obtain⟨d,q,m,n,J,rfl,rfl,l⟩:=u;rw[Ja]at j;obtain⟨f,h,rfl⟩:=Ga.mp j;have F:=(da.mp h).1;have A:∀ r∈b.take i,r.length<=2:=λr y=>t r$ Aq y;obtain⟨H,st,k⟩:=U1 (t f$ Da h) (acc:=xm _ [[]]) (Ya (qN _ _ A)$ by rw[lb,vg,rE,vJ];exact OS (by rw[re];omega)) (λc o=>by
   obtain⟨a,v,r,rfl,w⟩:=pN _ o;have:a=[]:=by simpa using v
   subst this;rw[ai,w.len,re];lia) (σ0:=g.length) ⋯ l (BD$ RL b) m n
  have e:(xm (b.take i) [[]]).flatMap (ext f)=xm (b.take$ i+1) [[]]:=by rw[Gw h];unfold xm;rw[Ut];rfl
  rw[e]at st k;exact⟨_,_,_,rfl,st,_,_,_,_,J++[ϐ$ (xm (b.take$ i+1) [[]]).map cD],rfl,by rw[Zc],k⟩) ⟨ύ [ύ []],Α,Α,Α,[],rfl,by simp,ϑ rfl⟩
 rw[Ia,yc]at l;have fz:=Κ l (Fn λx z=>by obtain⟨c,_,rfl⟩:=wa.mp z;exact fH c);have p:Lj (ud 2) UD (b.map λf=>ύ$ f.map Rd.D) [BD$ RL b,BD$ ύ [ύ []],Α,Α,Α] g=_:=p;unfold WF jP Dc;unfold RL at *;simp[p,fz]
theorem vV:∀ {a:List$ List Rd} {c:List Rx},Pk a c->∀ x∈a.zip c,x.1[x.2.2]?=BD x.2.1
 |[],[],_,x,h=>by cases h
 |rs::a,p::c,h,x,b=>by
  rcases Ea.mp b with rfl|b
  ·exact h.1
  ·exact vV h.2 x b
 |[],_::_,h,_,_=>h.elim
 |_::_,[],h,_,_=>h.elim
theorem TV:∀ {a:List$ List Rd} {c:List Rx},Pk a c->(a.zip c).map (λx=>x.2.1.D)=c.map λp=>p.1.D
 |[],[],_=>rfl
 |rs::a,p::c,h=>by rw[List.zip_cons_cons,nb,nb,TV h.2]
 |[],_::_,h=>h.elim
 |_::_,[],h=>h.elim
def Đ(w:e.length<=3)(n:Pk e c) f:bJ [RL e,cD c] f=Y (ύ$ c.map λp=>p.1.D) f:=by
 have v:=n.len;have y:(e.zip c).length=e.length:=by rw[List.length_zip];lia
 have o:rf (c.map λp=>p.1.D)=G6:=Fn λd r=>by obtain⟨p,_,rfl⟩:=wa.mp r;exact uI _
 have l:=R7 (xs:=e.zip c) (ix:=[]) (fe:=qb Nb (Aa 0)$ Aa 1) (ρ:=[BD$ RL e,BD$ cD c]) (λx=>ύ$ x.1.map Rd.D) (λx=>Z x.2.2) (λx=>x.2.1.D) (ł (i:=0) (j:=1) (σ:=f) (xs:=e.map λg=>ύ _) (ys:=c.map λp=>Z p.2) rfl rfl) (λi j h=>by
  show pD (ύ$ e.map λg=>ύ$ g.map Rd.D) (ύ$ c.map λp=>Z p.2) i _=_;have a:uf (f++j) (ύ$ e.map λg=>ύ$ g.map Rd.D)=BD (e.map λg=>ύ$ g.map Rd.D):=rfl;have b:uf (f++j) (ύ$ c.map λp=>Z p.2)=BD (c.map λp=>Z p.2):=rfl;unfold pD;simp only[a,b,Ja];by_cases s:i<e.length
  ·have k:e[i]?=BD e[i]:=da.mpr ⟨s,rfl⟩;have q:c[i]?=BD (c[i]'⋯):=da.mpr ⟨by omega,rfl⟩;have m:(e.zip c)[i]?=BD (e[i],c[i]'⋯):=List.getElem?_zip_eq_some.mpr ⟨k,q⟩;rw[k,q,m];rfl
  ·have k:e[i]?=Α:=Jb.mpr ⋯;have m:(e.zip c)[i]?=Α:=Jb.mpr ⋯;rw[k,m];simp
   lia) ⋯ (λx t j=>by
  have u:∀ f,Nb (ύ$ x.1.map Rd.D) (Z x.2.2) f=Y (x.2.1.D) f:=λf=>WA$ Qo (by rw[Ja,vV n x t];rfl);have:=u$ f++j;simp[this]) (λx d=>uI _)
 rw[TV n]at l;unfold bJ Dc;simp[l,o,-Jq]
def wX A a:oo A A.length a=BD Α:=by unfold oo;simp
def yky(h:f b a=Y (ϩ (A.map (·.1)) (A.map (·.2))) a):wB f b a=Y (oo A) a:=by
 have z:∀ A:Kv,(A.map (·.1)).zip (A.map (·.2))=A:=λA=>by
  induction A with
  |nil=>rfl
  |cons x r c=>simp_all
 show Rc _ iF a=_;rw[tj,h,Sd];unfold iF
 simp_all
theorem OI{nx:NX}{tg:D->Ev->Option Ev}{body:Ev->M Fl}{N:Nat}(P:Nat->Ev->Ha->Prop)(m:∀ i b a,i<N->P i b a->∃ d h e g,nx i a=BD (BD d)/\tg d b=BD h/\body h a=Y (ϙ e) g/\P (i+1) e g)(l:∀ a,nx N a=BD Α):∀ (k i:Nat) (b:Ev) (a:Ha),N<k+i->i<=N->P i b a->∃ c f,Hn nx tg body k i b a=Y (ϙ c) f/\P N c f
 |0,i,b,a,t,u,_=>by omega
 |k+1,i,b,a,t,u,j=>by
  by_cases v:i=N
  ·subst v;exact⟨b,a,YF$ l a,j⟩
  ·obtain⟨d,h,e,g,n,o,p,q⟩:=m i b a ⋯ j;obtain⟨c,f,r,s⟩:=OI P m l k _ e g ⋯ ⋯ q;refine⟨c,f,?_,s⟩;rw[ay n o,p,Sd,il,r]
def rN{A:Kv}(h:f ρ σ=Y (ϩ (A.map (·.1)) (A.map (·.2))) σ)(r:A.length<=1000)(P:Nat->Ev->Ha->Prop)(q:∀ i k v ρ σ,A[i]?=BD (k,v)->P i ρ σ->∃ a b c,tg (Ϗ [MC k,v]) ρ=BD a/\body a σ=Y (ϙ b) c/\P (i+1) b c)(n:P 0 ρ σ):∃ d g,xp (wB f) tg body ρ σ=Y (ϙ d) g/\P A.length d g:=by
 rw[Mw,yky h,ql];refine OI P (λi ρ σ p o=>?_) (wX A) 1001 0 ρ σ ⋯ ⋯ n;have e:A[i]?=BD _:=da.mpr ⟨p,rfl⟩;obtain⟨a,b,c,j,l,m⟩:=q i _ _ ρ σ e o;refine⟨_,a,b,c,?_,j,l,m⟩;unfold oo;simp[e]
abbrev Gr:=List$ Int × List Lo
noncomputable def gD(g:Gr):D:=ϩ (g.map λp=>.inl p.1) (g.map λp=>ύ$ p.2.map Lo.D)
def V4(b:List Lo):rf (b.map Lo.D)=G6:=Fn λd a=>by obtain⟨t,_,rfl⟩:=wa.mp a;exact HP t
theorem XW(h:∀ p∈a,p.1≠.inl w):qi a (.inl w)=Α:=by
 unfold qi;rw[Kg.mpr λp b=>by simpa using h p b];rfl
def N3(g:List$ Int × Nat × List Lo)(h:∀ p∈g,σ.length<=p.2.1/\(σ++ώ (g.map λp=>(.inl p.1,O p.2.1))::j)[p.2.1]?=BD (ϐ$ p.2.2.map Lo.D)):Vf σ (Y (O σ.length)$ σ++ώ (g.map λp=>(.inl p.1,O p.2.1))::j)=Y (gD$ g.map λp=>(p.1,p.2.2)) σ:=by
 have e:(σ++ώ (g.map λp=>(.inl p.1,O p.2.1))::j)[σ.length]?=BD (ώ$ g.map λp=>(.inl p.1,O p.2.1)):=by simp
 have b:∀ T (q:List$ Int × Nat × List Lo),(∀ p∈q,σ.length<=p.2.1/\T[p.2.1]?=BD (ϐ$ p.2.2.map Lo.D))->Hk (fz σ.length T 5) (q.map λp=>O p.2.1)=BD (q.map λp=>ύ$ p.2.2.map Lo.D):=λT q=>by
  induction q with
  |nil=>intro _;rfl
  |cons p q l=>
   intro a;obtain⟨m,c⟩:=a p na;have f:fz σ.length T 5 (O p.2.1)=BD (ύ$ p.2.2.map Lo.D):=by
    unfold fz;rw[ua ⋯];dsimp only;rw[ua ⋯,c];dsimp only;rw[xG (λd i=>Ow i)$ V4 _];rfl
   rw[nb,Hk,f,l λp k=>a p$ ma _ k];rfl
 unfold Vf;dsimp only;rw[ka ⋯];have:fz σ.length (σ++ώ (g.map λp=>(.inl p.1,O p.2.1))::j) 6 (O σ.length)=BD (gD$ g.map λp=>(p.1,p.2.2)):=by
  unfold fz;dsimp only;rw[ua$ Ud _,e];dsimp only;rw[show (g.map λp=>((Sum.inl p.1),O p.2.1)).map _=g.map (λp=>O p.2.1) by rw[Ta];rfl,b _ g h];unfold gD;rw[Ta,Ta,Ta];rfl
 rw[this]
abbrev Gn:=List$ Int × Nat × List Lo
noncomputable def has{a:Type}(g:List$ Int × a)(w:Int):Bool:=g.any λp=>decide$ p.1=w
def ξ{g:List$ Int × b}(h:has g w=G6):∃ p∈g,p.1=w:=by
 obtain⟨p,a,e⟩:=Uc.mp h;exact⟨p,a,by simpa using e⟩
def CM{g:List$ Int × b}(h:has g w=İ):∀ p∈g,p.1≠w:=λp a e=>by
 have:=ek.mp h p a
 simp_all
noncomputable def Jx(g:Gn)(n:Nat)(l:Lo):Gn:=if has g l.w then g.map (λp=>if p.1=l.w then (p.1,p.2.1,p.2.2++[l])else p)else g++[(l.w,n,[l])]
noncomputable def yb(g:Gr)(l:Lo):Gr:=if has g l.w then g.map (λp=>if p.1=l.w then (p.1,p.2++[l])else p)else g++[(l.w,[l])]
noncomputable def out(g:Gn):Gr:=g.map λp=>(p.1,p.2.2)
def ŏ g n l:out (Jx g n l)=yb (out g) l:=by
 have e:has (out g) l.w=has g l.w:=by unfold has out;rw[OB];rfl
 unfold Jx yb;rw[e];split
 ·unfold out;rw[Ta,Ta];refine Md λp a=>?_;simp;split<;>rfl
 ·unfold out;simp
set_option tactic.hygienic true in
def RZ g l(h:(g.map (·.1)).Nodup):((yb g l).map (·.1)).Nodup:=by
 unfold yb;split
 ·rw[Ta,show ((λp:Int × List Lo=>p.1) ∘ λp=>if p.1=l.w then (p.1,p.2++[l])else p)=λp=>p.1 from funext λp=>by simp;split<;>rfl];exact h
 ·next f=>
  have:=CM (by simpa using f);rw[wc,Nc];exact⟨h,by simp,λa c b d e=>by
   obtain⟨p,i,rfl⟩:=wa.mp c;have:b=l.w:=by simpa using d
   exact(CM ⋯ p i)$ e.trans this⟩
theorem uniq{d:Type}{i:Type}{f:d->i}:∀ {g:List d},(g.map f).Nodup->∀ p∈g,∀ b∈g,f p=f b->p=b
 |[],_,p,h,_,_,_=>by cases h
 |x::g,hd,p,c,b,a,e=>by
  rw[nb,Jd]at hd;rcases Ea.mp c with rfl|c<;>rcases Ea.mp a with rfl|a
  ·rfl
  ·exact absurd (wa.mpr ⟨b,a,e.symm⟩) hd.1
  ·exact absurd (wa.mpr ⟨p,by assumption,e⟩) hd.1
  ·exact uniq hd.2 p c b a e
noncomputable def Pi(g:Gn):Kv:=g.map λp=>(.inl p.1,O p.2.1)
structure LW(σ:Ha)(g:Gn)(k:Nat)(τ:Ha):Prop where
 j:∃ j,τ=σ++ώ (Pi g)::j
 r:∀ p∈g,σ.length<p.2.1/\τ[p.2.1]?=BD (ϐ (p.2.2.map Lo.D))/\p.2.2.length<=k
 w:(g.map (·.1)).Nodup
 n:(g.map (·.2.1)).Nodup
 l:g.length<=k
def nO{xs}(h:a[n]?=BD (ϐ xs))(b:xs.length<1000):zi (O n) [d] a=Y Ϛ (a.set n$ ϐ$ xs++[d]):=by
 unfold zi jf;simp only[h];rw[ka (show _<lg from b)]
def n9(h:LW c g k U)(hk:k<=100) l R rd:∃ C,wL [R,BD$ O c.length,rd,BD$ Z l.w,BD l.D] U=Y (ϙ [R,BD$ O c.length,rd,BD$ Z l.w,BD l.D]) C/\LW c (Jx g U.length l) (k+1) C:=by
 apply b_;intro z_;obtain⟨⟨j,rfl⟩,r,I,H,hl⟩:=h;have V:∀ (i:Kv) (j:Ha),(c++ώ i::j)[c.length]?=BD (ώ i):=λi j=>by simp
 apply z_;have W:∀ q,mz Uu q (O c.length) (c++ώ (Pi g)::j)=(q$ c++ώ (Pi g)::j).bind (Uu$ O c.length):=λq=>by
  have:ph (c++ώ (Pi g)::j) (O c.length)=BD (Pi g):=by unfold ph;simp
  unfold mz;rw[this];rfl
 have P:(c++ώ (Pi g)::j)++[ϐ []]=c++ώ (Pi g)::(j++[ϐ []]):=by simp
 have G:(c++ώ (Pi g)::j).length=c.length+1+j.length:=by simp;omega
 have lt:∀ p∈g,p.2.1<c.length+1+j.length:=λp f=>by
  have:=(da.mp (r p f).2.1).1;omega
 have m:∀ p∈g,(c++ώ (Pi g)::(j++[ϐ []]))[p.2.1]?=BD (ϐ$ p.2.2.map Lo.D):=λp f=>by
  rw[<-P,ib (by rw[G];exact lt p f)];exact(r p f).2.1
 have A:∀ (i u:Kv) (j:Ha),(c++ώ i::j).set c.length (ώ u)=c++ώ u::j:=λi u j=>by
  rw[Fe _ _$ ya _,sE];rfl
 have B:∀ (i:Kv) (j:Ha) (n:Nat) (o:Ob),c.length<n->∃ J,(c++ώ i::j).set n o=c++ώ i::J:=λi j n o H=>by
  rw[Fe _ _ ⋯,show n - c.length=(n - c.length - 1)+1 by omega,Ab];exact⟨_,rfl⟩
 by_cases v:has g l.w=G6
 ·obtain⟨p,f,E⟩:=ξ v;have M:qi (Pi g) (.inl l.w)=BD (O p.2.1):=by
   unfold qi Pi;cases e:(g.map λp=>((.inl p.1:Bd),O p.2.1)).find? (λi=>decide$ i.1=.inl l.w)with
   |none=>exact absurd (Kg.mp e _$ wa.mpr ⟨p,f,rfl⟩) (by simp[E])
   |some z=>
    obtain⟨T,t,rfl⟩:=wa.mp (Xe e);have ϊ:=Pl e;have e3:T.1=l.w:=by simpa using ϊ
    rw[uniq I T t p f$ e3.trans E.symm];rfl
  have N:Uu (O c.length) [Z l.w,O$ c.length+1+j.length] (c++ώ (Pi g)::(j++[ϐ []]))=Y (O p.2.1) (c++ώ (Pi g)::(j++[ϐ []])):=by
   unfold Uu;simp only[Ai,V];rw[ka (by unfold lg Pi;simp;omega)];simp[M]
  have ϋ:∀ q,Cr zi q (O p.2.1) (c++ώ (Pi g)::(j++[ϐ []]))=(q$ c++ώ (Pi g)::(j++[ϐ []])).bind (zi$ O p.2.1):=λq=>Lx (xs:=p.2.2.map Lo.D) (by unfold uf jf;simp[m p f]);have F:=nO (d:=l.D) (m p f) (by have:=(r p f).2.2;simp;omega);obtain⟨J,L⟩:=B (Pi g) (j++[ϐ []]) p.2.1 (ϐ$ p.2.2.map Lo.D++[l.D]) (r p f).1;rw[L]at F;have K:Jx g (c++ώ (Pi g)::j).length l=g.map (λp=>if p.1=l.w then (p.1,p.2.1,p.2.2++[l])else p):=by unfold Jx;rw[ka v]
  have em:Pi (g.map$ λp=>if p.1=l.w then (p.1,p.2.1,p.2.2++[l])else p)=Pi g:=by
   unfold Pi;rw[Ta];exact Md λp _=>by simp only[Function.comp];split<;>rfl
  refine⟨c++ώ (Pi g)::J,?_,?_⟩
  ·simp[W,N,ϋ,F,G,P]
  ·rw[K];refine⟨⟨J,by rw[em]⟩,λT t=>?_,?_,?_,by rw[Ia];omega⟩
   ·obtain⟨x,s,rfl⟩:=wa.mp t;by_cases ex:x.1=l.w
    ·have:x=p:=uniq I x s p f$ ex.trans E.symm;subst this;rw[ka ex];refine⟨(r x s).1,?_,by have:=(r x s).2.2;simp;omega⟩;rw[<-L,Zb (da.mp$ m x s).1];simp
    ·rw[ua ex];refine⟨(r x s).1,?_,by have:=(r x s).2.2;omega⟩;rw[<-L,ig λz=>ex (by rw[<-E,uniq H p f x s z]),m x s]
   ·rw[Ta,show ((λp:Int × Nat × List Lo=>p.1) ∘ λp=>if p.1=l.w then (p.1,p.2.1,p.2.2++[l])else p)=λp=>p.1 from funext λp=>by simp only[Function.comp];split<;>rfl];exact I
   ·rw[Ta,show ((λp:Int × Nat × List Lo=>p.2.1) ∘ λp=>if p.1=l.w then (p.1,p.2.1,p.2.2++[l])else p)=λp=>p.2.1 from funext λp=>by simp only[Function.comp];split<;>rfl];exact H
 ·have v:has g l.w=İ:=by simpa using v
  have ό:=CM v;have X:∀ p∈Pi g,p.1≠.inl l.w:=λp f e=>by
   obtain⟨x,s,rfl⟩:=wa.mp f;exact ό x s (by simpa using e)
  have M:=XW X;have N:Uu (O c.length) [Z l.w,O$ c.length+1+j.length] (c++ώ (Pi g)::(j++[ϐ []]))=Y (O$ c.length+1+j.length) (c++ώ (Pi$ g++[(l.w,c.length+1+j.length,[l])])::(j++[ϐ []])):=by
   unfold Uu;simp only[Ai,V];rw[ka (by unfold lg Pi;simp;omega)];simp only[M,A];rw[hD _ X];unfold Pi;rw[wc];rfl
  have y:∀ i:Kv,(c++ώ i::(j++[ϐ []]))[c.length+1+j.length]?=BD (ϐ []):=λi=>by
   rw[Hc ⋯,show c.length+1+j.length - c.length=j.length+1 by omega];simp
  have ϋ:∀ (i:Kv) q,Cr zi q (O$ c.length+1+j.length) (c++ώ i::(j++[ϐ []]))=(q$ c++ώ i::(j++[ϐ []])).bind (zi$ O$ c.length+1+j.length):=λi q=>Lx (xs:=[]) (by unfold uf jf;simp[y]);have F:∀ i:Kv,zi (O$ c.length+1+j.length) [l.D] (c++ώ i::(j++[ϐ []]))=Y Ϛ (c++ώ i::(j++[ϐ [l.D]])):=λi=>by
   rw[nO (y i) ⋯,Fe _ _ ⋯,show c.length+1+j.length - c.length=j.length+1 by omega,Ab,Fe _ _ ⋯,sE];rfl
  have K:Jx g (c++ώ (Pi g)::j).length l=g++[(l.w,c.length+1+j.length,[l])]:=by unfold Jx;rw[v,G];rfl
  refine⟨c++ώ (Pi$ g++[(l.w,c.length+1+j.length,[l])])::(j++[ϐ [l.D]]),?_,?_⟩
  ·simp[W,N,ϋ,F,G,P]
  ·rw[K];refine⟨⟨_,rfl⟩,λp f=>?_,?_,?_,by simp;omega⟩
   ·rcases jc.mp f with f|f
    ·refine⟨(r p f).1,?_,by have:=(r p f).2.2;omega⟩;have a:=(r p f).1;have b:=lt p f;have:=m p f;rw[Hc ⋯,show p.2.1 - c.length=(p.2.1 - c.length - 1)+1 by omega,List.getElem?_cons_succ]at this ⊢;rw[ib ⋯]at this ⊢;exact this
    ·have:p=(l.w,c.length+1+j.length,[l]):=by simpa using f
     subst this;refine⟨by dsimp only;omega,?_,by simp⟩;dsimp only;rw[Hc ⋯,show c.length+1+j.length - c.length=j.length+1 by omega];simp
   ·rw[wc,Nc];exact⟨I,by simp,λa Q b S e=>by
     obtain⟨p,f,rfl⟩:=wa.mp Q;have:b=l.w:=by simpa using S
     exact ό p f$ e.trans this⟩
   ·rw[wc,Nc];exact⟨H,by simp,λa Q b S e=>by
     obtain⟨p,f,rfl⟩:=wa.mp Q;have:b=c.length+1+j.length:=by simpa using S
     have:=lt p f;omega⟩
def Dr(a:List Rd):Gr:=(a.flatMap Rd.x).foldl yb []
def D4(T:rs.length<=3)(P:∀ r∈rs,r.x.length<=9) a:GO [ύ$ rs.map Rd.D] a=Y (gD$ Dr rs) a:=by
 obtain⟨J,B,z,G,q,s,g,rfl,c,m⟩:=MD (xs:=rs.map Rd.D) (tg:=ud 2) (ρ:=[BD$ ύ$ rs.map Rd.D,BD$ O a.length,Α,Α,Α]) (σ:=a++[ώ []]) (λi ρ t=>∃ G q s g,ρ=[BD$ ύ$ rs.map Rd.D,BD$ O a.length,G,q,s]/\LW a g (9 * i) t/\out g=Dr (rs.take i)) (by simp;lia) (ϑ rfl) (λi d ρ t L C=>by
  obtain⟨G,q,s,g,rfl,c,m⟩:=C;rw[Ja]at L;obtain⟨r,e,rfl⟩:=Ga.mp L;have R:=P r$ Da e;have S:=(da.mp e).1;have M:∀ a,Nb r.D (Z 1) a=Y (ϩ ((Ri r.x).map (·.1)) ((Ri r.x).map (·.2))) a:=λa=>by unfold Rd.D;simp
  obtain⟨J,B,z,H,I,Q,rfl,b,u⟩:=rN (f:=qb Nb (Aa 2)$ eC$ Z 1) (A:=Ri r.x) (ρ:=[BD$ ύ$ rs.map Rd.D,BD$ O a.length,BD r.D,q,s]) (σ:=t) (tg:=xk 2$ yg (ud 3)$ yg (ud 4) Tk) (body:=wL) (by
    simp[M]) (by unfold Ri;rw[Ia];lia) (λk ρ t=>∃ H I g,ρ=[BD$ ύ$ rs.map Rd.D,BD$ O a.length,BD r.D,H,I]/\LW a g (9 * i+k) t/\out g=((rs.take i).flatMap Rd.x++r.x.take k).foldl yb []) (λk U v ρ t F C=>by
   obtain⟨H,I,g,rfl,c,m⟩:=C;unfold Ri at F;rw[Ja]at F;obtain⟨l,y,ϋ⟩:=Ga.mp F;obtain⟨rfl,rfl⟩:=Sf ϋ;have:=(da.mp y).1;obtain⟨K,N,E⟩:=n9 c ⋯ l (BD$ ύ$ rs.map Rd.D) (BD r.D);exact⟨_,_,K,rfl,N,_,_,_,rfl,E,by rw[ŏ,m,Gw y,<-Zc];simp only[Ut];rfl⟩) ⟨q,s,g,rfl,c,by rw[m];simp[Dr]⟩
  rw[show (Ri r.x).length=r.x.length by unfold Ri;simp,yc]at u;rw[show (Ri r.x).length=r.x.length by unfold Ri;simp]at b;refine⟨[BD$ ύ$ rs.map Rd.D,BD$ O a.length,BD r.D,q,s],_,B,rfl,z,_,_,_,_,rfl,⟨b.j,λp o=>⟨(b.r p o).1,(b.r p o).2.1,by have:=(b.r p o).2.2;lia⟩,b.w,b.n,by have:=b.l;lia⟩,?_⟩;rw[u,Gw e];unfold Dr;simp) ⟨Α,Α,Α,[],rfl,⟨⟨[],rfl⟩,λp h=>(by cases h),by simp,by simp,by simp⟩,rfl⟩
 rw[Ia,yc]at m;obtain⟨j,rfl⟩:=c.j;have fz:Vf a (Y (O a.length)$ a++ώ (Pi g)::j)=_:=N3 (σ:=a) (j:=j) g (λp o=>⟨yd (c.r p o).1,(c.r p o).2.1⟩);rw[show g.map (λp=>(p.1,p.2.2))=Dr rs from m]at fz;have z:Lj (ud 2) zP (rs.map Rd.D) [BD$ ύ$ rs.map Rd.D,BD$ O a.length,Α,Α,Α] (a++[ώ []])=_:=z;unfold GO gU Dc;simp[z,fz,-Mw]
noncomputable def Zy(l:Lo):Bool:=l.k == "open"
noncomputable def oD:Option Int->D
 |none=>Ϛ
 |some i=>Z i
theorem MK F:cl (oD F)=G6:=by cases F<;>rfl
def su(a:List Lo):List$ Option Int:=(a.filter Zy).map λl=>BD l.d
def cm(F:Option Int)(e:Int)(l:Lo):Bool:=if Zy l then (match F with
 |none=>G6
 |some f=>decide (f > l.d))else (l.k == "hangs") && (match F with
 |none=>İ
 |some f=>decide (f - 1+e<l.d))
def ny(a:List Lo)(F:Option Int)(e:Int):Int:=((a.filter$ cm F e).map Lo.v).sum
def mf(a:List Lo)(e:Int):Option Int:=Dv (λx=>ny a x e) (su a) Α
section
variable(l:Lo)(σ:Ha)
def l0:Nb l.D (Z 0) σ=Y (ϔ l.k) σ:=by unfold Lo.D;simp
def l1:Nb l.D (Z 1) σ=Y (Z l.v) σ:=by unfold Lo.D;simp
def l2:Nb l.D (Z 2) σ=Y (Z l.d) σ:=by unfold Lo.D;simp
end
section
variable{ls:List Lo}(hl:ls.length<=100)(e:Int)(σ:Ha)
def T1 l F:QL [l.D,oD F,Z e] σ=Y (ϒ$ cm F e l) σ:=by
 have b:=l0 l;have c:=l2 l;have o:(l.k == ("open"))=Zy l:=rfl;unfold QL cm Dc;dsimp only;generalize Zy l=B,l.D=L at *;generalize a:(l.k == ("hangs"))=H at *;cases F with
 |none=>cases B<;>cases H<;>simp[b,o,a,oD]
 |some f=>
  cases B<;>cases H<;>simp[b,c,o,a,oD]
include hl
theorem Ţ:eO [ύ$ ls.map Lo.D] σ=Y (ύ$ (Α::su ls).map oD) σ:=by
 have l:=JD (src:=bi$ Aa 0) (ρ:=[BD$ ύ$ ls.map Lo.D]) (σ:=σ) (s:=.seq _) (ix:=[]) (fi:=eT$ qb wh (qb Nb (Aa 0)$ eC$ Z 0)$ eC$ ϔ "open") (fe:=qb Nb (Aa 0)$ eC$ Z 2) Lo.D (λl=>Z l.d) Zy ⋯ (λi f=>Cb BD$ Bq ls _ i) ⋯ (λl f j=>by
  have o:(l.k == ("open"))=Zy l:=rfl;exact⟨by simp[(l0 l _),o],λf=>by simp[(l2 l _)]⟩) (λf f f=>rfl)
 rw[show (ls.filter Zy).map _=(su ls).map oD by unfold su;rw[Ta];rfl]at l;have e:(su ls).length<=100:=by unfold su;rw[Ia];exact Ya (Rf ..) hl
 have b:∀ σ,Wj (ύ [Ϛ]) (ύ$ (su ls).map oD) σ=Y (ύ$ (Α::su ls).map oD) σ:=λσ=>by rw[HI (by unfold lg;simp;lia)];rfl
 have c:rf ((Α::su ls).map oD)=G6:=Fn λd a=>by obtain⟨t,_,rfl⟩:=wa.mp a;exact MK t
 unfold eO Dc;dsimp only
 simp_all
theorem IS F:aB [ύ$ ls.map Lo.D,oD F,Z e] σ=Y (Z$ ny ls F e) σ:=by
 have l:=JD (src:=bi$ Aa 0) (ρ:=[BD$ ύ$ ls.map Lo.D,BD$ oD F,BD$ Z e]) (σ:=σ) (s:=.seq _) (ix:=[1,2]) (fi:=eT$ og 3 QL []$ Ra (Aa 0)$ Ra (Aa 2)$ Ra (Aa 3) Bb) (fe:=qb Nb (Aa 0)$ eC$ Z 1) Lo.D (λl=>Z l.v) (cm F e) ⋯ (λi a=>Cb BD$ Bq ls _ i) ⋯ (λl a j=>by
  exact⟨by simp[(T1 e _ l F)],λa=>by simp[(l1 l _)]⟩) (λa a a=>rfl)
 rw[show (ls.filter _).map _=((ls.filter _).map Lo.v).map Z by rw[Ta];rfl]at l;have s:=TN ((ls.filter$ cm F e).map Lo.v) σ;unfold aB ny Dc;dsimp only
 simp_all
theorem û:Se [ύ$ ls.map Lo.D,Z e] σ=Y (oD$ mf ls e) σ:=by
 have a:=Ţ hl;have m:=eY (f:=oD) (key:=λx=>ny ls x e) (x:=Α) (xs:=su ls) (fe:=og 3 aB []$ Ra (Aa 1)$ Ra (Aa 0)$ Ra (Aa 2) Bb) (rest:=[BD$ ύ$ ls.map Lo.D,BD$ Z e]) (σ:=σ) (λx c=>by
  simp[(λσ=>IS hl e σ x)])
 rw[show Dv _ _ Α=mf ls e from rfl]at m;have b:=MK$ mf ls e;unfold Se ZX
 simp_all
end
def r0(r:Rd) a:Nb r.D (Z 0) a=Y (Z r.f) a:=by unfold Rd.D;simp
noncomputable def Zq(g:Gr):Kv:=g.map λp=>(.inl p.1,ύ (p.2.map Lo.D))
theorem iQ g:gD g=ϩ ((Zq g).map (·.1)) ((Zq g).map (·.2)):=by
 unfold gD Zq;simp only[Ta];rfl
def FK(e:Int)(g:Gr):Kv:=g.map λp=>(.inl p.1,oD (mf p.2 e))
def gX e g:rf ((FK e g).map (·.2))=G6:=Fn λd a=>by
 unfold FK at a;rw[Ta]at a;obtain⟨p,_,rfl⟩:=wa.mp a;exact MK _
structure EO(g:Gr):Prop where
 d:(g.map (·.1)).Nodup
 l:g.length<=100
 x:∀ p∈g,p.2.length<=100
theorem V1(f:(g.map (·.1)).Nodup):∀ p∈g,qi (FK e g) (.inl p.1)=BD (oD$ mf p.2 e):=λp b=>by
 unfold qi FK;cases h:(g.map λp=>((.inl p.1:Bd),oD _)).find? (λi=>decide$ i.1=.inl p.1)with
 |none=>exact absurd (Kg.mp h _$ wa.mpr ⟨p,b,rfl⟩) ⋯
 |some z=>
  obtain⟨c,a,rfl⟩:=wa.mp (Xe h);have d:c.1=p.1:=by simpa using Pl h
  rw[uniq f c a p b d];rfl
def gs(e:Int)(g:Gr):Int:=(g.map λp=>ny p.2 (mf p.2 e) e).sum
def val(e:Int)(a:List Rd):Int:=(a.map Rd.f).sum+gs e (Dr a)
def A1{c:List Rd}(U:c.length<=3)(z:EO g) e d F(M:∀ p∈g,Lh F (Z p.1) d=Y (oD$ mf p.2 e) d):PJ [ύ$ c.map Rd.D,gD g,F,Z e] d=Y (Z$ (c.map Rd.f).sum+gs e g) d:=by
 have l:=ev (src:=bi$ Aa 0) (ρ:=[BD$ ύ$ c.map Rd.D,BD$ gD g,BD F,BD$ Z e,Α,Α,Α]) (σ:=d) (s:=.seq _) (ix:=[]) (fe:=qb Nb (Aa 0)$ eC$ Z 0) Rd.D (λr=>Z r.f) ⋯ (λi O=>Cb BD$ Bq c _ i) ⋯ (λr O j=>by
  have:=r0 r$ d++j;simp[this]) (λO O=>rfl)
 rw[show c.map (λr=>Z r.f)=(c.map Rd.f).map Z by rw[Ta];rfl]at l;have s1:=TN (c.map Rd.f) d;have Q:∀ f n o q t h m (x:D) (d:Ha),jx _ 4 f [n,o,q,t,BD x,h,m] d=vk [n,o,q,t,BD x,h,m] (WC (λa b=>a+b) 4 [n,o,q,t,BD x,h,m] x) (f [n,o,q,t,BD x,h,m] d):=λO O O O O O O O O=>cR rfl;obtain⟨R,S,G,h,m,rfl,rfl⟩:=rN (f:=Aa 1) (A:=Zq g) (ρ:=[BD$ ύ$ c.map Rd.D,BD$ gD g,BD F,BD$ Z e,BD$ Z (c.map Rd.f).sum,Α,Α]) (σ:=d) (tg:=xk 2$ yg (ud 5)$ yg (ud 6) Tk) (body:=kW) (by rw[<-iQ];rfl) (by unfold Zq;rw[Ia];have:=z.l;lia) (λi u w=>∃ h m,u=[BD$ ύ$ c.map Rd.D,BD$ gD g,BD F,BD$ Z e,BD$ Z$ (c.map Rd.f).sum+gs e (g.take i),h,m]/\w=d) (λi k v u w y ϋ=>by
  obtain⟨h,m,rfl,rfl⟩:=ϋ;unfold Zq at y;rw[Ja]at y;obtain⟨p,E,K⟩:=Ga.mp y;obtain⟨rfl,rfl⟩:=Sf K;have C:=Da E;have sb:=IS (z.x p C) e w$ mf p.2 e;have P:=M p C;have L:(c.map Rd.f).sum+gs e (g.take$ i+1)=(c.map Rd.f).sum+gs e (g.take i)+ny p.2 (mf p.2 e) e:=by rw[Gw E];unfold gs;simp;lia
  refine⟨[BD$ ύ$ c.map Rd.D,BD$ gD g,BD F,BD$ Z e,BD$ Z$ (c.map Rd.f).sum+gs e (g.take i),BD$ Z p.1,BD$ ύ$ p.2.map Lo.D],[BD$ ύ$ c.map Rd.D,BD$ gD g,BD F,BD$ Z e,BD$ Z$ (c.map Rd.f).sum+gs e (g.take$ i+1),BD$ Z p.1,BD$ ύ$ p.2.map Lo.D],w,rfl,?_,BD$ Z p.1,BD$ ύ$ p.2.map Lo.D,rfl,rfl⟩;rw[L];generalize c.map Rd.D=J,gD g=I,p.2.map Lo.D=T,(c.map Rd.f).sum+gs e (g.take i)=N,ny p.2 (mf p.2 e) e=B,oD (mf p.2 e)=H at *;simp[Q,sb,P]) ⟨Α,Α,by simp[gs],rfl⟩
 rw[show (Zq g).length=g.length by unfold Zq;simp,yc]at G;unfold PJ XU Dc;dsimp only;generalize c.map Rd.D=J,gD g=I,(c.map Rd.f).map Z=H at *;simp[l,s1,G,-Jq,-Mw]
def Uo(e:Int)(c:List Rx):D:=Ϗ [Z (val e (c.map (·.1))),cD c,ϩ ((FK e (Dr (c.map (·.1)))).map (·.1)) ((FK e (Dr (c.map (·.1)))).map (·.2))]
def FV e c:cl (Uo e c)=G6:=by
 have:=fH c;unfold Uo;simp[cl,gX,this]
def i7 e(s:c.length<=3)(X:∀ p∈c,p.1.x.length<=9)(q:EO (Dr (c.map (·.1)))) a:jF [ύ (c.map λp=>p.1.D),cD c,Z e] a=Y (Uo e c) a:=by
 have R:(c.map λp=>p.1.D)=(c.map (·.1)).map Rd.D:=by rw[Ta];rfl
 have l:=D4 (rs:=c.map (·.1)) (by simpa using s) (λr W=>by obtain⟨p,o,rfl⟩:=wa.mp W;exact X p o);rw[R];unfold Uo val;generalize B:c.map (·.1)=b at *;have s:b.length<=3:=by rw[<-B];simpa using s
 generalize U:Dr b=g at *;obtain⟨a0,a1,H,C,E,rfl,rfl⟩:=rN (f:=Aa 3) (A:=Zq g) (ρ:=[BD$ ύ$ b.map Rd.D,BD$ cD c,BD$ Z e,BD$ gD g,BD$ O a.length,Α,Α]) (σ:=a++[ώ []]) (tg:=xk 2$ yg (ud 5)$ yg (ud 6) Tk) (body:=cU) (by rw[<-iQ];rfl) (by unfold Zq;rw[Ia];have:=q.l;lia) (λi ρ I=>∃ C E,ρ=[BD$ ύ$ b.map Rd.D,BD$ cD c,BD$ Z e,BD$ gD g,BD$ O a.length,C,E]/\I=a++[ώ$ FK e$ g.take i]) (λi k v ρ I u T=>by
  obtain⟨C,E,rfl,rfl⟩:=T;unfold Zq at u;rw[Ja]at u;obtain⟨p,o,Q⟩:=Ga.mp u;obtain⟨rfl,rfl⟩:=Sf Q;have ό:=û (q.x p$ Da o) e;have st:=λρ=>Uq (ρ:=ρ) (σ:=a++[ώ$ FK e$ g.take i]) (d:=oD$ mf p.2 e) (n:=a.length) (w:=p.1) (kvs:=FK e$ g.take i) ⋯ (by unfold FK;rw[Ia,re];have:=q.l;lia);have ϊ:∀ z∈FK e (g.take i),z.1≠.inl p.1:=λz G t=>by
   unfold FK at G;obtain⟨m,y,rfl⟩:=wa.mp G;have t:m.1=p.1:=by simpa using t
   have M:=(List.take_append_drop i g).symm;obtain⟨V,P⟩:=da.mp o;have ϋ:g.drop i=p::g.drop (i+1):=by rw[<-P];exact We V
   have F:=q.d;rw[M,ϋ,wc,nb,Nc]at F;exact F.2.2 _ (Jc y) _ na t
  rw[gC,hD _ ϊ,show FK e (g.take i)++[((.inl p.1:Bd),oD (mf p.2 e))]=FK e (g.take$ i+1) by rw[Gw o];unfold FK;rw[wc];rfl]at st;refine⟨[BD$ ύ$ b.map Rd.D,BD$ cD c,BD$ Z e,BD$ gD g,BD$ O a.length,BD$ Z p.1,BD$ ύ$ p.2.map Lo.D],[BD$ ύ$ b.map Rd.D,BD$ cD c,BD$ Z e,BD$ gD g,BD$ O a.length,BD$ Z p.1,BD$ ύ$ p.2.map Lo.D],_,rfl,?_,BD$ Z p.1,BD$ ύ$ p.2.map Lo.D,rfl,rfl⟩;generalize b.map Rd.D=L,gD g=K,p.2.map Lo.D=PD,cD c=J,oD (mf p.2 e)=FD at *;simp[ό,st]) ⟨Α,Α,rfl,rfl⟩
 rw[show (Zq g).length=g.length by unfold Zq;simp,yc]at H;have gt:∀ p∈g,Lh (O a.length) (Z p.1) (a++[ώ$ FK e g])=Y (oD$ mf p.2 e) (a++[ώ$ FK e g]):=λp o=>by
  have h:=V1 (e:=e) q.d p o;unfold Lh ph;simp[Ai,h]
 have sm:=A1 s q e (a++[ώ$ FK e g]) (O a.length) gt;have fz:Vf a (Y (Ϗ [Z$ (b.map Rd.f).sum+gs e g,cD c,O a.length])$ a++[ώ$ FK e g])=Y (Ϗ [Z$ (b.map Rd.f).sum+gs e g,cD c,ϩ ((FK e g).map (·.1)) ((FK e g).map (·.2))]) a:=by
  unfold Vf;dsimp only;rw[ka ⋯];have h:=BU (σ:=a) (kvs:=FK e g) (j:=[]) (m:=4)$ gX ..;have S:=Ow (k:=a.length) (σ:=a++[ώ$ FK e g]) (m:=5)$ fH c;have:fz a.length (a++[ώ$ FK e g]) 6 (Ϗ [Z$ (b.map Rd.f).sum+gs e g,cD c,O a.length])=BD (Ϗ [Z$ (b.map Rd.f).sum+gs e g,cD c,ϩ ((FK e g).map (·.1)) ((FK e g).map (·.2))]):=by
   unfold fz;rw[ua ⋯];dsimp only;unfold Hk;unfold Hk;unfold Hk;rw[h,S];rfl
  rw[this]
 unfold jF vR Dc;dsimp only;generalize b.map Rd.D=L,gD g=K,cD c=J,(b.map Rd.f).sum+gs e g=N at *;simp[l,H,sm,fz,-Mw]
theorem WQ:∀ (b:List Lo) {g:Gr} {k:Nat},(g.map (·.1)).Nodup->g.length<=k->(∀ p∈g,p.2.length<=k)->((b.foldl yb g).map (·.1)).Nodup/\(b.foldl yb g).length<=k+b.length/\∀ p∈b.foldl yb g,p.2.length<=k+b.length
 |[],g,k,e,f,d=>⟨e,f,d⟩
 |l::b,g,k,e,f,d=>by
  have a:=WQ b (k:=k+1) (RZ g l e) (by unfold yb;split<;>simp<;>lia) (λp c=>by
   unfold yb at c;split at c
   ·obtain⟨x,h,rfl⟩:=wa.mp c;have:=d x h;split
    ·simp;lia
    ·lia
   ·rcases jc.mp c with c|c
    ·have:=d p c;lia
    ·have:p=(l.w,[l]):=by simpa using c
     subst this;simp)
  rw[lb,show k+(b.length+1)=k+1+b.length by lia];exact a
theorem yV:∀ {a:List Rd},(∀ r∈a,r.x.length<=9)->(a.flatMap Rd.x).length<=9 * a.length
 |[],_=>by simp
 |r::a,h=>by
  have c:=h r na;have d:=yV λx b=>h x$ ma _ b;rw[Tt,Gb,lb];lia
def VZ(f:c.length<=3)(e:∀ r∈c,r.x.length<=9):EO$ Dr c:=by
 have a:=WQ (c.flatMap Rd.x) (g:=[]) (k:=0) ⋯ ⋯ (λp h=>by cases h);have b:=yV e;exact⟨a.1,by have:=a.2.1;unfold Dr;lia,λp d=>by have:=a.2.2 p d;lia⟩
theorem wS:∀ {a:List$ List Rd} {c:List Rx},Pk a c->∀ p∈c,∃ d∈a,p.1∈d
 |[],[],_,p,h=>by cases h
 |d::a,x::c,h,p,b=>by
  rcases Ea.mp b with rfl|b
  ·exact⟨d,na,Da h.1⟩
  ·obtain⟨r,e,f⟩:=wS h.2 p b;exact⟨r,ma _ e,f⟩
 |[],_::_,h,_,_=>h.elim
 |_::_,[],h,_,_=>h.elim
structure PU(RR:List (List Rd)):Prop where
 n:RR.length<=3
 f:∀ rs∈RR,0<rs.length/\rs.length<=2
 x:∀ rs∈RR,∀ r∈rs,r.x.length<=9
def Ğ(h:Fp ps) e K:PU$ Sk e K ps:=by
 refine⟨by unfold Sk;rw[Ia];exact h.n,λi b=>?_,λi b r c=>?_⟩
 ·obtain⟨p,a,rfl⟩:=wa.mp b;rw[Ia];exact h.f p a
 ·obtain⟨p,a,rfl⟩:=wa.mp b;obtain⟨s,g,rfl⟩:=wa.mp c;unfold rd;rw[Ia];exact(h.d p a s g).2
def vc(e:Int)(c:List Rx):Int:=val e (c.map (·.1))
def dz(e:Int)(a:List$ List Rd):List Rx:=match xm a [[]]with
 |[]=>[]
 |c::cs=>Dv (vc e) cs c
def aC(e:Int)(a:List$ List Rd):Int:=vc e$ dz e a
def Ρ(h:c∈xm b [[]]):Pk b c:=by
 obtain⟨a,d,r,rfl,e⟩:=pN b h
 simp_all
def zma(h:PU a):∃ c b,xm a [[]]=c::b:=by
 cases e:xm a [[]]with
 |nil=>exact absurd e$ fV a (λg d=>(h.f g d).1) ⋯
 |cons c b=>simp_all
def A2(h:Fp ps) e K a:sB [Zi e K$ ps.map Qe] a=Y (Z$ aC e$ Sk e K ps) a:=by
 have J:=M1 h e K;have d:=Ğ h e K;have w:∀ a,Gc [14,15,16] "every" (Zi e K$ ps.map Qe) a=Y (Z e) a:=λa=>Ik (XB rfl) rfl rfl;generalize Sk e K ps=b,Zi e K (ps.map Qe)=V at *;have c:=j5 d.n (λm l=>(d.f m l).2);have k:=qN b [[]] (λm l=>(d.f m l).2);have k:(xm b [[]]).length<=8:=Ya k (by rw[lb,vg,rE,vJ];exact OS d.n);have F:∀ a,rj (xj (zm$ bi$ og 1 WF []$ Ra (Aa 1) Bb) [1,0] (ud 0) Yj$ og 3 jF []$ Ra (og 2 bJ []$ Ra (Aa 2)$ Ra (Aa 0) Bb)$ Ra (Aa 0)$ Ra (Re (Gc [14,15,16] "every")$ Aa 3) Bb) [BD V,BD$ RL b,Α] a=Y _ a:=λa=>by
  refine ev (s:=.seq$ (xm b [[]]).map cD) cD (Uo e) ?_ (λi r=>Cb BD$ Bq _ _ i) ⋯ (λp o j=>?_) (λp r=>FV e p)
  ·generalize RL b=R,(xm b [[]]).map cD=L at *;simp[c]
  ·have t:=Ρ o;have P:=t.len;have q:∀ x∈p,x.1.x.length<=9:=λx q=>by obtain⟨m,z,A⟩:=wS t x q;exact d.x m z _ A
   have u:=Đ d.n t;have G:=i7 e (c:=p) (by have:=d.n;omega) q (VZ (by have:=d.n;simp;lia) λr l=>by obtain⟨x,C,rfl⟩:=wa.mp l;exact q x C);generalize cD p=M,RL b=R,(p.map λp=>p.1.D)=N,Uo e p=g at *;simp[u,G,w]
 have H:∀ a,Sx (qb Nb (Aa 0)$ eC$ Z 0) [] [ύ$ (xm b [[]]).map$ Uo e] a=Y (Uo e$ dz e b) a:=λa=>by
  apply b_;intro z_;obtain⟨p,v,o⟩:=zma d;apply z_;rw[show dz e b=Dv (vc e) v p by unfold dz;rw[o],o];refine eY (f:=Uo e) λy r=>?_;have:∀ a,Nb (Uo e y) (Z 0) a=Y (Z$ vc e y) a:=λa=>by unfold Uo vc;simp
  generalize Uo e y=ϋ at *;simp[this]
 have B:=FV e$ dz e b;have E:∀ a,Nb (Uo e$ dz e b) (Z 0) a=Y (Z$ aC e b) a:=λa=>by unfold Uo aC vc;simp
 generalize Uo e (dz e b)=g,(xm b [[]]).map (Uo e)=PL at *;have I:∀ a,ej [V] a=Y g a:=λa=>by
  unfold ej AR;generalize RL b=R at *;simp[J,(F a),(H a),B,-Jq]
 unfold sB Dc;simp[I,E]
noncomputable def td(P:Lo->Bool)(l:Lo):Bool:=(l.k == "hangs") && P l
def Yy(P:Lo->Bool)(l:Lo):Lo:=if td P l then ⟨l.w, "sure",l.v,l.d⟩else l
def tv(P:Lo->Bool)(l:Lo):Int:=if td P l then l.v else 0
def tR(P:Lo->Bool)(r:Rd):Rd:=⟨r.f+(r.x.map$ tv P).sum,r.x.map$ Yy P⟩
def tC(P:Lo->Bool)(c:List Rx):List Rx:=c.map λp=>(tR P p.1,p.2)
def nl{a j:Ha}{k:Nat}(h:a[k]?=BD o):(a++j)[k]?=BD o:=by
 rw[ib (da.mp h).1,h]
structure Ac where
 (p q:Int)
 c:Nat
 m:Sn
 G:D
 y:List Sn
 L:B'
def Ac.fs(a:Ac):List$ Str × D:=[("pot",Z a.p),("side",Z a.q),("mine",a.m.D),("grant",a.G),("may",ύ (a.y.map Sn.D)),("strikes",ύ a.L)]
def ji(b:Ha)(n:Nat)(a:Ac):Prop:=b[n]?=BD (ϓ a.c a.fs)
def ji.app(h:ji b n a) j:ji (b++j) n a:=nl h
def DP(h:[10,11,12,13].contains c=G6):[7,8,10,11,12,13].contains c=G6:=by
 simp at h ⊢;omega
structure Ac.Ok(a:Ac):Prop where
 p:0<=a.p/\a.p<=2
 q:a.q=0\/a.q=1
 c:[10,11,12,13].contains a.c=G6
 g:cl a.G=G6
 l:rf a.L=G6
section
variable{σ:Ha}{n:Nat}{a:Ac}(h:ji σ n a)(o:a.Ok)
include h
theorem Kk:bj σ (O n)=BD (a.c,a.fs):=by
 have h:σ[n]?=BD _:=h;unfold bj;simp[h]
include o
theorem Jo:Gc [10,11,12,13] "pot" (O n) σ=Y (Z a.p) σ:=Ik (Kk h) o.c rfl
theorem Sq:Gc [7,8,10,11,12,13] "side" (O n) σ=Y (Z a.q) σ:=Ik (Kk h) (DP o.c) rfl
theorem Xr:Gc [10,11,12,13] "mine" (O n) σ=Y a.m.D σ:=Ik (Kk h) o.c rfl
theorem RV:Gc [10,11,12,13] "grant" (O n) σ=Y a.G σ:=Ik (Kk h) o.c rfl
theorem uz:Gc [10,11,12,13] "may" (O n) σ=Y (ύ$ a.y.map Sn.D) σ:=Ik (Kk h) o.c rfl
theorem PH:Gc [10,11,12,13] "strikes" (O n) σ=Y (ύ a.L) σ:=Ik (Kk h) o.c rfl
end
theorem đ c i a b d e f g h:ck c 7 i [a,b,d,e,f,g] h=kw h.length (i [O h.length,a,b,d,e,f,g]$ h++[ϓ c []]):=xO rfl
def nC{a:Ac}(h:a.Ok) b:ck a.c 7 Wo [Z a.p,Z a.q,a.m.D,a.G,ύ$ a.y.map Sn.D,ύ a.L] b=Y (O b.length) (b++[ϓ a.c a.fs]):=by
 have u:=pF a.y;have w:=h.l;have o:=h.c;unfold Ac.fs;generalize a.p=j,a.q=k,a.c=c,a.m.D=m,a.G=g,a.L=z,a.y.map Sn.D=y at *;have r:=λf v (e:List (Str × D)) (n:e.length<1000)=>WG (ρ:=[BD$ O b.length,BD$ Z j,BD$ Z k,BD m,BD g,BD$ ύ y,BD$ ύ z]) (σ:=b) (cs:=[7,8,10,11,12,13]) (f:=f) (d:=v) (c:=c) (fs:=e) (DP o) n;have x:∀ p:D,Rk "pot" p []=([("pot",p)]:List (Str × D)):=λF=>rfl;have A:∀ p s:D,Rk "side" s [("pot",p)]=([("pot",p),("side",s)]:List (Str × D)):=λF F=>rfl;have B:∀ p s:D,Rk "mine" m [("pot",p),("side",s)]=([("pot",p),("side",s),("mine",m)]:List (Str × D)):=λF F=>rfl;have C:∀ p s:D,Rk "grant" g [("pot",p),("side",s),("mine",m)]=([("pot",p),("side",s),("mine",m),("grant",g)]:List (Str × D)):=λF F=>rfl;have p4:∀ p s:D,Rk "may" (ύ y) [("pot",p),("side",s),("mine",m),("grant",g)]=([("pot",p),("side",s),("mine",m),("grant",g),("may",ύ y)]:List (Str × D)):=λF F=>rfl;have E:∀ p s:D,Rk "strikes" (ύ z) [("pot",p),("side",s),("mine",m),("grant",g),("may",ύ y)]=([("pot",p),("side",s),("mine",m),("grant",g),("may",ύ y),("strikes",ύ z)]:List (Str × D)):=λF F=>rfl;have t:=EA u;have fz:=EA w;have i:Wo [O b.length,Z j,Z k,m,g,ύ y,ύ z] (b++[ϓ c []])=Y Ϛ (b++[ϓ c [("pot",Z j),("side",Z k),("mine",m),("grant",g),("may",ύ y),("strikes",ύ z)]]):=by
  unfold Wo kf;simp[(λf v (e:List (Str × D)) (n:e.length<1000)=>WG (ρ:=[BD$ O b.length,BD$ Z j,BD$ Z k,BD m,BD g,BD$ ύ y,BD$ ύ z]) (σ:=b) (cs:=[10,11,12,13]) (f:=f) (d:=v) (c:=c) (fs:=e) o n),r,x,A,B,C,p4,E,t,fz]
 rw[đ,i,xA]
noncomputable def Wb(p q:Int)(m:Sn)(G:D)(L:B'):Ac:=⟨p,q,11,m,G,[m],L⟩
noncomputable def Wf(p q:Int)(m o:Sn)(G:D)(L:B'):Ac:=⟨p,q,12,m,G,[m,o],L⟩
noncomputable def wait(p q:Int)(o m:Sn)(G:D)(L:B'):Ac:=⟨p,q,13,m,G,[o,m],L⟩
noncomputable def ff(p s:Int)(X:D):D:=Ϗ [ϔ "agree",Z p,Z s,X]
noncomputable def Dl(p s n:Int):D:=Ϗ [ϔ "strike",Z p,Z s,Z n]
def sg(p s:Int)(X:Sn):D:=Ϗ [ϔ "offer",Z p,ff p s X.D]
noncomputable def Fh(p s n:Int):D:=Ϗ [ϔ "struck",Z p,Dl p s n]
def Nh(p:Int)(m s:Sn):D:=Ϗ [ϔ "accept",Z p,ff p 1 s.D,Dl p 1 m.n]
def ii(p:Int)(s:Sn):D:=Ϗ [ϔ "ask",Z p,Ϗ [Z s.a,Z s.b],Ϗ$ s.ts.map Ti.D]
noncomputable def Zu(p w:Int):D:=Ϗ [ϔ "word",Z p,Z w]
def bu{xs}(h:∀ x∈xs,pl n x=G6):pl (n+1) (Ϗ xs)=G6:=gb.mpr h
def JZ n(t:Ti):pl (n+1) t.D=G6:=by simp[pl,Ti.D]
def zK n(b:List Ti):pl (n+2) (Ϗ$ b.map Ti.D)=G6:=bu λx a=>by obtain⟨t,_,rfl⟩:=wa.mp a;exact JZ n t
def LL n(s:Sn):pl (n+3) s.D=G6:=bu λx c=>by
 have c:x=Z s.n\/x=Ϗ [Z s.a,Z s.b]\/x=Ϗ (s.ts.map Ti.D):=by simpa using c
 rcases c with rfl|rfl|rfl
 ·simp[pl]
 ·simp[pl]
 ·exact zK n s.ts
def nI n p q(s:Sn):pl (n+4) (ff p q s.D)=G6:=bu λx a=>by
 have a:x=ϔ "agree"\/x=Z p\/x=Z q\/x=s.D:=by simpa using a
 rcases a with rfl|rfl|rfl|rfl
 ·simp[pl]
 ·simp[pl]
 ·simp[pl]
 ·exact LL n s
def SM p q s:pl 8 (sg p q s)=G6:=bu λx a=>by
 have a:x=ϔ "offer"\/x=Z p\/x=ff p q s.D:=by simpa using a
 rcases a with rfl|rfl|rfl
 ·simp[pl]
 ·simp[pl]
 ·exact nI 3 p q s
def YX p m s:pl 8 (Nh p m s)=G6:=bu λx a=>by
 have a:x=ϔ "accept"\/x=Z p\/x=ff p 1 s.D\/x=Dl p 1 m.n:=by simpa using a
 rcases a with rfl|rfl|rfl|rfl
 ·simp[pl]
 ·simp[pl]
 ·exact nI 3 p 1 s
 ·simp[pl,Dl]
def LK p q n:pl 8 (Fh p q n)=G6:=by simp[pl,Fh,Dl]
def Ur{X}(h:cl X=G6):cl (ff p s X)=G6:=by unfold ff;simp[h]
def m8 p q s:cl (sg p q s)=G6:=by unfold sg;simp[Ur$ Hi s]
def ð p m s:cl (Nh p m s)=G6:=by unfold Nh Dl;simp[Ur$ Hi s]
def L0 p s:cl (ii p s)=G6:=by unfold ii;simp[eV]
section
variable{p:Int}(hp:0<=p/\p<=2)(σ:Ha)
include hp
theorem bP{q}(a:q=0\/q=1) k X:gY [Ϗ [k,Z p,Z q,X]] σ=Y (ϒ G6) σ:=by
 unfold gY Dc;simp[(AM a σ),(yX hp σ)]
theorem SX{q}(c:q=0\/q=1){s:Sn}(h:Zn s.n s.a s.b s.ts):HR [ff p q s.D] σ=Y (ϒ G6) σ:=by
 have t:CI [ff p q s.D] σ=Y (ϒ G6) σ:=by
  unfold Sn.D ff CI Dc;simp[(Iy h σ),(λX=>bP hp σ c (ϔ "agree") X)]
 have i:Nb (ff p q s.D) (Z 0) σ=Y (ϔ "agree") σ:=by unfold ff;simp
 unfold HR Dc
 simp_all
theorem nW{q n}(a:q=0\/q=1)(h:0<=n/\n<=1000000):xP [Dl p q n] σ=Y (ϒ G6) σ:=by
 have t:CI [Dl p q n] σ=Y (ϒ G6) σ:=by
  unfold Dl CI Dc;simp[(BL h σ),(λX=>bP hp σ a (ϔ "strike") X)]
 have i:Nb (Dl p q n) (Z 0) σ=Y (ϔ "strike") σ:=by unfold Dl;simp
 unfold xP Dc
 simp_all
theorem cE{k}{x}{r}(b:r.length<=3)(h:bB [Ϗ$ ϔ k::Z p::x::r] σ=Y (ϒ G6) σ):Wp [Ϗ$ ϔ k::Z p::x::r] σ=Y (ϒ G6) σ:=by
 have a:Il [Ϗ$ ϔ k::Z p::x::r] σ=Y (Z$ r.length+3) σ:=by
  have:=QT (σ:=σ)$ ϔ k::Z p::x::r;rw[this];congr 2
 have lt:decide ((r.length:Int)+3<3)=İ:=Xa ⋯;unfold Wp Dc;simp[h,(yX hp σ),a,lt]
theorem wH{q}(c:q=0\/q=1){s}(h:Zn s.n s.a s.b s.ts):Wp [sg p q s] σ=Y (ϒ G6) σ:=by
 refine cE hp σ ⋯ ?_;unfold bB Dc;simp[(SX hp σ c h)]
theorem FR{m s}(h:Zn s.n s.a s.b s.ts)(c:0<=m.n/\m.n<=1000000):Wp [Nh p m s] σ=Y (ϒ G6) σ:=by
 refine cE hp σ ⋯ ?_;unfold bB Dc;simp[(SX hp σ _ h),(nW hp σ _ c)]
theorem MX{q}(a:q=0\/q=1){n}(h:0<=n/\n<=1000000):Wp [Fh p q n] σ=Y (ϒ G6) σ:=by
 refine cE hp σ ⋯ ?_;unfold bB Dc;simp[(nW hp σ a h)]
theorem ă{s}(h:Zn s.n s.a s.b s.ts):Wp [ii p s] σ=Y (ϒ G6) σ:=by
 have a:=Iy (n:=0) ⟨by lia,h.a,h.b,h.t,h.l,h.d⟩ σ;unfold Hl at a;refine cE hp σ ⋯ ?_;unfold bB Dc;simp[a]
theorem zlp{w}(h:0<=w/\w<=59):Wp [Zu p w] σ=Y (ϒ G6) σ:=by
 refine cE hp σ ⋯ ?_;have a:(("word") == ("offer" : Str))=İ:=by decide
 have b:(("word") == ("accept" : Str))=İ:=by decide
 have c:(("word") == ("struck" : Str))=İ:=by decide
 have d:(("word") == ("ask" : Str))=İ:=by decide
 unfold bB Dc;simp[(nX h σ),a,b,c,d]
end
def Ã{s m:Sn}(h:s.Ok W)(f:m.Ok W)(i:s.n=m.n+1) c:zI [s.D,m.D] c=Y (ϒ G6) c:=by
 have d:=XJ h.st c;have e:=ZG m.n m.a m.b (by have:=f.st.l;omega) c;rw[h.w]at d;rw[f.w]at e;have j:=s0 s c;have k:=s0 m c;have g:(s.n == m.n+1)=G6:=by simp[i]
 unfold zI Dc;unfold Sn.D at *;simp[d,e,j,k,g]
section
variable{σ:Ha}{n:Nat}{a:Ac}(h:ji σ n a)(o:a.Ok)
include h o
theorem xz s{X}(b:cl X=G6):Ug [O n,Z s,X] σ=Y (ff a.p s X) σ:=by
 unfold Ug ff eh;simp[(Jo h o),b]
theorem LA s(m:Sn):Ul [O n,Z s,m.D] σ=Y (Dl a.p s m.n) σ:=by
 unfold Ul Dl eh;simp[(Jo h o),(s0 m)]
end
theorem BF{f:D->D->Option Bool}:∀ {xs d:B'},(∀ x∈xs,∀ y∈d,∃ b,f x y=BD b)->∃ b,Gk f xs d=BD b
 |[],[],_=>⟨_,rfl⟩
 |[],_::_,_=>⟨_,rfl⟩
 |_::_,[],_=>⟨_,rfl⟩
 |x::xs,y::d,h=>by
  obtain⟨b,i⟩:=h x na y na;obtain⟨c,j⟩:=BF λa e b g=>h a (ma _ e) b$ ma _ g;unfold Gk
  simp_all
def w5 i:∀ n x y,pl n x=G6->pl n y=G6->∃ b,xi i n x y=BD b:=by
 intro n;induction n with
 |zero=>intro x y d c;cases x<;>first|(simp[pl]at d;done)|(cases y<;>first|exact⟨_,rfl⟩|(simp[pl]at c;done))
 |succ n g=>
  intro x y d c;cases x with
  |Sa xs=>
   cases y with
   |Sa h=>
    simp[pl,gb]at d c;exact BF λa e b f=>g a b (d a e)$ c b f
   |_=>first|exact⟨_,rfl⟩|(simp[pl]at c;done)
  |ra xs=>
   cases y with
   |ra h=>
    simp[pl,gb]at d c;exact BF λa e b f=>g a b (d a e)$ c b f
   |_=>first|exact⟨_,rfl⟩|(simp[pl]at c;done)
  |_=>first|(simp[pl]at d;done)|(cases y<;>first|exact⟨_,rfl⟩|(simp[pl]at c;done))
theorem r8(h:(k == c)=İ)(d:pl 8 (Ϗ$ ϔ k::r)=G6)(e:pl 8 (Ϗ$ ϔ c::f)=G6) a:qh (Ϗ$ ϔ k::r) (Ϗ$ ϔ c::f) a=Y (ϒ G6) a:=by
 simp only[pl,Ee,Ma,gb]at d e;obtain⟨b,g⟩:=BF λx i y j=>w5 a 7 x y (d.2 x i)$ e.2 y j;refine pw (b:=İ) ?_;show Gk _ _ _=_;unfold Gk;rw[g,show xi a 7 _ _=BD İ by simp[xi,L4.kd,Vo,zk,h]];rfl
theorem vD k a b:qh (ϔ k) (ϔ a) b=Y (ϒ$ !(k == a)) b:=pw (by rfl)
def ĵ a b c:qh (Z a) (Z b) c=Y (ϒ$ decide$ a≠b) c:=by
 by_cases h:a=b<;>simp[h]
def jq(c:0<=p/\p<=2)(d:q=0\/q=1)(a:cl G=G6)(b:rf L=G6):(Wb p q m G L).Ok:=⟨c,d,rfl,a,b⟩
def UE(c:0<=p/\p<=2)(d:q=0\/q=1)(a:cl G=G6)(b:rf L=G6):(Wf p q m o G L).Ok:=⟨c,d,rfl,a,b⟩
def uG(c:0<=p/\p<=2)(d:q=0\/q=1)(a:cl G=G6)(b:rf L=G6):(wait p q m o G L).Ok:=⟨c,d,rfl,a,b⟩
section
variable{σ:Ha}{n:Nat}{p:Int}(hp:0<=p/\p<=2){m s:Sn}{W:Int}(hm:m.Ok W)(hs:s.Ok W)(hn:s.n=m.n+1){G:D}{L:B'}(hg:cl G=G6)(hl:rf L=G6)(hLk:L.length<=100)
include hp hg hl
theorem k8(h:ji σ n$ Wb p 0 m G L) X:Zp [O n,X] σ=Y (Ϗ [O n,Ϛ]) σ:=by
 have a:Gc [7,8,10,11,12,13] "side" (O n) σ=Y (Z 0) σ:=Sq h$ jq hp (ϑ rfl) hg hl;unfold Zp kf;simp[a]
theorem Ľ(h:ji σ n$ Wb p 1 m G L){X}{k}(e:Wp [X] σ=Y (ϒ G6) σ)(d:Nb X (Z 0) σ=Y (ϔ k) σ)(a:(k == ("offer" : Str))=İ):Zp [O n,X] σ=Y (Ϗ [O n,Ϛ]) σ:=by
 have c:Gc [7,8,10,11,12,13] "side" (O n) σ=Y (Z 1) σ:=Sq h$ jq hp (ϖ rfl) hg hl;have b:=vD k "offer" σ;rw[a]at b;unfold Zp kf
 simp_all
theorem È(h:ji σ n$ Wf p 0 m s G L){X}(g:Wp [X] σ=Y (ϒ G6) σ)(b:qh X (Nh p m s) σ=Y (ϒ G6) σ):eu [O n,X] σ=Y (Ϗ [O n,Ϛ]) σ:=by
 have o:=UE (m:=m) (o:=s) hp (ϑ rfl) hg hl;have d:Gc [10,11,12,13] "pot" (O n) σ=Y (Z p) σ:=Jo h o;have e:Gc [10,11,12,13] "mine" (O n) σ=Y m.D σ:=Xr h o;have f:Gc [10,11,12,13] "may" (O n) σ=Y (ύ [m.D,s.D]) σ:=uz h o;have c:Ug [O n,Z 1,s.D] σ=Y (ff p 1 s.D) σ:=xz h o 1$ Hi s;have k:Ul [O n,Z 1,m.D] σ=Y (Dl p 1 m.n) σ:=LA h o 1 m;have j:∀ a,Qi [(12,Ug)] 3 "agree_of" a _ σ=(a σ).bind _:=λa=>Ym (Kk h) rfl rfl;have i:∀ a,Qi [(12,Ul)] 3 "strike_of" a _ σ=(a σ).bind _:=λa=>Ym (Kk h) rfl rfl;unfold Nh at b;unfold eu kf
 simp_all
theorem yQ(h:ji σ n$ wait p 1 m s G L){X}(e:Wp [X] σ=Y (ϒ G6) σ)(b:qh X (Fh p 0 m.n) σ=Y (ϒ G6) σ):yu [O n,X] σ=Y (Ϗ [O n,Ϛ]) σ:=by
 have o:=uG (m:=m) (o:=s) hp (ϖ rfl) hg hl;have c:Gc [10,11,12,13] "pot" (O n) σ=Y (Z p) σ:=Jo h o;have d:Gc [10,11,12,13] "may" (O n) σ=Y (ύ [m.D,s.D]) σ:=uz h o;have g:Ul [O n,Z 0,m.D] σ=Y (Dl p 0 m.n) σ:=LA h o 0 m;have f:∀ a,Qi [(13,Ul)] 3 "strike_of" a _ σ=(a σ).bind _:=λa=>Ym (Kk h) rfl rfl;unfold Fh at b;unfold yu kf
 simp_all
include hm hs hn
theorem lP(h:ji a n$ Wb p 1 m G L):Zp [O n,sg p 0 s] a=Y (Ϗ [O a.length,Nh p m s]) (a++[ϓ 13 (wait p 1 m s (ff p 0 s.D) L).fs]):=by
 have o:=jq (m:=m) hp (ϖ rfl) hg hl;have d:=h.app [ϓ 13 (wait p 1 m s (ff p 0 s.D) L).fs];have mk:ck 13 7 Wo [Z p,Z 1,s.D,ff p 0 s.D,ύ [m.D,s.D],ύ L] a=Y _ (a++[ϓ 13 (wait p 1 m s _ L).fs]):=nC (uG (p:=p) (q:=1) (m:=m) (o:=s) hp (ϖ rfl) (Ur (p:=p) (s:=0)$ Hi s) hl) a;generalize a++[ϓ 13 (wait p 1 m s (ff p 0 s.D) L).fs]=b at *;have k:Gc [7,8,10,11,12,13] "side" (O n) a=Y (Z 1) a:=Sq h o;have l:Gc [10,11,12,13] "pot" (O n) a=Y (Z p) a:=Jo h o;have f:Gc [10,11,12,13] "pot" (O n) b=Y (Z p) b:=Jo d o;have r:Gc [10,11,12,13] "mine" (O n) a=Y m.D a:=Xr h o;have g:Gc [10,11,12,13] "mine" (O n) b=Y m.D b:=Xr d o;have t:Gc [10,11,12,13] "strikes" (O n) a=Y (ύ L) a:=PH h o;have u:∀ a,Nb (sg p 0 s) (Z 0) a=Y (ϔ "offer") a:=λa=>by unfold sg;simp
 have v:∀ a,Nb (sg p 0 s) (Z 2) a=Y (ff p 0 s.D) a:=λa=>by unfold sg;simp
 have w:∀ a,Nb (ff p 0 s.D) (Z 3) a=Y s.D a:=λa=>by unfold ff;simp
 have j:Ug [O n,Z 0,s.D] a=Y (ff p 0 s.D) a:=xz h o 0$ Hi s;have e:Ug [O n,Z 1,s.D] b=Y (ff p 1 s.D) b:=xz d o 1$ Hi s;have B:Ul [O n,Z 1,m.D] b=Y (Dl p 1 m.n) b:=LA d o 1 m;have A:qh (ϔ "offer") (ϔ "offer") a=Y (ϒ İ) a:=Du (by simp[pl]);have y:∀ c,Qi [(11,Ug)] 3 "agree_of" c (O n) a=(c a).bind (Gi 3 Ug$ O n):=λc=>Ym (Kk h) rfl rfl;have i:∀ c,Qi [(11,Ug)] 3 "agree_of" c (O n) b=(c b).bind (Gi 3 Ug$ O n):=λc=>Ym (Kk d) rfl rfl;have x:∀ c,Qi [(11,Ul)] 3 "strike_of" c (O n) b=(c b).bind (Gi 3 Ul$ O n):=λc=>Ym (Kk d) rfl rfl;have z:qh (sg p 0 s) (Ϗ [ϔ "offer",Z p,ff p 0 s.D]) a=Y (ϒ İ) a:=Du$ SM p 0 s;unfold Nh;unfold Zp kf;simp[(wH hp a (ϑ rfl) hs.st),k,l,f,r,g,t,u,v,w,j,e,B,y,i,x,z,A,(Ã hs hm hn a),mk]
theorem VX(h:ji c n$ Wb p 0 m G L):ve [O n,Ϗ [Z s.a,Z s.b],Ϗ$ s.ts.map Ti.D] c=Y (Ϗ [O c.length,sg p 0 s]) (c++[ϓ 12 (Wf p 0 m s G L).fs]):=by
 have o:=jq (q:=0) (m:=m) hp (ϑ rfl) hg hl;have g:=h.app [ϓ 12 (Wf p 0 m s G L).fs];have mk:ck 12 7 Wo [Z p,Z 0,m.D,G,ύ [m.D,s.D],ύ L] c=Y (O c.length) (c++[ϓ 12 (Wf p 0 m s G L).fs]):=nC (UE (p:=p) (q:=0) (m:=m) (o:=s) hp (ϑ rfl) hg hl) c;generalize c++[ϓ 12 (Wf p 0 m s G L).fs]=e at *;have r:Gc [7,8,10,11,12,13] "side" (O n) c=Y (Z 0) c:=Sq h o;have t:Gc [10,11,12,13] "pot" (O n) c=Y (Z p) c:=Jo h o;have f:Gc [10,11,12,13] "pot" (O n) e=Y (Z p) e:=Jo g o;have u:Gc [10,11,12,13] "mine" (O n) c=Y m.D c:=Xr h o;have v:Gc [10,11,12,13] "strikes" (O n) c=Y (ύ L) c:=PH h o;have y:Gc [10,11,12,13] "grant" (O n) c=Y G c:=RV h o;have k:RH [m.D] c=Y (Z W) c:=by rw[<-hm.w];exact ZG _ _ _ (by have:=hm.st.l;omega) c
 have E:FF [s.D,Z W] c=Y (ϒ G6) c:=by rw[<-hs.w];exact XJ hs.st c
 have C:Ϗ [Z$ m.n+1,Ϗ [Z s.a,Z s.b],Ϗ$ s.ts.map Ti.D]=s.D:=by rw[<-hn];rfl
 have B:qh (ϔ "calm") (ϔ "calm") c=Y (ϒ İ) c:=Du (by simp[pl]);have j:∀ x c,ar [x] c=Y (ϔ "calm") c:=λx c=>by unfold ar eh;simp
 have A:∀ d,Qi [(11,ar),(12,Rr),(13,Fu)] 1 "word" d (O n) c=(d c).bind (Gi 1 ar$ O n):=λd=>Ym (Kk h) rfl rfl;have i:Ug [O n,Z 0,s.D] e=Y (ff p 0 s.D) e:=xz g o 0$ Hi s;have z:∀ d,Qi [(10,Ug),(11,Ug),(12,Ug),(13,Ug)] 3 "agree_of" d (O n) e=(d e).bind (Gi 3 Ug$ O n):=λd=>Ym (Kk g) rfl rfl;unfold sg;unfold ve xN;simp[r,t,f,u,v,y,(s0 m),k,E,C,B,j,A,i,z,mk]
omit hn
include hLk
end
def C9(h:ji a n$ Wf p 0 m s G L)(o:(Wf p 0 m s G L).Ok) X ό:ve [O n,X,ό] a=.ex ⟨2⟩ a:=by
 have e:Gc [7,8,10,11,12,13] "side" (O n) a=Y (Z 0) a:=Sq h o;have c:=vD "offered" "calm" a;rw[show (("offered" : Str) == "calm")=İ by decide]at c;have d:∀ x a,Rr [x] a=Y (ϔ "offered") a:=λx a=>by unfold Rr eh;simp
 have f:∀ b,Qi [(11,ar),(12,Rr),(13,Fu)] 1 "word" b _ a=(b a).bind _:=λb=>Ym (Kk h) rfl rfl;unfold ve xN
 simp_all
abbrev Ka:=Nat × Ac
noncomputable def HD(b:Nat):Int:=if b=18\/b=44\/b=62 then 2 else 1
noncomputable def Hj(b:Nat)(e g:Int):List$ Str × D:=[("hand",Z (HD b)),("every",Z e),("last_look",Z 0),("gave",Z g),("known",O (b+1)),("accounts",O (b+2)),("claims",O (b+3)),("seen",O (b+4)),("asked",O (b+5)),("finishing",O (b+6))]
noncomputable def Kj(K:gV):Kv:=K.map λw=>(.inl w,ϒ G6)
noncomputable def AV(a:List Ka):Kv:=a.map λx=>(.inl x.2.p,O x.1)
noncomputable def CV(a:List Ka):Kv:=a.map λx=>(.inl x.2.p,.gt ["held"])
noncomputable def SV(a:List Ka):Kv:=a.map λx=>(.inl x.2.p,ϩ [] [])
def As(a:List Ka)(b:Ha):Prop:=∀ x∈a,ji b x.1 x.2/\x.2.Ok
structure Vs(b:Nat)(e g:Int)(K:gV)(as:List Ka)(σ:Ha):Prop where
 h0:σ[b]?=BD (ϓ 15 (Hj b e g))
 h1:σ[b+1]?=BD (ώ (Kj K))
 h3:σ[b+3]?=BD (ώ (CV as))
 h4:σ[b+4]?=BD (ώ (SV as))
def Vs.app{K}(h:Vs b e g K a c) j:Vs b e g K a$ c++j:=⟨nl h.h0,nl h.h1,nl h.h3,nl h.h4⟩
def Mh{a:Ha}(n:r≠k)(h:a[k]?=BD o):(a.set r x)[k]?=BD o:=by
 rw[ig n,h]
def Vs.set{K}(h:Vs b e g K a c)(d:r=b+2\/b+4<r) x:Vs b e g K a$ c.set r x:=⟨Mh ⋯ h.h0,Mh ⋯ h.h1,Mh ⋯ h.h3,Mh ⋯ h.h4⟩
def As.app(h:As a c) j:As a$ c++j:=λx b=>⟨(h x b).1.app j,(h x b).2⟩
def As.set(h:As c b)(d:b[r]?=BD (ώ f)) o:As c$ b.set r o:=λx a=>⟨Mh (λe=>by
 have:=(h x a).1;unfold ji at this;rw[<-e,d]at this;cases this) (h x a).1,(h x a).2⟩
def Qv(h:a[n]?=BD (ώ b))(c:qi b (.inl w)=BD d):Lh (O n) (Z w) a=Y d a:=by
 unfold Lh ph;simp[Ai,h];simp[c]
theorem UL(c:D):∀ {b:List Ka} {p:Int},(∃ x∈b,x.2.p=p)->qi (b.map λx=>((.inl x.2.p:Bd),c)) (.inl p)=BD c
 |[],p,h=>by obtain⟨x,a,_⟩:=h;cases a
 |y::b,p,h=>by
  by_cases e:y.2.p=p
  ·simp[qi,e]
  ·have:=UL c (by
    obtain⟨x,a,ex⟩:=h;rcases Ea.mp a with rfl|a
    ·exact absurd ex e
    ·exact⟨x,a,ex⟩)
   unfold qi at this ⊢
   simp_all
section
variable{b:Nat}{e g:Int}{K:gV}{as:List Ka}{σ:Ha}(h:Vs b e g K as σ)
include h
theorem Gu:bj σ (O b)=BD (15,Hj b e g):=by unfold bj;simp[h.h0]
theorem j7:Gc [14,15,16] "every" (O b) σ=Y (Z e) σ:=Ik (Gu h) rfl rfl
theorem KZ:Gc [14,15] "last_look" (O b) σ=Y (Z 0) σ:=Ik (Gu h) rfl rfl
theorem HK:Gc [14,15] "known" (O b) σ=Y (O$ b+1) σ:=Ik (Gu h) rfl rfl
theorem K5:Gc [15] "gave" (O b) σ=Y (Z g) σ:=Ik (Gu h) rfl rfl
theorem Pq:Gc [15] "accounts" (O b) σ=Y (O$ b+2) σ:=Ik (Gu h) rfl rfl
theorem RS:Gc [9,15] "claims" (O b) σ=Y (O$ b+3) σ:=Ik (Gu h) rfl rfl
theorem D1:Gc [15] "seen" (O b) σ=Y (O$ b+4) σ:=Ik (Gu h) rfl rfl
theorem SG:Gc [15] "asked" (O b) σ=Y (O$ b+5) σ:=Ik (Gu h) rfl rfl
theorem vn{m} n a c(d:(Hj b e g).lookup m=Α):Qi [(15,a)] n m c (O b) σ=(c σ).bind (Gi n a$ O b):=Ym (Gu h) rfl d
theorem VS{p}(a:∃ x∈as,x.2.p=p):Lh (O$ b+3) (Z p) σ=Y (.gt ["held"]) σ:=Qv h.h3$ UL _ a
theorem wZ{p}(a:∃ x∈as,x.2.p=p):Lh (O$ b+4) (Z p) σ=Y (ϩ [] []) σ:=Qv h.h4$ UL _ a
end
theorem MV:∀ K:gV,lx (Kj K)=BD K
 |[]=>rfl
 |w::K=>by
  have a:=MV K;unfold Kj at a ⊢;unfold lx;simp[a]
abbrev ks(K:gV):gV:=Iq K
def ZT{K}(h:Vs b e g K c a)(i:K.length<=60):zu [O b] a=Y (ύ$ (ks K).map Z) a:=by
 have o:bE [O$ b+1] a=Y (O a.length) (a++[ϐ$ (ks K).map Z]):=by
  have l:uf a (O$ b+1)=Α:=by unfold uf jf;simp[h.h1]
  have d:ph a (O$ b+1)=BD (Kj K):=by unfold ph;simp[h.h1]
  unfold bE;simp[l];unfold iH;simp only[d,MV];rw[ka ⋯];rfl
 have f:Vf a (bE [O$ b+1] a)=Y (ύ$ (ks K).map Z) a:=by rw[o];exact BA$ IF _
 unfold zu eh;simp[(HK h),f]
def v7(h:ji b n a)(c:a.Ok):EJ [O n,.gt ["held"]] b=Y (ύ$ a.y.map Sn.D) b:=by
 have m:=uz h c;have e:∀ b,Nb (.gt ["held"]) (Z 0) b=Y (ϔ "held") b:=λb=>nr rfl;have d:=pF a.y;unfold EJ Dc;simp[e,m,d]
def WL{xs}(h:jf a n=BD xs) j:jf (a++j) n=BD xs:=by
 unfold jf;rw[nl$ JH h]
theorem XR(h:f ρ σ=Y (O n) σ)(g:σ[n]?=BD (ώ A))(e:src ρ σ=Y nx b)(i:Hn nx tg body 1001 0 ρ b=Y (ϙ c) a)(d:a[n]?=BD (ϧ A')):Uw f (xp src tg body) ρ σ=Y (ϙ c) (a.set n$ ώ A'):=by
 show cu WH _ _ σ=_;unfold cu;rw[h];dsimp only;rw[g];rw[Mw,e,ql];show Sy WH _ (Hn nx tg body 1001 0 ρ b)=_;rw[i];unfold Sy;simp[d];rfl
def ċ(c:f b a=Y (O n) a)(g:a[n]?=BD (ώ A)):Ws f b a=Y (oo A) (a.set n$ ϧ A):=by
 show Rc _ AA a=_;rw[tj,c,Sd];unfold AA;simp[g]
def SD{a:Ha}(h:a[r]?=BD o):a.set r o=a:=by
 obtain⟨b,c⟩:=da.mp h;rw[<-c];exact List.set_getElem_self b
theorem KL c g a b d e f:ck c 5 g [a,b,d,e] f=kw f.length (g [O f.length,a,b,d,e]$ f++[ϓ c []]):=xO rfl
def n8 g(K:gV) e{ps:List Pv}(C:ps.length<=3)(o:jf g n=BD (ps.map Qe)):GA [O g.length,Z e,Z 0,ύ$ K.map Z,O n] (g++[ϓ 14 []])=Y Ϛ (g++[ϓ 14 [("every",Z e),("last_look",Z 0),("known",ύ (K.map Z)),("pots",ύ (ps.map Qe))]]):=by
 have E:=λ(m:h8) (u:m.contains 14=G6) (f:Str) (w:D) (h:List (Str × D)) (x:h.length<1000)=>WG (ρ:=[BD$ O g.length,BD$ Z e,BD$ Z 0,BD$ ύ$ K.map Z,BD$ O n]) (σ:=g) (cs:=m) (f:=f) (d:=w) (c:=14) (fs:=h) u x;have r:∀ h,Vf (g++[ϓ 14 h]) (Io [ύ$ K.map Z]$ g++[ϓ 14 h])=Y (ύ$ K.map Z) (g++[ϓ 14 h]):=λh=>EA (IF K) _;have y:∀ h,rj (xj (zm$ bi$ Aa 4) [] (ud 0) Yj$ Eh$ Ra (qb Nb (Aa 0)$ eC$ Z 0)$ Ra (rj$ Uk Io$ Ra (qb Nb (Aa 0)$ eC$ Z 1) Bb)$ Ra (Uk DD$ Ra (qb Nb (Aa 0)$ eC$ Z 2) Bb) Bb) [BD$ O g.length,BD$ Z e,BD$ Z 0,BD$ ύ$ K.map Z,BD$ O n] (g++[ϓ 14 h])=Y (ύ$ ps.map Qe) (g++[ϓ 14 h]):=λh=>by
  have s1:Uv (O n) (g++[ϓ 14 h])=Y (.Zm n) (g++[ϓ 14 h]):=by
   show (match jf (g++[ϓ 14 h]) n with|some _=>_|none=>_)=_;rw[WL o]
  exact ev (ix:=[]) (src:=bi$ Aa 4) (s:=.Zm n) (xs:=ps) (ρ:=[BD$ O g.length,BD$ Z e,BD$ Z 0,BD$ ύ$ K.map Z,BD$ O n]) (σ:=g++[ϓ 14 h]) (fe:=Eh$ Ra (qb Nb (Aa 0)$ eC$ Z 0)$ Ra (rj$ Uk Io$ Ra (qb Nb (Aa 0)$ eC$ Z 1) Bb)$ Ra (Uk DD$ Ra (qb Nb (Aa 0)$ eC$ Z 2) Bb) Bb) Qe Qe (by simp[s1]) (λi j=>by
    show (jf (g++[ϓ 14 h]++j) n).map _=_;rw[WL$ WL o _,<-Bq];rfl) ⋯
   (λv i j=>by
    have q:=EA$ pF v.2;have p:∀ l,DD [ϩ [] []] l=Y (ϩ [] []) l:=λl=>nr rfl;unfold Qe;simp[q,p]) (λv i=>eU v)
 have z:Rk "every" (Z e) ([]:List (Str × D))=([("every",Z e)]:List (Str × D)):=rfl;have A:∀ a b:D,Rk "last_look" b ([("every",a)]:List (Str × D))=([("every",a),("last_look",b)]:List (Str × D)):=λi i=>rfl;have B:∀ a b c:D,Rk "known" c ([("every",a),("last_look",b)]:List (Str × D))=([("every",a),("last_look",b),("known",c)]:List (Str × D)):=λi i i=>rfl;have p4:∀ a b c d:D,Rk "pots" d ([("every",a),("last_look",b),("known",c)]:List (Str × D))=([("every",a),("last_look",b),("known",c),("pots",d)]:List (Str × D)):=λi i i i=>rfl;have t:∀ k g,rj (Uk Io$ Ra (Aa 3) Bb) k g=Vf g (Uk Io (Ra (Aa 3) Bb) k g):=λi i=>rfl;unfold GA kf;simp[E,z,A,B,p4,r,y,t,-Jq]
def pv(x:Ka):Pv:=(x.2.q,x.2.y)
def iw(e:Int)(K:gV)(a:List Ka):D:=Zi e (ks K)$ (a.map pv).map Qe
def eW e K a:cl (iw e K a)=G6:=V6 _ _$ yT _
section
variable{b:Nat}{e g:Int}{K:gV}(hK:K.length<=60){as as':List Ka}{σ:Ha}
include hK
theorem uR(h:Vs b e g K as σ)(V:As as' σ)(H:∀ x∈as',∃ y∈as,y.2.p=x.2.p)(X:as'.length<=3){r}(k:σ[r]?=BD (ώ$ AV as'))(T:r=b+2\/b+4<r):iC [O b,O r] σ=Y (iw e K as') σ:=by
 have a:=(da.mp k).1;have A:=h.set T$ ϧ$ AV as';have u:=V.set k$ ϧ$ AV as';have C:(σ.set r$ ϧ$ AV as').length=σ.length:=dw;have c:=nl (j:=[ϐ []]) k;obtain⟨a0,a1,I,E,F,rfl,rfl⟩:=OI (tg:=xk 2$ yg (ud 3)$ yg (ud 4) Tk) (body:=sR) (N:=(AV as').length) (λi G s=>∃ E F,G=[BD$ O b,BD$ O r,BD$ O σ.length,E,F]/\s=σ.set r (ϧ$ AV as')++[ϐ$ ((as'.take i).map pv).map Qe]) (λi G s w U=>by
  apply b_;intro z_;obtain⟨E,F,rfl,rfl⟩:=U;have w:i<as'.length:=by simpa [AV]using w
  apply z_;have B:as'[i]?=BD as'[i]:=da.mpr ⟨w,rfl⟩;generalize as'[i]=x at *;have z:=Da B;have t:=Rz (σ:=σ.set r$ ϧ$ AV as') (xs:=((as'.take i).map pv).map Qe) (d:=Qe$ pv x) (by simp;omega);rw[C]at t;have me:∀ m,Cr zi m (O σ.length) (σ.set r (ϧ$ AV as')++[ϐ$ ((as'.take i).map pv).map Qe])=(m$ σ.set r (ϧ$ AV as')++[ϐ$ ((as'.take i).map pv).map Qe]).bind (zi$ O σ.length):=λm=>Lx (xs:=((as'.take i).map pv).map Qe) (by unfold uf jf;rw[<-C];simp);have v:=A.app [ϐ$ ((as'.take i).map pv).map Qe];have M:=RS v;have ϋ:=D1 v;have P:=VS v$ H x z;have Q:=wZ v$ H x z;have l:=(u.app [ϐ$ ((as'.take i).map pv).map Qe]) x z;have st:=v7 l.1 l.2;have sd:=Sq l.1 l.2;have tq:Ϗ [Z x.2.q,ύ$ x.2.y.map Sn.D,ϩ [] []]=Qe (pv x):=rfl;rw[show ((as'.take i).map pv).map Qe++[Qe$ pv x]=((as'.take$ i+1).map pv).map Qe by rw[Gw B];simp]at t;refine⟨Ϗ [Z x.2.p,O x.1],[BD$ O b,BD$ O r,BD$ O σ.length,BD$ Z x.2.p,BD$ O x.1],[BD$ O b,BD$ O r,BD$ O σ.length,BD$ Z x.2.p,BD$ O x.1],_,?_,rfl,?_,_,_,rfl,rfl⟩
  ·unfold oo AV;simp only[Ja,B];rfl
  ·generalize σ.set r (ϧ$ AV as')++[ϐ$ ((as'.take i).map pv).map Qe]=ό,σ.set r (ϧ$ AV as')++[ϐ$ ((as'.take$ i+1).map pv).map Qe]=ϊ at *;simp[M,ϋ,P,Q,st,sd,me,tq,t]) (λs=>wX (AV as') s) 1001 0 [BD$ O b,BD$ O r,BD$ O σ.length,Α,Α] ((σ++[ϐ []]).set r$ ϧ$ AV as') (by simp[AV];omega) ⋯ ⟨Α,Α,rfl,by rw[jg _ _ a];simp⟩
 rw[show (AV as').length=as'.length by simp[AV],yc]at I;have J:=XR (f:=Aa 1) (src:=Ws$ Aa 1) (ρ:=[BD$ O b,BD$ O r,BD$ O σ.length,Α,Α]) (σ:=σ++[ϐ []]) (n:=r) ⋯ c (ċ ⋯ c) I (A':=AV as')$ nl (by rw[Zb a]);rw[jg _ _ (by rw[C];exact a),Ph,SD k]at J;have o:=h.app [ϐ$ (as'.map pv).map Qe];have wd:=ZT o hK;have mt:=λS=>vn o (m:="words") 1 zu S rfl;have R:=j7 o;have la:=KZ o;have W:=eW e K as';have mk:Vf (σ++[ϐ$ (as'.map pv).map Qe]) (ck 14 5 GA [Z e,Z 0,ύ$ (ks K).map Z,O σ.length]$ σ++[ϐ$ (as'.map pv).map Qe])=Y (iw e K as') (σ++[ϐ$ (as'.map pv).map Qe]):=by
  rw[KL,n8 _ (ks K) e (n:=σ.length) (ps:=as'.map pv) (by simpa using X) (by unfold jf;simp),xA,aY (by have:=yT$ as'.map pv;generalize (as'.map pv).map Qe=L at *;simp[this])];rfl
 have fz:Vf σ (Y (iw e K as')$ σ++[ϐ$ (as'.map pv).map Qe])=Y (iw e K as') σ:=UT W;unfold iC SW eh;dsimp only;generalize (as'.map pv).map Qe=L at *;simp[-Mw,J,R,la,wd,mt,mk,fz]
end
def W(e:Int)(K:gV)(a:List Ka):Int:=aC e$ Sk e (ks K)$ a.map pv
structure Kp where
 (e g:Int)
 K:gV
 as:List Ka
 Q:Kv
def Kp.W(k:Kp):Int:=K51.W k.e k.K k.as
structure Zk(b:Nat)(k:Kp)(σ:Ha):Prop where
 v:Vs b k.e k.g k.K k.as σ
 h2:σ[b+2]?=BD (ώ (AV k.as))
 h5:σ[b+5]?=BD (ώ k.Q)
 a:As k.as σ
 d:(k.as.map (·.2.p)).Nodup
 n:k.as.length<=3
 z:k.K.length<=60
 o:Fp (k.as.map pv)
 q:k.Q.length<=100
def Zk.app(h:Zk b k c) j:Zk b k$ c++j:=⟨h.v.app j,nl h.h2,nl h.h5,h.a.app j,h.d,h.n,h.z,h.o,h.q⟩
def IU(h:Fp$ a.map pv) e K b:sB [iw e K a] b=Y (Z$ W e K a) b:=A2 h e (ks K) b
section
variable{b:Nat}{k:Kp}{σ:Ha}(h:Zk b k σ)
include h
theorem rS:Yq [O b] σ=Y (Z k.W) σ:=by
 have v:=uR h.z h.v h.a (λx f=>⟨x,f,rfl⟩) h.n h.h2$ ϑ rfl;have w:=IU h.o k.e k.K;have d:=eW k.e k.K k.as;have w:∀ σ,sB [iw k.e k.K k.as] σ=Y (Z k.W) σ:=w;generalize iw k.e k.K k.as=V at *;have g:OF [O b] σ=Y V σ:=by
  unfold OF eh;simp[(λc=>vn h.v (m:="view_by") 2 iC c rfl),(Pq h.v),v,d]
 unfold Yq eh;simp[(λc=>vn h.v (m:="view") 1 OF c rfl),g,w]
noncomputable def Gh(a:List Ka)(x:Ka):List Ka:=a.map λy=>if y.2.p=x.2.p then x else y
omit h
theorem QU(c:∃ y∈a,y.2.p=x.2.p):Ni (AV a) (.inl x.2.p) (O x.1)=AV (Gh a x):=by
 obtain⟨y,d,b⟩:=c;unfold Ni AV Gh;rw[ka$ Uc.mpr ⟨_,wa.mpr ⟨y,d,rfl⟩,by simp[b]⟩];rw[Ta,Ta];refine Md λz f=>?_;by_cases e:z.2.p=x.2.p;all_goals simp_all
theorem LF(h:y∈Gh a x):y=x\/y∈a:=by
 obtain⟨z,b,rfl⟩:=wa.mp h;split;all_goals simp_all
theorem aM a x:(Gh a x).map (·.2.p)=a.map (·.2.p):=by
 unfold Gh;rw[Ta];refine Md λy b=>?_;simp
 grind
theorem IK a x:(Gh a x).length=a.length:=by unfold Gh;simp
structure yI(a:Ac):Prop where
 q:a.q=0\/a.q=1
 f:0<a.y.length/\a.y.length<=2
 d:∀ s∈a.y,(s.ts.map Ti.w).Nodup/\s.ts.length<=9
 a:∀ s∈a.y,∀ t∈s.ts,0<=t.a
theorem kQ(h:Fp$ c.map pv)(g:yI x.2):Fp$ (Gh c x).map pv:=by
 have j:∀ p∈(Gh c x).map pv,p=pv x\/p∈c.map pv:=λp b=>by
  obtain⟨y,i,rfl⟩:=wa.mp b;rcases LF i with rfl|i
  ·exact ϑ rfl
  ·exact ϖ$ Jc i
 refine⟨by rw[Ia,IK];simpa using h.n,λp b=>?_,λp b=>?_,λp b=>?_,λp b=>?_⟩<;>rcases j p b with rfl|e
 ·exact g.q
 ·exact h.q p e
 ·exact g.f
 ·exact h.f p e
 ·exact g.d
 ·exact h.d p e
 ·exact g.a
 ·exact h.a p e
include h
theorem PN{x}(j:ji σ x.1 x.2)(l:x.2.Ok)(w:yI x.2)(q:∃ y∈k.as,y.2.p=x.2.p) d:Lv [O b,O x.1,Z d] σ=Y (ϒ$ decide$ W k.e k.K (Gh k.as x) ≥ k.W - d) σ:=by
 have s:=Pq h.v;have u:kI [O$ b+2] σ=Y (O σ.length) (σ++[ώ$ AV k.as]):=by
  have:ph σ (O$ b+2)=BD (AV k.as):=by unfold ph;simp[h.h2]
  unfold kI;simp only[this]
 have st:∀ i,zn i (O x.1) (O σ.length) (Z x.2.p) (σ++[ώ$ AV k.as])=Y (ϙ i) (σ++[ώ$ AV$ Gh k.as x]):=λi=>by
  rw[Uq (kvs:=AV k.as) ⋯ (by have:=h.n;simp[AV];omega),QU q,gC]
 have D:=Jo (j.app [ώ$ AV k.as]) l;have F:=(da.mp h.h5).1;have E:As (Gh k.as x) σ:=λy c=>by
  rcases LF c with rfl|c
  ·exact⟨j,l⟩
  ·exact h.a y c
 have g:=h.v.app [ώ$ AV$ Gh k.as x];have v:=uR h.z g (E.app [ώ$ AV$ Gh k.as x]) (λy c=>by
  rcases LF c with rfl|c
  ·exact q
  ·exact⟨y,c,rfl⟩) (by rw[IK];exact h.n) (r:=σ.length) ⋯$ ϖ ⋯
 have A:=rS$ h.app [ώ$ AV$ Gh k.as x];have B:=λf=>vn g (m:="view_by") 2 iC f rfl;have C:=λf=>vn g (m:="worth") 1 Yq f rfl;have fz:∀ t,Vf σ (Y (ϒ t)$ σ++[ώ$ AV$ Gh k.as x])=Y (ϒ t) σ:=λt=>UT ⋯;unfold Lv eh;simp[s,u,st,D,v,(IU (kQ h.o w) k.e k.K),A,B,C,fz]
end
theorem RG:∀ {a:List Ka},(a.map (·.2.p)).Nodup->∀ x∈a,qi (AV a) (.inl x.2.p)=BD (O x.1)
 |[],_,x,h=>by cases h
 |y::a,hd,x,b=>by
  rw[nb,Jd]at hd;unfold AV qi;rcases Ea.mp b with rfl|b
  ·simp
  ·have c:y.2.p≠x.2.p:=λe=>hd.1$ e ▸ Jc b;have d:=RG hd.2 x b;unfold AV qi at d
   simp_all
def Ξ a x:CV (Gh a x)=CV a:=by
 have e:∀ a:List Ka,CV a=(a.map (·.2.p)).map λp=>(.inl p,.gt ["held"]):=λa=>by unfold CV;rw[Ta];rfl
 rw[e,aM,<-e]
def B8 a x:SV (Gh a x)=SV a:=by
 have e:∀ a:List Ka,SV a=(a.map (·.2.p)).map λp=>(.inl p,ϩ [] []):=λa=>by unfold SV;rw[Ta];rfl
 rw[e,aM,<-e]
section
variable{b:Nat}{k:Kp}{σ:Ha}(h:Zk b k σ)
include h
theorem JW:ph σ (O$ b+2)=BD (AV k.as):=by unfold ph;simp[h.h2]
theorem rK{x}(a:x∈k.as):Px [O b,Z x.2.p] σ=Y (ϒ G6) σ:=by
 have g:=Pq h.v;have c:=RS h.v;have f:=VS h.v ⟨x,a,rfl⟩;have i:ju (Z x.2.p) (O$ b+2) σ=Y (ϒ G6) σ:=by
  unfold ju;simp only[Ai,JW h,RG h.d x a];rfl
 have e:∀ σ,zO (.gt ["held"]) (.gt ["held"]) σ=Y (ϒ G6) σ:=λσ=>nr rfl;unfold Px eh;simp[g,c,f,i,e]
theorem Cw{x}(a:x∈k.as):Lh (O$ b+2) (Z x.2.p) σ=Y (O x.1) σ:=Qv h.h2$ RG h.d x a
theorem χ{x}(b:x∈k.as):Vf σ (Y (O x.1) σ)=Y (O x.1) σ:=by
 unfold Vf;dsimp only;rw[ka yc];have:fz σ.length σ 6 (O x.1)=BD (O x.1):=by
  unfold fz;rw[ua ⋯];dsimp only;rw[ka$ (da.mp (h.a x b).1).1]
 rw[this]
theorem pX{x}(a:x∈k.as):Br [O b,Z x.2.p] σ=Y (O x.1) σ:=by
 have i:zp (Z x.2.p) (O$ b+2) σ=Y (ϒ İ) σ:=by
  unfold zp;simp only[Ai,JW h,RG h.d x a];rfl
 unfold Br eh;simp[(Pq h.v),i,(Cw h a),(χ h a)]
theorem ň:kx [O b] σ=Y (Z k.g) σ:=by
 unfold kx eh;simp[(K5 h.v)]
theorem JN{x}(g:ji σ x.1 x.2)(i:x.2.Ok)(l:yI x.2)(j:∃ y∈k.as,y.2.p=x.2.p):(∀ f,zn f (O x.1) (O$ b+2) (Z x.2.p) σ=Y (ϙ f) (σ.set (b+2)$ ώ$ AV$ Gh k.as x))/\Zk b { k with as:=Gh k.as x } (σ.set (b+2)$ ώ$ AV$ Gh k.as x):=by
 refine⟨λf=>by rw[Uq h.h2 (by have:=h.n;simp[AV];lia),QU j],?_⟩;have c:=h.v.set (ϑ rfl)$ ώ$ AV$ Gh k.as x;refine⟨⟨c.h0,c.h1,?_,?_⟩,Zb$ (da.mp h.h2).1,Mh ⋯ h.h5,?_,?_,?_,h.z,kQ h.o l,h.q⟩
 ·show _=BD _;rw[Ξ];exact c.h3
 ·show _=BD _;rw[B8];exact c.h4
 ·have m:As _ σ:=λy e=>by
   rcases LF e with rfl|e
   ·exact⟨g,i⟩
   ·exact h.a y e
  exact m.set h.h2 _
 ·show ((Gh k.as x).map (·.2.p)).Nodup;rw[aM];exact h.d
 ·show (Gh k.as x).length<=3;rw[IK];exact h.n
theorem IW{d}{a}{c}(f:c a σ=Y (Z d) σ):wz a [15] "gave" c (O b) σ=Y (ϙ a) (σ.set b$ ϓ 15$ Hj b k.e$ k.g+d):=by
 have lk:List.lookup ("gave" : Str) (Hj b k.e k.g)=BD _:=rfl;unfold wz;rw[(Gu h.v)];simp only[lk];rw[kl,f,ql];unfold xM;simp only[h.v.h0];rfl
theorem MP d:Zk b { k with g:=k.g+d }$ σ.set b$ ϓ 15$ Hj b k.e$ k.g+d:=by
 refine⟨⟨Zb$ (da.mp h.v.h0).1,Mh ⋯ h.v.h1,Mh ⋯ h.v.h3,Mh ⋯ h.v.h4⟩,Mh ⋯ h.h2,Mh ⋯ h.h5,λx f=>⟨Mh (λe=>?_) (h.a x f).1,(h.a x f).2⟩,h.d,h.n,h.z,h.o,h.q⟩;have a:=(h.a x f).1;unfold ji at a;have i:=h.v.h0;rw[e]at i;rw[i]at a;have c:=(h.a x f).2.c;have:x.2.c=15:=by
  simp_all
 rw[this]at c;exact absurd c ⋯
theorem UQ{Q}(c:Q.length<=100):Zk b { k with Q:=Q }$ σ.set (b+5)$ ώ Q:=by
 exact⟨(h.v.set (ϖ$ by lia)$ ώ Q),Mh ⋯ h.h2,Zb$ (da.mp h.h5).1,h.a.set h.h5 _,h.d,h.n,h.z,h.o,c⟩
end
def Sl(d:Int)(s:Sn):D:=Ϗ [Z d,Ϗ [Z s.a,Z s.b],Ϗ$ s.ts.map Ti.D]
def AQ(Q:Kv):Prop:=∀ z∈Q,∃ d s,z.2=Sl d s
section
variable{b:Nat}{k:Kp}{σ:Ha}(h:Zk b k σ)
include h
theorem tM:ph σ (O$ b+5)=BD k.Q:=by unfold ph;simp[h.h5]
theorem δ{X}{kd}(d:∀ σ,Nb X (Z 0) σ=Y (ϔ kd) σ)(a:(kd == ("offer" : Str))=İ):wt [O b,X] σ=Y (ϒ İ) σ:=by
 have c:=vD kd "offer" σ;rw[a]at c;unfold wt eh
 simp_all
end
@[simp] theorem zro b f d c a e:RE b f d c a e=vk a (wz a b f d) (c a e):=kl ..
theorem N6{l}{g}{e fr}{i f}{b}{a}{x y}{c d}{h gs}(j:e b a=Y x a)(k:fr b a=Y y a)(n:bj a x=BD (c,h))(o:bj a y=BD (d,gs))(m:(c,d)∈l):Ww l g e fr i f b a=f b a:=by
 unfold Ww;rw[kl,j,ql,kl,k,ql];unfold BI
 simp_all
theorem j0{l}{e}{f fr}{g i}{d}{a b}{n}{z}{c}{h}(j:f d a=Y (O n) a)(k:fr d a=Y (O n) a)(q:bj a (O n)=BD (c,h))(p:(c,c) ∉ l)(o:c∈e)(m:g d a=Y (ϭ z) b):Ww l e f fr g i d a=Y (ϭ z) b:=by
 unfold Ww;rw[kl,j,ql,kl,k,ql];unfold BI;simp only[q];rw[ua p,ka ⟨trivial,o⟩];unfold NJ;simp[m];rfl
structure SO(T:Int)(s:Sn):Prop where
 ok:s.Ok T
 w:∀ t∈s.ts,t.w<60
def IL(L:B'):Prop:=∀ z∈L,∃ i,z=Z i
theorem IL.cl{L}(h:IL L):rf L=G6:=Fn λd a=>by obtain⟨i,rfl⟩:=h d a;rfl
def IL.add{L}(h:IL L) n:IL$ L++[Z n]:=λz a=>by
 rcases jc.mp a with a|a
 ·exact h z a
 ·exact⟨n,jb.mp a⟩
inductive AI(T:Int->Int)(N:Nat):Ac->Prop where
 |Wb {p q:Int} {m:Sn} {G:D} {L:B'} (hp:0<=p/\p<=2) (hq:q=0\/q=1) (hm:SO (T p) m) (hn:m.n<=N) (hg:cl G=G6) (hl:IL L) (hL:L.length<=N):AI T N (Wb p q m G L)
 |Wf {p:Int} {m s:Sn} {G:D} {L:B'} (hp:0<=p/\p<=2) (hm:SO (T p) m) (hs:SO (T p) s) (hn:s.n=m.n+1) (hN:s.n<=N) (hg:cl G=G6) (hl:IL L) (hL:L.length<=N):AI T N (Wf p 0 m s G L)
 |wait {p:Int} {m s:Sn} {G:D} {L:B'} (hp:0<=p/\p<=2) (hm:SO (T p) m) (hs:SO (T p) s) (hn:s.n=m.n+1) (hN:s.n<=N) (hg:cl G=G6) (hl:IL L) (hL:L.length<=N):AI T N (wait p 1 m s G L)
def AI.up{T}{N M}{a}(h:AI T N a)(k:N<=M):AI T M a:=by
 cases h with
 |Wb b c d f i e g=>exact .Wb b c d ⋯ i e ⋯
 |Wf b c d f i e g j=>exact .Wf b c d f ⋯ e g ⋯
 |wait b c d f i e g j=>exact .wait b c d f ⋯ e g ⋯
def AI.ok{T}{N}{a}(h:AI T N a):a.Ok:=by
 cases h with
 |Wb b e g i f c d=>exact jq b e f c.cl
 |Wf b e g i f c d j=>exact UE b (ϑ rfl) c d.cl
 |wait b e g i f c d j=>exact uG b (ϖ rfl) c d.cl
def AI.so{T}{N}{a}(h:AI T N a):(∀ s∈a.y,SO (T a.p) s)/\0<a.y.length/\a.y.length<=2:=by
 cases h with
 |Wb e d c f g i j=>exact⟨λs b=>by
   rw[jb.mp$ b];exact c,by simp[K51.Wb],by simp[K51.Wb]⟩
 |Wf e d c f g i j k=>exact⟨λs b=>by
   rcases Ea.mp (b)with rfl|b
   ·exact d
   ·rw[jb.mp b];exact c,by simp[K51.Wf],by simp[K51.Wf]⟩
 |wait e d c f g i j k=>exact⟨λs b=>by
   rcases Ea.mp (b)with rfl|b
   ·exact d
   ·rw[jb.mp b];exact c,by simp[K51.wait],by simp[K51.wait]⟩
def AI.Wz{T}{N}{a}(h:AI T N a):yI a:=⟨h.ok.q,h.so.2,λs b=>⟨((h.so.1 s b).ok).st.d,by have:=((h.so.1 s b).ok).st.l;omega⟩,λs b t c=>by have:=(((h.so.1 s b).ok).st.t t c).a;omega⟩
def Fr(b:Nat)(c a:Ha):Prop:=∀ r o,(r<b\/b+5<r)->c[r]?=BD o->a[r]?=BD o
def Fr.trans{b}{a c d}(h:Fr b a c)(g:Fr b c d):Fr b a d:=λr o f e=>g r o f$ h r o f e
def Fr.refl b a:Fr b a a:=λc c c e=>e
def Fr.app b a j:Fr b a$ a++j:=λc c c e=>nl e
def Fr.set{b} a{i}(c:b<=i/\i<=b+5) o:Fr b a$ a.set i o:=λr f d e=>Mh ⋯ e
structure Dn(T:Int->Int)(N b:Nat)(k:Kp)(σ:Ha)(k':Kp)(σ':Ha):Prop where
 at':Zk b k' σ'
 w:k.W+k.g<=k'.W+k'.g
 e:k'.e=k.e
 K:(∀ v∈k.K,v∈k'.K)/\k'.K.length<=k.K.length+1
 a:∀ y∈k'.as,y∈k.as\/AI T (N+1) y.2
 p:k'.as.map (·.2.p)=k.as.map (·.2.p)
 Q:AQ k'.Q/\k'.Q.length<=k.Q.length+1
 f:Fr b σ σ'
section
variable{T:Int->Int}{N b:Nat}{k:Kp}{σ:Ha}(h:Zk b k σ)(hQ:AQ k.Q)
def Dn.same{a}(h:Zk b k a)(hQ:AQ k.Q)(f:Fr b σ a):Dn T N b k σ k a:=⟨h,zr _,rfl,⟨λd h=>h,by lia⟩,λy c=>ϑ c,rfl,⟨hQ,by lia⟩,f⟩
def nH{Q}(hQ:AQ Q) f:AQ (Q.filter f)/\(Q.filter f).length<=Q.length:=⟨λz a=>hQ z (Gd.mp a).1,Rf ..⟩
include h
theorem QA{x}(g:x∈k.as)(l:x.2.c∈[11,12,13]){X}(o:Nb X (Z 1) σ=Y (Z x.2.p) σ){d}(mk:∀ e,Qi [(11,Zp),(12,eu),(13,yu)] 2 "taken" e (O x.1) σ=(e σ).bind (Gi 2 d$ O x.1))(r:d [O x.1,X] σ=Y (Ϗ [O x.1,Ϛ]) σ):Mr [O b,X] σ=Y (ύ []) σ:=by
 have q:=Pq h.v;have n:=Cw h g;have m:∀ i j f,Ww [(13,11),(11,13),(11,12)] [11,12,13] (qb Nb (Aa 3)$ eC$ Z 0) (qb Lh (Re (Gc [15] "accounts")$ Aa 0)$ Aa 2) (gg$ ci Bb) f [BD$ O b,BD X,BD$ Z x.2.p,BD$ Ϗ [O x.1,Ϛ],i,j] σ=Y (ϭ$ ύ []) σ:=λi j f=>by
  refine j0 ?_ ?_ (Kk (h.a x g).1) ?_ l ?_;all_goals simp_all
 unfold Mr AB IA Yz kf
 simp_all
include hQ
end
section
variable{T:Int->Int}{N b:Nat}{k:Kp}{σ:Ha}(h:Zk b k σ)(hQ:AQ k.Q){x:Ka}(hx:x∈k.as)
include h hx
theorem ZH{X d}{kd}{a}(e:Wp [X] σ=Y (ϒ G6) σ)(f:∀ σ,Nb X (Z 0) σ=Y (ϔ kd) σ)(g:∀ σ,Nb X (Z 1) σ=Y (Z x.2.p) σ)(j:(kd == ("word" : Str))=İ)(i:(kd == ("ask" : Str))=İ)(k:Mr [O b,X] σ=Y d a):Ei [O b,X] σ=Y d a:=by
 unfold Ei kf;simp[e,f,g,j,i,(rK h hx),(λc=>vn h.v (m:="holds") 2 Px c rfl),(λc=>vn h.v (m:="take_step") 2 Mr c rfl),k]
theorem bW{s}(g:Zn s.n s.a s.b s.ts)(f:0<=x.2.p/\x.2.p<=2){d}{c}(k:Ew [O b,ii x.2.p s] σ=Y d c):Ei [O b,ii x.2.p s] σ=Y d c:=by
 have i:∀ σ,Nb (ii x.2.p s) (Z 0) σ=Y (ϔ "ask") σ:=λσ=>by unfold ii;simp
 have j:∀ σ,Nb (ii x.2.p s) (Z 1) σ=Y (Z x.2.p) σ:=λσ=>by unfold ii;simp
 unfold Ei kf;simp[(ă f σ g),i,j,(rK h hx),(λe=>vn h.v (m:="holds") 2 Px e rfl),(λe=>vn h.v (m:="take_ask") 2 Ew e rfl),k]
theorem zZ{s}(i:∀ X ό,ve [O x.1,X,ό] σ=.ex ⟨2⟩ σ):Ew [O b,ii x.2.p s] σ=Y (ύ []) σ:=by
 have d:∀ σ,Nb (ii x.2.p s) (Z 1) σ=Y (Z x.2.p) σ:=λσ=>by unfold ii;simp
 have e:∀ σ,Nb (ii x.2.p s) (Z 2) σ=Y (Ϗ [Z s.a,Z s.b]) σ:=λσ=>by unfold ii;simp
 have f:∀ σ,Nb (ii x.2.p s) (Z 3) σ=Y (Ϗ$ s.ts.map Ti.D) σ:=λσ=>by unfold ii;simp
 have c:∀ g ρ σ,Rs ρ _ [⟨sx [(1,G6),_],Α,g⟩] σ=hit ⟨sx [(1,G6),(2,G6)],Α,g⟩ ρ ⟨2⟩ σ:=λg ρ σ=>NV rfl;unfold Ew oF pG BG dH eG kf;simp[d,e,f,(Pq h.v),(Cw h hx),i,c]
include hQ
end
def Xp{a}{b}{n}{c}{d}{l}{m}(h:ji b n a)(g:a.c=c)(i:An l c=BD d)(f:a.fs.lookup m=Α) k e:Qi l k m e (O n) b=(e b).bind (Gi k d$ O n):=Ym (Kk h) ⋯ f
noncomputable def ra(a:Ac):Sn:=a.y.getLastD a.m
noncomputable def yxl(a:Ac):Sn:=a.y.headD a.m
inductive Lt(T:Int->Int)(N:Nat)(a:Ac):D->Prop where
 |off {s:Sn} (hq:a.q=1) (hs:SO (T a.p) s) (hn:s.n=a.m.n+1):Lt T N a (sg a.p 0 s)
 |ask {s:Sn} (hq:a.q=0) (hs:SO (T a.p) s) (hn:s.n=a.m.n+1):Lt T N a (ii a.p s)
 |acc (hq:a.q=0):Lt T N a (Nh a.p a.m (ra a))
 |vj (hq:a.q=1):Lt T N a (Fh a.p 0 (yxl a).n)
 |wd {w:Int} (hw:0<=w/\w<60):Lt T N a (Zu a.p w)
inductive Tu(a:Ac)(T:Int->Int):D->Prop where
 |off {s:Sn} (hq:a.q=0) (hs:SO (T a.p) s):Tu a T (sg a.p 1 s)
 |ask {s:Sn} (hq:a.q=1) (hs:SO (T a.p) s):Tu a T (ii a.p s)
 |vj {n:Int} (hq:a.q=0) (hn:0<=n/\n<=1000000):Tu a T (Fh a.p 1 n)
def c5:(11:Nat)∈[11,12,13]:=by decide
def c6:(12:Nat)∈[11,12,13]:=by decide
def c7:(13:Nat)∈[11,12,13]:=by decide
def IZ:((13,11):Nat × Nat)∈[(13,11),(11,13),(11,12)]:=by decide
def Η:((11,13):Nat × Nat)∈[(13,11),(11,13),(11,12)]:=by decide
def ā:((11,12):Nat × Nat)∈[(13,11),(11,13),(11,12)]:=by decide
def ZK p q s a:Nb (sg p q s) (Z 0) a=Y (ϔ "offer") a:=by unfold sg;simp
def oA p q s a:Nb (sg p q s) (Z 1) a=Y (Z p) a:=by unfold sg;simp
def gN p m s a:Nb (Nh p m s) (Z 0) a=Y (ϔ "accept") a:=by unfold Nh;simp
def ID p m s a:Nb (Nh p m s) (Z 1) a=Y (Z p) a:=by unfold Nh;simp
def tH p q n a:Nb (Fh p q n) (Z 0) a=Y (ϔ "struck") a:=by unfold Fh;simp
def CC p q n a:Nb (Fh p q n) (Z 1) a=Y (Z p) a:=by unfold Fh;simp
noncomputable def ut(K:gV)(w:Int):gV:=if w∈K then K else K++[w]
def HV K w:Ni (Kj K) (.inl w) (ϒ G6)=Kj (ut K w):=by
 unfold ut;by_cases h:w∈K
 ·have a:(Kj K).any (λc=>decide$ c.1=.inl w)=G6:=Uc.mpr ⟨_,wa.mpr ⟨w,h,rfl⟩,by simp⟩;unfold Ni;unfold Kj
  simp_all
 ·rw[ua h,hD _ λp b e=>by
   obtain⟨d,a,rfl⟩:=wa.mp b;have e:d=w:=by simpa using e
   exact h$ e ▸ a]
  unfold Kj
  simp_all
section
variable{b:Nat}{k:Kp}{σ:Ha}(h:Zk b k σ)(hz:k.K.length<60)
include h hz
end
section
variable{T:Int->Int}{N b:Nat}{k:Kp}{σ:Ha}(h:Zk b k σ)(hQ:AQ k.Q){x:Ka}(hx:x∈k.as)(hA:AI T N x.2)
include h hx hA
include hQ
end
theorem mO:∀ {xs:gV},(∀ x∈xs,0<=x)->0<=xs.sum
 |[],_=>by simp
 |x::xs,h=>by
  have b:=h x na;have c:=mO λy a=>h y$ ma _ a;rw[List.sum_cons];lia
noncomputable def sa(q d a:Int):Int:=if q=0 then a+d else a
noncomputable def sb(q d b:Int):Int:=if q=0 then b else b+d
def yF{q}(e:q=0\/q=1) a b d c:LS [Ϗ [Z a,Z b],Z q,Z d] c=Y (Ϗ [Z$ sa q d a,Z$ sb q d b]) c:=by
 unfold LS sa sb Dc;rcases e with rfl|rfl<;>simp
abbrev NW(m:Sn)(w:Int):Prop:=w ∉ m.ts.map Ti.w/\m.ts.length<=5
def bo(m:Sn)(q d:Int):Sn:=⟨m.n+1,sa (1 - q) d$ sa q (-d) m.a,sb (1 - q) d$ sb q (-d) m.b,m.ts⟩
def ij(m:Sn)(t:Ti):Sn:=⟨m.n+1,sa t.p (-t.a) m.a,sb t.p (-t.a) m.b,m.ts++[t]⟩
noncomputable def rm(w:Int)(a:List Ti):List Ti:=a.filter λu=>decide$ u.w≠w
def Mf(m:Sn)(t:Ti)(r:Int):Sn:=⟨m.n+1,sa r t.a m.a,sb r t.a m.b,rm t.w m.ts⟩
section
variable{m s:Sn}{W:Int}(hm:m.Ok W)(hW:W<=2000000000000)(hn:m.n<=99)
def Y7{b}(h:∀ c,mu [s.D] c=Y (ϒ b) c) c:oh [Z s.n,Ϗ [Z s.a,Z s.b],Ϗ$ s.ts.map Ti.D] c=if b then Y s.D c else .ex ⟨1⟩ c:=by
 have e:Ϗ [Z s.n,Ϗ [Z s.a,Z s.b],Ϗ _]=s.D:=rfl;unfold oh XN;cases b<;>simp[e,h,(Hi s)]
def cN{b}(h:∀ c,mu [s.D] c=Y (ϒ b) c)(e:s.n=m.n+1) c:zz [m.D,Ϗ [Z s.a,Z s.b],Ϗ$ s.ts.map Ti.D] c=if b then Y s.D c else .ex ⟨1⟩ c:=by
 have d:=Y7 h;rw[e]at d;unfold zz Dc;cases b<;>simp[(s0 m),d,(Hi s)]
include hm hW hn
theorem JY d a:AG [Z d] a=Y (ϒ$ bd (Z d) 1 1000000000000) a:=by
 unfold AG Dc;simp[(Qx (d:=Z d) rfl 1 1000000000000 a)]
theorem WS{q d}(f:q=0\/q=1)(i:0<=d)(c:d<=ow q m):(bo m q d).Ok W:=by
 obtain⟨⟨n,a,b,t,l,e⟩,w⟩:=hm;have j:0<=Oo m.ts:=by
  refine mO λx h=>?_;obtain⟨u,g,rfl⟩:=wa.mp h;have:=(t u g).a;omega
 rcases f with rfl|rfl
 ·simp only[ow,af]at c;refine⟨⟨?_,?_,?_,t,l,e⟩,?_⟩<;>simp[bo,sa,sb]<;>omega
 ·simp[ow]at c;refine⟨⟨?_,?_,?_,t,l,e⟩,?_⟩<;>simp[bo,sa,sb]<;>lia
theorem D5{q}(f:q=0\/q=1) d c:WM [m.D,Z q,Z d] c=if (1<=d/\d<=1000000000000)/\d<=ow q m then Y (bo m q d).D c else .ex ⟨1⟩ c:=by
 have k:=AM f;have e:=JY hm hW hn d;by_cases i:1<=d/\d<=1000000000000
 ·have j:bd (Z d) 1 1000000000000=G6:=by simp[bd,i]
  rw[j]at e;have v:=aN q;have r:=s1 m;have u:=s2 m;have w:∀ c,mu [(bo m q d).D] c=Y (ϒ$ decide$ d<=ow q m) c:=λc=>by
   by_cases h:d<=ow q m
   ·rw[Eb h];exact Iy (WS hm hW hn f ⋯ h).st c
   ·rw[Xa h];have:=gK (n:=m.n+1) (a:=(bo m q d).a) (b:=(bo m q d).b) (by have:=hm.st.n;omega) hm.st.t (by have:=hm.st.l;omega) c;have z:Np (bo m q d).a (bo m q d).b=İ:=by
     have:=hm.st.a;have:=hm.st.b;rcases f with rfl|rfl
     ·simp[ow]at h;simp[bo,sa,Np,bd];omega
     ·simp[ow]at h;simp[bo,sb,Np,bd];omega
    rwa [z,Ex]at this
  have g:=cN (m:=m) (s:=bo m q d) w rfl;have g:∀ c,zz [m.D,Ϗ [Z$ sa (1 - q) d$ sa q (-d) m.a,Z$ sb (1 - q) d$ sb q (-d) m.b],Ϗ$ m.ts.map Ti.D] c=if decide (d<=ow q m)then Y (bo m q d).D c else .ex ⟨1⟩ c:=g;have p:=Hi$ bo m q d;have o:((1<=d/\d<=1000000000000)/\d<=ow q m)=(d<=ow q m):=by simp[i]
  simp only[o];unfold WM Dc;by_cases h:d<=ow q m<;>simp[k,e,(yF f m.a m.b$ -d),(yF (q:=1 - q) ⋯ (sa q (-d) m.a) (sb q (-d) m.b) d),v,r,u,g,h,p]
 ·have j:bd (Z d) 1 1000000000000=İ:=by simp[bd];omega
  rw[j]at e;rw[ua λz=>i z.1];unfold WM Dc;simp[k,e]
theorem DW{t}(g:t.Ok)(d:t.a<=ow t.p m)(i:NW m t.w):(ij m t).Ok W:=by
 obtain⟨⟨n,a,b,v,l,r⟩,w⟩:=hm;have e:Oo (m.ts++[t])=Oo m.ts+t.a:=by simp[Oo]
 have j:∀ u∈(ij m t).ts,u.Ok:=λu k=>by
  rcases jc.mp k with h|h;all_goals simp_all
 have l2:(ij m t).ts.length<=6:=by have:=i.2;show (m.ts++[t]).length<=6;simp;lia
 have c:((ij m t).ts.map Ti.w).Nodup:=by
  show ((m.ts++[t]).map Ti.w).Nodup;rw[wc,Nc];exact⟨r,by simp,λx o y q e=>i.1 (by have:=(by simpa using q);rw[<-this,<-e];exact o)⟩
 have s:=g.a;rcases g.p with f|f
 ·rw[f]at d;simp only[ow,af]at d;refine⟨⟨?_,?_,?_,j,l2,c⟩,?_⟩<;>simp[ij,sa,sb]<;>lia
 ·rw[f]at d;simp[ow]at d;refine⟨⟨?_,?_,?_,j,l2,c⟩,?_⟩<;>simp[ij,sa,sb]<;>lia
theorem X9{t}(d:t.p=0\/t.p=1)(f:0<=t.w/\t.w<=59)(A:0<=t.y/\t.y<=1000000) c:hH [m.D,Z t.p,Z t.a,Z t.w,Z t.y] c=if ((1<=t.a/\t.a<=1000000000000)/\t.a<=ow t.p m)/\NW m t.w then Y (ij m t).D c else .ex ⟨1⟩ c:=by
 have r:Ϗ [Z t.p,Z t.a,Z t.w,Z t.y]=t.D:=rfl;have g:=SU (t:=t) d f A;by_cases j:1<=t.a/\t.a<=1000000000000
 ·have o:bd (Z t.a) 1 1000000000000=G6:=by simp[bd,j]
  rw[o]at g;have x:t.Ok:=⟨d,j,f,A⟩
  have E:=yF d m.a m.b$ -t.a;have B:=s1 m;have C:=s2 m;have F:∀ c,Wj (Ϗ$ m.ts.map Ti.D) (Ϗ [t.D]) c=Y (Ϗ$ (ij m t).ts.map Ti.D) c:=λc=>by
   rw[Ġ (by have:=hm.st.l;unfold lg;simp;omega)];show Y (Ϗ _) c=Y (Ϗ$ (m.ts++[t]).map Ti.D) c;rw[wc];rfl
  have st:∀ c,mu [(ij m t).D] c=Y (ϒ$ decide$ t.a<=ow t.p m/\NW m t.w) c:=λc=>by
   by_cases h:t.a<=ow t.p m/\NW m t.w
   ·rw[Eb h];exact Iy (DW hm hW hn x h.1 h.2).st c
   ·rw[Xa h];by_cases J:m.ts.length<=5;case neg=>exact t5 (n:=m.n+1) (a:=(ij m t).a) (b:=(ij m t).b) (ts:=m.ts++[t]) (by have:=hm.st.n;omega) (by simp;omega) c
    have:=gK (n:=m.n+1) (a:=(ij m t).a) (b:=(ij m t).b) (ts:=m.ts++[t]) (by have:=hm.st.n;omega) (λu I=>by
     rcases jc.mp I with h|h
     ·exact hm.st.t u h
     ·have:u=t:=by simpa using h
      rw[this];exact x) (by simp;omega) c
    have z:(Np (ij m t).a (ij m t).b && decide ((m.ts++[t]).map Ti.w).Nodup)=İ:=by
     by_cases e:t.a<=ow t.p m
     ·have H:¬ ((m.ts++[t]).map Ti.w).Nodup:=λz=>h ⟨e,λq=>by
       rw[wc,Nc]at z;exact z.2.2 t.w q t.w ⋯ rfl,J⟩
      rw[Xa H,Cm]
     ·have z:Np (ij m t).a (ij m t).b=İ:=by
       have:=hm.st.a;have:=hm.st.b;rcases d with d|d
       ·rw[d]at e;simp[ow]at e;simp[ij,sa,Np,bd,d];omega
       ·rw[d]at e;simp[ow]at e;simp[ij,sb,Np,bd,d];omega
      rw[z,Ex]
    rwa [z]at this
  have i:=cN (m:=m) (s:=ij m t) st rfl;have i:∀ c,zz [m.D,Ϗ [Z$ sa t.p (-t.a) m.a,Z$ sb t.p (-t.a) m.b],Ϗ$ (ij m t).ts.map Ti.D] c=if decide (t.a<=ow t.p m/\NW m t.w)then Y (ij m t).D c else .ex ⟨1⟩ c:=i;have v:=Hi$ ij m t;have G:(((1<=t.a/\t.a<=1000000000000)/\t.a<=ow t.p m)/\NW m t.w)=(t.a<=ow t.p m/\NW m t.w):=by simp[j]
  simp only[G];by_cases h:t.a<=ow t.p m/\NW m t.w
  ·have k:∀ c,zz [m.D,Ϗ [Z$ sa t.p (-t.a) m.a,Z$ sb t.p (-t.a) m.b],Ϗ$ (ij m t).ts.map Ti.D] c=Y (ij m t).D c:=λc=>(i c).trans (by rw[Eb h];rfl);rw[ka h];unfold hH Dc;simp[r,g,E,B,C,F,k,v]
  ·have k:∀ c,zz [m.D,Ϗ [Z$ sa t.p (-t.a) m.a,Z$ sb t.p (-t.a) m.b],Ϗ$ (ij m t).ts.map Ti.D] c=.ex ⟨1⟩ c:=λc=>(i c).trans (by rw[Xa h];rfl);rw[ua h];unfold hH Dc;simp[r,g,E,B,C,F,k,v]
 ·have o:bd (Z t.a) 1 1000000000000=İ:=by simp[bd];omega
  rw[o]at g;rw[ua λz=>j z.1.1];unfold hH Dc;simp[r,g]
end
noncomputable def Ep(w:Int)(a:List Ti):Option Ti:=a.find? λu=>decide$ u.w=w
def oT:Option Ti->D
 |some t=>t.D
 |none=>Ϛ
def mD{w}{a}{t}(h:Ep w a=BD t):t∈a/\t.w=w:=⟨Xe h,by have:=Pl h;simpa using this⟩
def FL(t:Ti) a:Nb t.D (Z 0) a=Y (Z t.p) a:=by unfold Ti.D;simp
def T9(t:Ti) b:Nb t.D (Z 1) b=Y (Z t.a) b:=by unfold Ti.D;simp
def GG(t:Ti) a:Nb t.D (Z 2) a=Y (Z t.w) a:=by unfold Ti.D;simp
theorem kP(M:Option D)(w:Int)(a:Ha):∀ (c:List Ti) (x:Option D),∃ y,Lj (ud 2) tK (c.map Ti.D) [M,BD$ Z w,x] a=(match Ep w c with
  |some t=>Y (ϭ t.D) a
  |none=>Y (ϙ [M,BD$ Z w,y]) a)
 |[],x=>⟨x,rfl⟩
 |t::c,x=>by
  obtain⟨y,f⟩:=kP M w a c _;refine⟨y,?_⟩;rw[nb,iq];simp only[Ab,Vb];have d:=GG t;have b:tK [M,BD$ Z w,BD t.D] a=if t.w=w then Y (ϭ t.D) a else Y (ϙ [M,BD$ Z w,BD t.D]) a:=by
   by_cases h:t.w=w
   ·simp[d,h]
   ·have e:(t.w == w)=İ:=by simp[h]
    simp[d,h,e]
  rw[b];unfold Ep;rw[wg];by_cases h:t.w=w
  ·rw[ka h,Eb h,Sd,E6]
  ·rw[ua h,Xa h,Sd,il,f];rfl
section
variable{m:Sn}{W:Int}(hm:m.Ok W)(hW:W<=2000000000000)(hn:m.n<=99)
def KU(m:Sn) w a:AC [m.D,Z w] a=Y (oT$ Ep w m.ts) a:=by
 obtain⟨y,b⟩:=kP (BD m.D) w a m.ts Α;have c:=s2 m;unfold AC EQ oT Dc;cases h:Ep w m.ts with
 |none=>simp_all
 |some t=>
  rw[h]at b;simp[c,b,(xI t)]
def pb(w p:Int)(a:List Ti):Bool:=match Ep w a with
 |some t=>decide (t.p=p)
 |none=>İ
def wV(m:Sn) w p a:RQ [m.D,Z w,Z p] a=Y (ϒ$ pb w p m.ts) a:=by
 have b:=KU m w;unfold RQ pb Dc;dsimp only;generalize m.D=c at *;cases h:Ep w m.ts with
 |none=>
  rw[h]at b;have b:∀ a,AC [c,Z w] a=Y Ϛ a:=b;simp[b]
 |some t=>
  rw[h]at b;have b:∀ a,AC [c,Z w] a=Y t.D a:=b;have e:=FL t;have f:∀ a,dC t.D Ϛ a=Y _ a:=λa=>rfl;by_cases d:t.p=p;all_goals simp_all
def IR{w}{t}(h:Ep w m.ts=BD t) a:MS [m.D,Z w] a=Y t.D a:=by
 have b:=KU m w;rw[h]at b;have b:∀ a,AC [m.D,Z w] a=Y t.D a:=b;have c:∀ a,Ko t.D Ϛ a=Y _ a:=λa=>rfl;unfold MS Dc;simp[b,c,(xI t)]
theorem mR:∀ {d:List Ti} {t:Ti},(d.map Ti.w).Nodup->t∈d->Oo (rm t.w d)+t.a=Oo d
 |[],t,_,h=>by cases h
 |b::d,t,hd,h=>by
  rw[nb,Jd]at hd;unfold rm;rw[se];rcases Ea.mp h with rfl|h
  ·have e:d.filter (λu=>decide$ u.w≠t.w)=d:=Ag.mpr λu g=>Eb λe=>hd.1$ e ▸ Jc g;rw[e];simp[Oo];lia
  ·have i:b.w≠t.w:=λe=>hd.1$ e ▸ Jc h;have f:=mR hd.2 h;unfold rm at f;rw[Eb i,ka rfl];have c:∀ xs:List Ti,Oo (b::xs)=b.a+Oo xs:=λxs=>by simp[Oo]
   rw[c,c,<-f];lia
include hm hW hn
theorem sO{t}(g:t∈m.ts){r}(h:r=0\/r=1):(Mf m t r).Ok W:=by
 have q:=mR hm.st.d g;obtain⟨⟨n,a,b,f,l,j⟩,w⟩:=hm;have o:=(f t g).a;have p:0<=Oo (rm t.w m.ts):=by
  refine mO λx i=>?_;obtain⟨u,c,rfl⟩:=wa.mp i;have:=(f u (Gd.mp c).1).a;lia
 have k:∀ u∈(Mf m t r).ts,u.Ok:=λu c=>f u (Gd.mp c).1;have l2:(Mf m t r).ts.length<=6:=Ya (Rf ..) l;have e:((Mf m t r).ts.map Ti.w).Nodup:=j.sublist$ xr.map _;rcases h with rfl|rfl<;>refine⟨⟨?_,?_,?_,k,l2,e⟩,?_⟩<;>simp[Mf,sa,sb]<;>omega
theorem xT{t}(f:t∈m.ts){r}(e:r=0\/r=1) c:aW [m.D,t.D,Z r] c=Y (Mf m t r).D c:=by
 have l:=JD (src:=bi$ qb Nb (Aa 0)$ eC$ Z 2) (ρ:=[BD m.D,BD t.D,BD$ Z r,Α]) (σ:=c) (s:=.seq _) (ix:=[1]) (fi:=eT$ qb qh (qb Nb (Aa 0)$ eC$ Z 2)$ qb Nb (Aa 2)$ eC$ Z 2) (fe:=Aa 0) Ti.D Ti.D (λu=>decide$ u.w≠t.w) (by
   simp[(s2 m)]) (λi g=>Cb BD$ Bq m.ts _ i) (by have:=hm.st.l;lia) (λu g j=>by
  exact⟨by simp[(GG u _),(GG t$ c++j),(ĵ u.w t.w$ c++j)],λg=>by simp⟩) (λu g g=>xI u)
 have l:rj _ _ c=Y (ύ$ (Mf m t r).ts.map Ti.D) c:=l;have d:=λc=>cN (λc=>Iy (sO hm hW hn f e).st c) rfl c;have d:∀ c,zz [m.D,Ϗ [Z$ sa r t.a m.a,Z$ sb r t.a m.b],Ϗ$ (Mf m t r).ts.map Ti.D] c=Y (Mf m t r).D c:=d;unfold aW Dc;simp[l,(s1 m),(yF e m.a m.b t.a),(T9 t),d,(Hi$ Mf m t r),-Jq]
theorem ė{w}{t}(h:Ep w m.ts=BD t) b:dR [m.D,Z w] b=Y (Mf m t$ 1 - t.p).D b:=by
 have a:=(mD h).1;have d:=(hm.st.t t a).p;have c:=Hi$ Mf m t$ 1 - t.p;unfold dR Dc;simp[(IR h),(xT hm hW hn a (r:=1 - t.p)$ by lia),(aN t.p),(FL t),c]
theorem Į{w}{t}(h:Ep w m.ts=BD t) b:lY [m.D,Z w] b=Y (Mf m t t.p).D b:=by
 have a:=(mD h).1;unfold lY Dc;simp[(IR h),(xT hm hW hn a$ (hm.st.t t a).p),(FL t),(Hi _)]
end
inductive Wi where
 |Vl (d:Int)
 |yp (pay:Bool) (d w y:Int)
 |vf (w:Int)
 |drop (w:Int)
noncomputable def Wi.k:Wi->Str
 | .Vl _=>"give"
 | .yp G6 _ _ _=>"pay"
 | .yp İ _ _ _=>"pass"
 | .vf _=>"settle"
 | .drop _=>"drop"
noncomputable def Wi.D(a:Int):Wi->L4.D
 | .Vl d=>Ϗ [ϔ "give",Z a,Z d]
 | .yp p d w y=>Ϗ [ϔ$ if p then "pay" else "pass",Z a,Z d,Z w,Z y]
 | .vf w=>Ϗ [ϔ "settle",Z a,Z w]
 | .drop w=>Ϗ [ϔ "drop",Z a,Z w]
noncomputable def Wi.al:Wi->Int
 | .Vl d=>d
 | .yp G6 d _ _=>d
 |_=>0
def Wi.Ok:Wi->Prop
 | .yp _ _ w y=>(0<=w/\w<60)/\0<=y/\y<=1000000
 |_=>True
def Wi.st(q:Int)(K:gV)(m:Sn):Wi->Option Sn
 | .Vl d=>if (1<=d/\d<=1000000000000)/\d<=ow q m then BD (bo m q d)else Α
 | .yp _ d w y=>if ((1<=d/\d<=1000000000000)/\d<=ow q m)/\NW m w then BD (ij m ⟨q,d,w,y⟩)else Α
 | .vf w=>match Ep w m.ts with
  |some t=>if t.p=1 - q/\w∈K then BD (Mf m t q)else Α
  |none=>Α
 | .drop w=>match Ep w m.ts with
  |some t=>if t.p=q then BD (Mf m t q)else Α
  |none=>Α
def oS(a:Ha):Option Sn->dh D
 |some s=>Y s.D a
 |none=>.ex ⟨1⟩ a
theorem oX c(a:Wi) b:Nb (a.D c) (Z 0) b=Y (ϔ a.k) b:=by
 cases a with
 |yp p d w y=>cases p<;>simp[Wi.D,Wi.k]
 |_=>rfl
def dW a(b:Wi) c:Nb (b.D a) (Z 1) c=Y (Z a) c:=by cases b<;>simp[Wi.D]
def ŋ c(a:Wi) b:ZL [a.D c] b=Y (Z a.al) b:=by
 unfold ZL Dc;cases a with
 |yp p d w y=>cases p<;>simp[Wi.D,Wi.al]
 |_=>simp[Wi.D,Wi.al]
section
variable{b:Nat}{p q:Int}(hp:0<=p/\p<=2)(hq:q=0\/q=1){k:Kp}{σ:Ha}(h:Zk b k σ){n:Nat}{m:Sn}{T:Int}(hm:m.Ok T)(hT:T<=2000000000000)(hn:m.n<=99){G:D}{L:B'}(hg:cl G=G6)(hl:rf L=G6)
include h in
theorem Q0 w:ju (Z w) (O$ b+1) σ=Y (ϒ$ decide$ w∈k.K) σ:=by
 have:ph σ (O$ b+1)=BD (Kj k.K):=by
  have:=h.v.h1;unfold ph;simp[this]
 unfold ju;simp only[Ai,this];have e:∀ K:gV,(qi (Kj K)$ .inl w).isSome=decide (w∈K):=λK=>by
  induction K with
  |nil=>rfl
  |cons v K a=>
   unfold Kj qi at a ⊢;by_cases h:v=w
   ·simp[h]
   ·have c:¬ w=v:=λz=>h z.symm;simpa [h,c]using a
 simp[e]
include hp hq h hm hT hn hg hl
theorem M3(x:ji σ n$ Wb p q m G L){s:Wi}(u:s.Ok):YL [O n,s.D p,O$ b+1] σ=oS σ (s.st q k.K m):=by
 have v:=jq (p:=p) (m:=m) hp hq hg hl;have c:Gc [7,8,10,11,12,13] "side" (O n) σ=Y (Z q) σ:=Sq x v;have e:Gc [10,11,12,13] "mine" (O n) σ=Y m.D σ:=Xr x v;have j:=Q0 h;have l:=aN q;unfold YL Wi.D Wi.st Dc;cases s with
 |Vl d=>
  have f:=D5 hm hT hn hq d;have g:=Hi$ bo m q d;dsimp only;by_cases h:(1<=d/\d<=1000000000000)/\d<=ow q m
  ·simp only[ka h]at f ⊢;unfold oS;dsimp only;generalize m.D=i,(bo m q d).D=B at *;simp[c,e,f,g]
  ·simp only[ua h]at f ⊢;unfold oS;dsimp only;generalize m.D=i at *;simp[c,e,f]
 |yp py d w y=>
  have f:=X9 (t:=⟨q,d,w,y⟩) hm hT hn hq ⟨u.1.1,by have:=u.1.2;dsimp only;omega⟩ u.2;have g:=Hi$ ij m ⟨q,d,w,y⟩;dsimp only at f ⊢;have A:∀ k σ,Nb (Ϗ [ϔ k,Z p,Z d,Z w,Z y]) (Z 4) σ=Y (Z y) σ:=λk σ=>U7 ..;by_cases h:((1<=d/\d<=1000000000000)/\d<=ow q m)/\NW m w
  ·simp only[ka h]at f ⊢;unfold oS;dsimp only;generalize m.D=i,(ij m ⟨q,d,w,y⟩).D=B at *;cases py<;>simp[c,e,f,g,A]
  ·simp only[ua h]at f ⊢;unfold oS;dsimp only;generalize m.D=i at *;cases py<;>simp[c,e,f,A]
 |vf w=>
  have a:=wV m w$ 1 - q;have j:=j w;unfold pb at a;dsimp only;cases h:Ep w m.ts with
  |none=>
   rw[h]at a;dsimp only at a ⊢;unfold oS;dsimp only;generalize m.D=i at *;simp[c,e,l,a]
  |some t=>
   rw[h]at a;dsimp only at a ⊢;by_cases hp:t.p=1 - q
   ·rw[Eb hp]at a;by_cases r:w∈k.K
    ·rw[Eb r]at j;have o:=ė hm hT hn h;rw[show 1 - t.p=q by omega]at o;have g:=Hi$ Mf m t q;rw[ka ⟨hp,r⟩];unfold oS;dsimp only;generalize m.D=i,(Mf m t q).D=C at *;simp[c,e,l,a,j,o,g]
    ·rw[Xa r]at j;rw[ua λz=>r z.2];unfold oS;dsimp only;generalize m.D=i at *;simp[c,e,l,a,j]
   ·rw[Xa hp]at a;rw[ua λz=>hp z.1];unfold oS;simp[c,e,l,a]
 |drop w=>
  have a:=wV m w q;unfold pb at a;dsimp only;cases h:Ep w m.ts with
  |none=>
   rw[h]at a;unfold oS;simp[c,e,l,a]
  |some t=>
   rw[h]at a;dsimp only at a ⊢;by_cases hp:t.p=q
   ·rw[Eb hp]at a;have o:=Į hm hT hn h;rw[hp]at o;have g:=Hi$ Mf m t q;rw[ka hp];unfold oS;simp[c,e,a,o,g]
   ·rw[Xa hp]at a;rw[ua hp];unfold oS;simp[c,e,a]
omit hp h hg hl
set_option tactic.hygienic true in
theorem ĺ{K}{b:Wi}(a:b.Ok){s}(h:b.st q K m=BD s):s.Ok T/\s.n=m.n+1:=by
 unfold Wi.st at h;cases b with
 |Vl d=>
  dsimp only at h;split at h
  ·next c=>cases h;exact⟨WS hm hT hn hq ⋯ c.2,rfl⟩
  ·cases h
 |yp py d w y=>
  dsimp only at h;split at h
  ·next c=>cases h;exact⟨DW hm hT hn ⟨hq,c.1.1,⟨a.1.1,by have:=a.1.2;dsimp only;omega⟩,a.2⟩ c.1.2 c.2,rfl⟩
  ·cases h
 |vf w=>
  dsimp only at h;split at h
  ·next t e=>
   split at h
   ·cases h;exact⟨sO hm hT hn (mD e).1 hq,rfl⟩
   ·cases h
  ·cases h
 |drop w=>
  dsimp only at h;split at h
  ·next t e=>
   split at h
   ·cases h;exact⟨sO hm hT hn (mD e).1 hq,rfl⟩
   ·cases h
  ·cases h
end
def xa(p q:Int)(m s:Sn)(G:D)(L:B'):Ac:=if q=0 then Wf p 0 m s G L else wait p 1 m s (ff p 0 s.D) L
def lt(p q:Int)(s:Sn):D:=if q=0 then sg p 0 s else ii p s
noncomputable def Wi.wd(a:Int):Wi->List L4.D
 | .vf w=>[Ϗ [ϔ "word",Z a,Z w]]
 |_=>[]
def kF(a:Wi):(a.k == ("finish" : Str))=İ:=by
 have b:(("give" : Str) == "finish")=İ:=by decide
 have c:(("pay" : Str) == "finish")=İ:=by decide
 have e:(("pass" : Str) == "finish")=İ:=by decide
 cases a with
 |yp p d w y=>cases p<;>simp[Wi.k,c,e]
 |_=>simp[Wi.k,b]
section
variable{p q:Int}(hp:0<=p/\p<=2)(hq:q=0\/q=1){m s:Sn}{W:Int}(hm:m.Ok W)(hs:s.Ok W)(hn:s.n=m.n+1){G:D}{L:B'}(hg:cl G=G6)(hl:rf L=G6){σ:Ha}{n:Nat}
include hp hq hm hs hn hg hl
theorem WY(a:ji σ n$ Wb p q m G L):Nf [O n,s.D] σ=Y (Ϗ [O σ.length,lt p q s]) (σ++[ϓ (xa p q m s G L).c (xa p q m s G L).fs]):=by
 have b:=jq (p:=p) (m:=m) hp hq hg hl;have g:Gc [7,8,10,11,12,13] "side" (O n) σ=Y (Z q) σ:=Sq a b;have h:=s1 s;have i:=s2 s;rcases hq with rfl|rfl
 ·have f:=VX hp hm hs hn hg hl a;show _=Y (Ϗ [O σ.length,sg p 0 s]) (σ++[ϓ 12 (Wf p 0 m s G L).fs]);unfold Nf IJ;simp[g,h,i,f]
 ·have r:=lP hp hm hs hn hg hl a;show _=Y (Ϗ [O σ.length,ii p s]) (σ++[ϓ 13 (wait p 1 m s _ L).fs]);have e:=a.app [ϓ 13 (wait p 1 m s (ff p 0 s.D) L).fs];generalize σ++[ϓ 13 (wait p 1 m s (ff p 0 s.D) L).fs]=j at *;have o:Gc [10,11,12,13] "pot" (O n) σ=Y (Z p) σ:=Jo a b;have d:Gc [10,11,12,13] "pot" (O n) j=Y (Z p) j:=Jo e b;have k:Ug [O n,Z 0,s.D] σ=Y (ff p 0 s.D) σ:=xz a b 0$ Hi s;have f:Ϗ [ϔ "offer",Z p,ff p 0 s.D]=sg p 0 s:=rfl;unfold ii;unfold Nf IJ;simp[g,o,d,h,i,r,k,(Xp (l:=[(10,Ug),(11,Ug),(12,Ug),(13,Ug)]) (m:="agree_of") a rfl rfl rfl 3),(Xp (l:=[(11,Zp),(12,eu),(13,yu)]) (m:="taken") a rfl rfl rfl 2),f]
end
structure Ks where
 g:Int
 K:gV
 A:List Ac
 Q:Kv
noncomputable def Kp.s(k:Kp):Ks:=⟨k.g,k.K,k.as.map (·.2),k.Q⟩
noncomputable def jv(A:List Ac)(a:Ac):List Ac:=A.map λy=>if y.p=a.p then a else y
def Wk(K:gV)(A:List Ac):Int:=aC 6$ Sk 6 (ks K) (A.map λa=>(a.q,a.y))
theorem PK K a:W 6 K a=Wk K (a.map (·.2)):=by
 unfold W Wk;rw[Ta];rfl
def bH a x:(Gh a x).map (·.2)=jv (a.map (·.2)) x.2:=by
 unfold Gh jv;rw[Ta,Ta];refine Md λy b=>?_
 grind
def Nk(s:Ks)(a:Ac)(d:Int):Bool:=decide$ Wk s.K (jv s.A a) ≥ Wk s.K s.A - d
def qK{k:Kp}(a:k.e=6) x d:decide (W k.e k.K (Gh k.as x) ≥ k.W - d)=Nk k.s x.2 d:=by
 unfold Nk Kp.W Kp.s;rw[a,PK,PK,bH]
def Dh(b:Nat)(s:Ks)(a:Ha):Prop:=∃ k,Zk b k a/\k.e=6/\k.s=s
def Dh.app{b}{s}{a}(h:Dh b s a) j:Dh b s$ a++j:=by
 obtain⟨k,h,e⟩:=h;exact⟨k,h.app j,e⟩
def Ef(b:Nat)(c:Ha)(f:M D)(R:D)(s:Ks):Prop:=∃ a,f c=Y R a/\Dh b s a/\Fr b c a
def dy(p q:Int)(s:Sn)(a:Wi):Bool->D
 |true=>Ϗ [ϒ G6,ύ$ a.wd p++[lt p q s]]
 |false=>Ϗ [ϒ İ,ύ []]
def YA(z:Ks)(p q:Int)(a:Ac)(s:Sn)(b:Wi):Bool->Ks
 |true=>if q=0 then ⟨z.g+b.al,z.K,jv z.A a,z.Q⟩else ⟨z.g,z.K,z.A,Ni z.Q (.inl p)$ Sl b.al s⟩
 |false=>z
section
variable{T:Int->Int}{N b:Nat}{k:Kp}{σ:Ha}(h:Zk b k σ)(he:k.e=6){x:Ka}(hx:x∈k.as){p q:Int}(hp:0<=p/\p<=2)(hq:q=0\/q=1){m s:Sn}(hm:SO (T p) m)(hs:SO (T p) s)(hn:s.n=m.n+1){G:D}{L:B'}(hg:cl G=G6)(hl:IL L)
include h he hx hp hq hm hs hn hg hl
theorem M0(e:x.2=Wb p q m G L)(a0:k.Q.length<100) f:Ef b σ (sy [O b,s.D,f.D p]) (dy p q s f$ Nk k.s (xa p q m s G L) f.al)$ YA k.s p q (xa p q m s G L) s f$ Nk k.s (xa p q m s G L) f.al:=by
 have ep:x.2.p=p:=by rw[e];rfl
 have hi:ji σ x.1$ Wb p q m G L:=e ▸ (h.a x hx).1;have ϋ:AI T (s.n.toNat+L.length)$ xa p q m s G L:=by
  have n0:=hs.ok.st.n;unfold xa;split
  ·exact .Wf hp hm hs hn ⋯ hg hl ⋯
  ·exact .wait hp hm hs hn ⋯ (Ur$ Hi s) hl ⋯
 have pa:(xa p q m s G L).p=p:=by unfold xa;split<;>rfl
 have A:=WY hp hq hm.ok hs.ok hn hg hl.cl hi;have E:=h.app [ϓ (xa p q m s G L).c (xa p q m s G L).fs];have ia:ji (σ++[ϓ (xa p q m s G L).c (xa p q m s G L).fs]) σ.length$ xa p q m s G L:=by unfold ji;simp
 have j:=Pq h.v;have i:=Cw h hx;rw[ep]at i;have u:Gc [7,8,10,11,12,13] "side" (O x.1) σ=Y (Z q) σ:=Sq hi$ jq (p:=p) (m:=m) hp hq hg hl.cl;have l:=oX p f;have C:=dW p f;have t:=ŋ p f;have H:=Fr.app b σ [ϓ (xa p q m s G L).c (xa p q m s G L).fs];generalize σ++[ϓ (xa p q m s G L).c (xa p q m s G L).fs]=r at *;have F:=Pq E.v;have S:=SG E.v;have J:∃ y∈k.as,y.2.p=((σ.length,xa p q m s G L):Ka).2.p:=⟨x,hx,by rw[ep];exact pa.symm⟩
 have o:=PN E (x:=(σ.length,xa p q m s G L)) ia ϋ.ok ϋ.Wz J f.al;rw[qK he]at o;dsimp only at o;have z:=λfs=>vn E.v (m:="is_good") 3 Lv fs rfl;generalize hB:Nk k.s (xa p q m s G L) f.al=B at *;cases B with
 |true=>
  unfold dy YA;rcases hq with rfl|rfl
  ·obtain⟨sa,N⟩:=JN E (x:=(σ.length,xa p 0 m s G L)) ia ϋ.ok ϋ.Wz J;have sa:∀ I,zn I (O σ.length) (O$ b+2) (Z p) r=Y (ϙ I) (r.set (b+2)$ ώ$ AV$ Gh k.as (σ.length,xa p 0 m s G L)):=by rw[<-pa];exact sa
   have V:Fr b r$ r.set (b+2)$ ώ$ AV$ Gh k.as (σ.length,xa p 0 m s G L):=.set r ⋯ _;generalize r.set (b+2) (ώ$ AV$ Gh k.as (σ.length,xa p 0 m s G L))=υ at *;have K:∀ (X ό ϊ y3 y4 y6:Option D),wz [X,ό,ϊ,y3,y4,BD$ Z f.al,y6] [15] "gave" (Aa 5) (O b) υ=Y (ϙ [X,ό,ϊ,y3,y4,BD$ Z f.al,y6]) (υ.set b$ ϓ 15$ Hj b k.e$ k.g+f.al):=λX ό ϊ y3 y4 y6=>IW N ⋯;have h3:=MP N f.al;dsimp only at h3;refine⟨_,?_,⟨_,h3,he,?_⟩,(H.trans V).trans$ .set υ ⋯ _⟩
   ·unfold sy vH zG AH DF jI AF SE fJ qH kf;cases f with
    |vf w=>
     have W:∀ σ,Nb (Wi.D p$ .vf w) (Z 2) σ=Y (Z w) σ:=λσ=>by unfold Wi.D;simp
     unfold Wi.k at l;unfold Wi.wd;simp[j,i,F,u,l,C,W,t,A,o,z,sa,K]
    |Vl d=>
     unfold Wi.k at l;unfold Wi.wd;simp[j,i,F,u,l,C,t,A,o,z,sa,K]
    |drop w=>
     unfold Wi.k at l;unfold Wi.wd;simp[j,i,F,u,l,C,t,A,o,z,sa,K]
    |yp py d w y=>
     unfold Wi.wd;cases py<;>unfold Wi.k at l<;>simp[j,i,F,u,l,C,t,A,o,z,sa,K]
   ·rw[ka rfl];unfold Kp.s;dsimp only;rw[bH]
  ·have P:=s1 s;have R:=s2 s;have U:∀ I,zn I (Sl f.al s) (O$ b+5) (Z p) r=Y (ϙ I) (r.set (b+5)$ ώ$ Ni k.Q (.inl p)$ Sl f.al s):=λI=>Uq E.h5 ⋯;have M:Ϗ [Z f.al,Ϗ [Z s.a,Z s.b],Ϗ$ s.ts.map Ti.D]=Sl f.al s:=rfl;have a1:(Ni k.Q (.inl p)$ Sl f.al s).length<=k.Q.length+1:=by unfold Ni;split<;>simp
   have N:=UQ E (Q:=Ni k.Q (.inl p)$ Sl f.al s) ⋯;refine⟨_,?_,⟨_,N,he,by rw[ua ⋯];rfl⟩,H.trans$ .set r ⋯ _⟩;unfold sy vH zG AH DF jI AF SE fJ qH kf;cases f with
   |vf w=>
    have W:∀ σ,Nb (Wi.D p$ .vf w) (Z 2) σ=Y (Z w) σ:=λσ=>by unfold Wi.D;simp
    unfold Wi.k at l;unfold Wi.wd;simp[j,i,F,S,u,l,C,W,t,A,o,z,P,R,M,U]
   |Vl d=>
    unfold Wi.k at l;unfold Wi.wd;simp[j,i,F,S,u,l,C,t,A,o,z,P,R,M,U]
   |drop w=>
    unfold Wi.k at l;unfold Wi.wd;simp[j,i,F,S,u,l,C,t,A,o,z,P,R,M,U]
   |yp py d w y=>
    unfold Wi.wd;cases py<;>unfold Wi.k at l<;>simp[j,i,F,S,u,l,C,t,A,o,z,P,R,M,U]
 |false=>
  refine⟨r,?_,⟨k,E,he,rfl⟩,H⟩;unfold dy sy vH zG AH DF jI AF SE fJ qH kf;simp[j,i,u,C,t,A,o,z]
end
def JS{q}(j:q=0\/q=1){K}{m}{T}(c:SO T m)(g:T<=2000000000000)(i:m.n<=99){e:Wi}(f:e.Ok){s}(h:e.st q K m=BD s):SO T s/\s.n=m.n+1:=by
 have a:=ĺ j c.ok g i f h;refine⟨⟨a.1,?_⟩,a.2⟩;unfold Wi.st at h;cases e with
 |Vl d=>
  dsimp only at h;split at h
  ·cases h;exact c.w
  ·cases h
 |yp p d w y=>
  dsimp only at h;split at h
  ·cases h;intro t b;rcases jc.mp b with b|b
   ·exact c.w t b
   ·rw[jb.mp b];exact f.1.2
  ·cases h
 |vf w=>
  dsimp only at h;split at h
  ·split at h
   ·cases h;exact λt b=>c.w t (Gd.mp b).1
   ·cases h
  ·cases h
 |drop w=>
  dsimp only at h;split at h
  ·split at h
   ·cases h;exact λt b=>c.w t (Gd.mp b).1
   ·cases h
  ·cases h
def nw(z:Ks)(a:Ac)(b:Wi):D × Ks:=
 if a.c=11 then (match b.st a.q z.K a.m with
  |some s=>(dy a.p a.q s b$ Nk z (xa a.p a.q a.m s a.G a.L) b.al,YA z a.p a.q (xa a.p a.q a.m s a.G a.L) s b (Nk z (xa a.p a.q a.m s a.G a.L) b.al))
  |none=>(Ϗ [ϒ İ,ύ []],z))else (Ϗ [ϒ İ,ύ []],z)
section
variable{T:Int->Int}{N b:Nat}{k:Kp}{σ:Ha}(h:Zk b k σ)(he:k.e=6)
include h he
theorem D9{x}(C:x∈k.as)(hA:AI T N x.2)(X:N<=90)(ό:∀ p,T p<=2000000000000)(P:k.Q.length<100){c}(hw:c.Ok):Ef b σ (Er [O b,c.D x.2.p]) (nw k.s x.2 c).1 (nw k.s x.2 c).2:=by
 have E:=(h.a x C).1;have t:=rK h C;have H:=λJ=>vn h.v (m:="holds") 2 Px J rfl;have F:=Pq h.v;have kk:=HK h.v;have r:=Cw h C;obtain⟨n,a⟩:=x;dsimp only at *;have u:=oX a.p c;have w:=dW a.p c;have b1:=kF c;cases hA with
 |Wf B hm S ϊ X y A W=>
  have j:∀ x σ,Rr [x] σ=Y (ϔ "offered") σ:=λx σ=>by unfold Rr eh;simp
  have o:=Xp (l:=[(11,ar),(12,Rr),(13,Fu)]) (m:="word") E rfl rfl rfl 1;have i:=vD "offered" "calm" σ;rw[show (("offered" : Str) == "calm")=İ by decide]at i;refine⟨σ,?_,⟨k,h,he,rfl⟩,.refl b σ⟩;show _=Y (Ϗ [ϒ İ,ύ []]) σ;unfold Er lC vC TB iE RD FC VC kf;simp[t,H,F,r,u,w,b1,i,j,o]
 |wait B hm S ϊ X y A W=>
  have j:∀ x σ,Fu [x] σ=Y (ϔ "waiting") σ:=λx σ=>by unfold Fu eh;simp
  have o:=Xp (l:=[(11,ar),(12,Rr),(13,Fu)]) (m:="word") E rfl rfl rfl 1;have i:=vD "waiting" "calm" σ;rw[show (("waiting" : Str) == "calm")=İ by decide]at i;refine⟨σ,?_,⟨k,h,he,rfl⟩,.refl b σ⟩;show _=Y (Ϗ [ϒ İ,ύ []]) σ;unfold Er lC vC TB iE RD FC VC kf;simp[t,H,F,r,u,w,b1,i,j,o]
 |@Wb p q m G L B ϋ hm ϊ y A W=>
  have j:∀ x σ,ar [x] σ=Y (ϔ "calm") σ:=λx σ=>by unfold ar eh;simp
  have o:=Xp (l:=[(11,ar),(12,Rr),(13,Fu)]) (m:="word") E rfl rfl rfl 1;have i:qh (ϔ "calm") (ϔ "calm") σ=Y (ϒ İ) σ:=Du (by simp[pl]);have d:=M3 B ϋ h hm.ok (ό p) ⋯ y A.cl E hw;have U:((n,Wb p q m G L):Ka)∈k.as:=C;have ep:(Wb p q m G L).p=p:=rfl;rw[ep]at t r u w ⊢;cases f:c.st q k.K m with
  |none=>
   rw[f]at d;unfold oS at d;dsimp only at d;have hd:∀ g ρ σ,Rs ρ ⟨1⟩ [⟨sx [(1,G6),(2,İ)],Α,g⟩] σ=hit ⟨sx [(1,G6),(2,İ)],Α,g⟩ ρ ⟨1⟩ σ:=λg ρ σ=>NV rfl;have I:nw k.s (Wb p q m G L) c=(Ϗ [ϒ İ,ύ []],k.s):=by
    show (match c.st q k.K m with|some s=>_|none=>_)=_;rw[f]
   rw[I];refine⟨σ,?_,⟨k,h,he,rfl⟩,.refl b σ⟩;unfold Er lC vC TB iE RD FC VC kf;simp[t,H,F,kk,r,u,w,b1,i,j,o,d,hd]
  |some s=>
   rw[f]at d;unfold oS at d;dsimp only at d;obtain⟨S,M⟩:=JS ϋ hm (ό p) ⋯ hw f;have I:nw k.s (Wb p q m G L) c=(dy p q s c$ Nk k.s (xa p q m s G L) c.al,YA k.s p q (xa p q m s G L) s c (Nk k.s (xa p q m s G L) c.al)):=by
    show (match c.st q k.K m with|some s=>_|none=>_)=_;rw[f];rfl
   rw[I];obtain⟨V,e,z⟩:=M0 h he U B ϋ hm S M y A rfl P c;refine⟨V,?_,z⟩;dsimp only;generalize dy p q s c (Nk k.s (xa p q m s G L) c.al)=R at *;unfold Er lC vC TB iE RD FC VC kf;simp[t,H,(λJ=>vn h.v (m:="wish_for") 3 sy J rfl),F,kk,r,u,w,b1,i,j,o,d,e]
end
theorem IN{f:Ha->D->D->Option Bool}:∀ {xs e:B'},(∀ x∈xs,∀ y∈e,∃ b,∀ d,f d x y=BD b)->∃ b,∀ d,Gk (f d) xs e=BD b
 |[],[],_=>⟨_,λl=>rfl⟩
 |[],_::_,_=>⟨_,λl=>rfl⟩
 |_::_,[],_=>⟨_,λl=>rfl⟩
 |x::xs,y::e,h=>by
  obtain⟨b,j⟩:=h x na y na;obtain⟨c,k⟩:=IN λa g b i=>h a (ma _ g) b$ ma _ i;refine⟨b && c,λd=>?_⟩;unfold Gk
  simp_all
def p8:∀ n x y,pl n x=G6->pl n y=G6->∃ b,∀ e,xi e n x y=BD b:=by
 intro n;induction n with
 |zero=>intro x y d c;cases x<;>first|(simp[pl]at d;done)|(cases y<;>first|exact⟨_,λk=>rfl⟩|(simp[pl]at c;done))
 |succ n i=>
  intro x y d c;cases x with
  |Sa xs=>
   cases y with
   |Sa j=>
    simp[pl,gb]at d c;exact IN (f:=λe=>xi e n) λa g b h=>i a b (d a g)$ c b h
   |_=>first|exact⟨_,λk=>rfl⟩|(simp[pl]at c;done)
  |ra xs=>
   cases y with
   |ra j=>
    simp[pl,gb]at d c;exact IN (f:=λe=>xi e n) λa g b h=>i a b (d a g)$ c b h
   |_=>first|exact⟨_,λk=>rfl⟩|(simp[pl]at c;done)
  |_=>first|(simp[pl]at d;done)|(cases y<;>first|exact⟨_,λk=>rfl⟩|(simp[pl]at c;done))
def Jn(x y:D):Bool:=(xi [] 8 x y).getD İ
def dO{x y}(a:pl 8 x=G6)(c:pl 8 y=G6) d:xi d 8 x y=BD (Jn x y):=by
 obtain⟨b,h⟩:=p8 8 x y a c;unfold Jn
 simp_all
def Ey(s:Sn):D:=Ϗ [Ϗ [Z s.a,Z s.b],Ϗ$ s.ts.map Ti.D]
def Pr(Q:Kv)(p:Int)(s:Sn):Option Int:=match qi Q (.inl p)with
 |some (Ϗ [Z d,A,B])=>if Jn (Ey s) (Ϗ [A,B])then BD d else Α
 |_=>Α
def Lk(z:Ks)(p:Int)(a:Ac)(R:B')(o:Option Int):D × Ks:=
 if Nk z a (o.getD 0)then (ύ R,⟨z.g+o.getD 0,z.K,jv z.A a,if o.isSome then Et z.Q (.inl p)else z.Q⟩)else (ύ [],z)
section
variable{T:Int->Int}{N b:Nat}{k:Kp}{σ:Ha}(h:Zk b k σ)
include h
theorem ĉ(A:AQ k.Q) p s:(Pr k.Q p s=Α/\wt [O b,sg p 0 s] σ=Y (ϒ İ) σ)\/∃ d c,Pr k.Q p s=BD d/\qi k.Q (.inl p)=BD (Sl d c)/\wt [O b,sg p 0 s] σ=Y (ϒ G6) σ:=by
 have l:=SG h.v;have m:qh _ (ϔ "offer") σ=Y _ σ:=Du (by simp[pl]);have i:∀ σ,Nb (sg p 0 s) (Z 0) σ=Y (ϔ "offer") σ:=λσ=>by unfold sg;simp
 have j:∀ σ,Nb (sg p 0 s) (Z 1) σ=Y (Z p) σ:=λσ=>by unfold sg;simp
 have q:∀ σ,Nb (sg p 0 s) (Z 2) σ=Y (ff p 0 s.D) σ:=λσ=>by unfold sg;simp
 have r:∀ σ,Nb (ff p 0 s.D) (Z 3) σ=Y s.D σ:=λσ=>by unfold ff;simp
 cases f:qi k.Q _ with
 |none=>
  refine ϑ ⟨by unfold Pr;rw[f],?_⟩;have n:zp (Z p) (O$ b+5) σ=Y (ϒ G6) σ:=by
   unfold zp;simp only[Ai,tM h,f];rfl
  unfold wt eh;simp[i,j,l,m,n]
 |some v=>
  have n:zp (Z p) (O$ b+5) σ=Y (ϒ İ) σ:=by
   unfold zp;simp only[Ai,tM h,f];rfl
  obtain⟨d,c,rfl⟩:∃ d c,v=Sl d c:=by
   obtain⟨z,B,rfl⟩:=Ga.mp f;exact A z$ Xe B
  have gt:=Qv h.h5 f;have u:Ss [Z s.n,Ϗ [Z s.a,Z s.b],Ϗ _] (BD 1) Α=[Ϗ [Z s.a,Z s.b],Ϗ$ s.ts.map Ti.D]:=rfl;have w:Ss [Z d,Ϗ [Z c.a,Z c.b],Ϗ _] (BD 1) Α=[Ϗ [Z c.a,Z c.b],Ϗ$ c.ts.map Ti.D]:=rfl;have l1:∀ σ,Au s.D _ Α σ=Y (Ϗ [Ϗ [Z s.a,Z s.b],Ϗ$ s.ts.map Ti.D]) σ:=λσ=>by
   unfold Sn.D Hl;rw[iA,u]
  have l2:∀ σ,Au (Sl d c) (BD 1) Α σ=Y (Ϗ [Ϗ [Z c.a,Z c.b],Ϗ$ c.ts.map Ti.D]) σ:=λσ=>by
   unfold Sl;rw[iA,w]
  have t:∀ s:Sn,pl 8 (Ϗ [Ϗ [Z s.a,Z s.b],Ϗ$ s.ts.map Ti.D])=G6:=λs=>bu λx g=>by
   have g:x=Ϗ [Z s.a,Z s.b]\/x=Ϗ (s.ts.map Ti.D):=by simpa using g
   rcases g with rfl|rfl
   ·simp[pl]
   ·exact zK 5 s.ts
  have o:wh (Ϗ [Ϗ [Z s.a,Z s.b],Ϗ$ s.ts.map Ti.D]) (Ϗ [Ϗ [Z c.a,Z c.b],Ϗ$ c.ts.map Ti.D]) σ=Y (ϒ$ Jn (Ey s)$ Ey c) σ:=vw$ dO (t s) (t c) σ;have y:Pr k.Q p s=if Jn (Ey s) (Ey c)then BD d else Α:=by unfold Pr;rw[f];rfl
  rw[y];generalize Jn (Ey s) (Ey c)=e at *;cases e
  ·refine ϑ ⟨rfl,?_⟩;unfold wt eh;simp[i,j,q,r,l,n,m,gt,l1,l2,o]
  ·refine ϖ ⟨d,c,rfl,rfl,?_⟩;unfold wt eh;simp[i,j,q,r,l,n,m,gt,l1,l2,o]
variable(hQ:AQ k.Q)(he:k.e=6)
include hQ he
theorem QJ{x}(ϋ:x∈k.as){a'}(hp:a'.p=x.2.p)(L:AI T N a')(hc:(a'.c,x.2.c)∈[(13,11),(11,13),(11,12)]){X R}{rb}(P:∀ σ,Nb X (Z 1) σ=Y (Z x.2.p) σ){o}(ask:(o=Α/\∃ kd,(∀ σ,Nb X (Z 0) σ=Y (ϔ kd) σ)/\(kd == ("offer" : Str))=İ)\/∃ s,X=sg x.2.p 0 s/\o=Pr k.s.Q x.2.p s){fn}(mk:∀ l,Qi [(11,Zp),(12,eu),(13,yu)] 2 "taken" l (O x.1) σ=(l σ).bind (Gi 2 fn$ O x.1))(V:fn [O x.1,X] σ=Y (Ϗ [O σ.length,R]) (σ++[ϓ a'.c a'.fs]))(rn:∀ σ,Ko R Ϛ σ=Y (ϒ rb) σ):Ef b σ (Mr [O b,X]) (Lk k.s x.2.p a' (if rb then []else [R]) o).1 (Lk k.s x.2.p a' (if rb then []else [R]) o).2:=by
 have t:=Pq h.v;have r:=Cw h ϋ;have j:=h.app [ϓ a'.c a'.fs];have ϊ:ji (σ++[ϓ a'.c a'.fs]) σ.length a':=by unfold ji;simp
 have n:=Fr.app b σ [ϓ a'.c a'.fs];generalize a2:σ++[ϓ a'.c a'.fs]=f at *;have I:=Pq j.v;have kq:=SG j.v;have F:=Cw j ϋ;have K:∀ (C y5:Option D) (ό:Ev->M Fl),Ww [(13,11),(11,13),(11,12)] [11,12,13] (qb Nb (Aa 3)$ eC$ Z 0) (qb Lh (Re (Gc [15] "accounts")$ Aa 0)$ Aa 2) (gg$ ci Bb) ό [BD$ O b,BD X,BD$ Z x.2.p,BD$ Ϗ [O σ.length,R],C,y5] f=ό [BD$ O b,BD X,BD$ Z x.2.p,BD$ Ϗ [O σ.length,R],C,y5] f:=λC y5 ό=>by
  refine N6 (x:=O σ.length) (y:=O x.1) ?_ ?_ (Kk ϊ) (Kk (j.a x ϋ).1) hc
  ·simp
  ·simp[I,F]
 have H:∃ y∈k.as,y.2.p=((σ.length,a'):Ka).2.p:=⟨x,ϋ,hp.symm⟩
 have w:=λd=>PN j (x:=(σ.length,a')) ϊ L.ok L.Wz H d;simp only[qK he]at w;have S:=λl=>vn j.v (m:="is_good") 3 Lv l rfl;have U:=λl=>vn j.v (m:="is_as_asked") 2 wt l rfl;obtain⟨sa,G⟩:=JN j (x:=(σ.length,a')) ϊ L.ok L.Wz H;rw[hp]at sa;have up:=bH k.as (σ.length,a');have no:wt [O b,X] f=Y (ϒ İ) f->Ef b σ (Mr [O b,X]) (Lk k.s x.2.p a' (if rb then []else [R]) Α).1 (Lk k.s x.2.p a' (if rb then []else [R]) Α).2:=λA=>by
  have w:=w 0
  (try dsimp only at w)
  unfold Lk;show Ef b σ _ (if Nk k.s a' 0 then _ else _:D × Ks).1 (if Nk k.s a' 0 then _ else _:D × Ks).2;generalize Nk k.s a' 0=B at *;cases B with
  |true=>
   refine⟨f.set (b+2)$ ώ$ AV$ Gh k.as (σ.length,a'),?_,⟨_,G,he,?_⟩,n.trans$ .set f ⋯ _⟩
   ·unfold Mr AB IA Yz jC WB KC zD IC jD kf;cases rb<;>simp[t,r,I,F,P,mk,V,K,w,S,U,A,sa,rn]
   ·rw[ka rfl];unfold Kp.s;dsimp only;rw[up];simp
  |false=>
   refine⟨f,?_,⟨k,j,he,rfl⟩,n⟩;unfold Mr AB IA Yz jC WB KC zD IC jD kf;simp[t,r,I,F,P,mk,V,K,w,S,U,A]
 rcases ask with⟨rfl,kd,i0,hk⟩|⟨s,rfl,rfl⟩
 ·exact no$ δ j i0 hk
 ·rcases ĉ j hQ x.2.p s with⟨e,A⟩|⟨i,s',e,hf,A⟩
  ·rw[show Pr k.s.Q x.2.p s=Α from e];exact no A
  ·rw[show Pr k.s.Q x.2.p s=BD i from e];have z:=w i;have gq:Lh (O$ b+5) (Z x.2.p) f=Y (Sl i s') f:=Qv j.h5 hf;have a0:∀ σ,Nb (Sl i s') (Z 0) σ=Y (Z i) σ:=λσ=>by unfold Sl;simp
   (try dsimp only at z)
   unfold Lk;show Ef b σ _ (if Nk k.s a' i then _ else _:D × Ks).1 (if Nk k.s a' i then _ else _:D × Ks).2;generalize Nk k.s a' i=B at *;cases B with
   |true=>
    have a1:=SG G.v;have mp:∀ l,mz Cy l (O$ b+5) (f.set (b+2)$ ώ$ AV$ Gh k.as (σ.length,a'))=(l$ f.set (b+2)$ ώ$ AV$ Gh k.as (σ.length,a')).bind (Cy$ O$ b+5):=λl=>by
     unfold mz;rw[(tM G)];rfl
    have h5:=G.h5;have W:Fr b f$ f.set (b+2)$ ώ$ AV$ Gh k.as (σ.length,a'):=.set f ⋯ _;generalize f.set (b+2) (ώ$ AV$ Gh k.as (σ.length,a'))=u at *;have po:Cy (O$ b+5) [Z x.2.p] u=Y (Sl i s') (u.set (b+5)$ ώ$ Et k.Q$ .inl x.2.p):=by
     unfold Cy;simp only[Ai,h5];simp[hf]
    have q2:=(nH hQ λkv=>!decide (kv.1=.inl x.2.p)).2;have q2:(Et k.Q$ .inl x.2.p).length<=k.Q.length:=(nH hQ _).2;have h3:=UQ G (Q:=(Et k.Q$ .inl x.2.p)) (by have:=h.q;omega);have gv:∀ (y0 y1 y2 y3 C:Option D),wz [y0,y1,y2,y3,C,BD$ Z i] [15] "gave" (Aa 5) (O b) (u.set (b+5)$ ώ$ Et k.Q$ .inl x.2.p)=Y (ϙ [y0,y1,y2,y3,C,BD$ Z i]) ((u.set (b+5)$ ώ$ Et k.Q$ .inl x.2.p).set b$ ϓ 15$ Hj b k.e$ k.g+i):=λy0 y1 y2 y3 C=>IW h3 ⋯;have h4:=MP h3 i;have E:Fr b u$ u.set (b+5)$ ώ$ Et k.Q$ .inl x.2.p:=.set u ⋯ _;generalize u.set (b+5) (ώ$ Et k.Q$ .inl x.2.p)=J at *;refine⟨J.set b$ ϓ 15$ Hj b k.e$ k.g+i,?_,⟨_,h4,he,?_⟩,n.trans$ (W.trans E).trans$ .set J ⋯ _⟩
    rotate_left
    ·rw[ka rfl];unfold Kp.s;dsimp only;rw[up];rfl
    unfold Mr AB IA Yz jC WB KC zD IC jD kf;cases rb<;>simp[t,r,I,kq,a1,F,P,mk,V,K,z,S,U,A,gq,a0,sa,mp,po,gv,rn]
   |false=>
    refine⟨f,?_,⟨k,j,he,rfl⟩,n⟩;unfold Mr AB IA Yz jC WB KC zD IC jD kf;simp[t,r,I,kq,F,P,mk,V,K,z,S,U,A,gq,a0]
end
def o0{W}{s m:Sn}(h:s.Ok W)(d:m.Ok W) c:zI [s.D,m.D] c=Y (ϒ$ s.n == m.n+1) c:=by
 have e:=XJ h.st c;have f:=ZG m.n m.a m.b (by have:=d.st.l;omega) c;rw[h.w]at e;rw[d.w]at f;have g:=s0 s c;have i:=s0 m c;unfold zI Dc;unfold Sn.D at *
 simp_all
section
variable{σ:Ha}{n:Nat}{p:Int}(hp:0<=p/\p<=2){m s:Sn}{W:Int}(hm:m.Ok W)(hs:s.Ok W){G:D}{L:B'}(hg:cl G=G6)(hl:rf L=G6)(hLk:L.length<=100)
include hp hg hl
include hm hs in
theorem E1(h:ji a n$ Wb p 1 m G L)(i:(s.n == m.n+1)=İ):Zp [O n,sg p 0 s] a=Y (Ϗ [O n,Ϛ]) a:=by
 have o:=jq (m:=m) hp (ϖ rfl) hg hl;have q:=wH hp a (ϑ rfl) hs.st;have e:Gc [7,8,10,11,12,13] "side" (O n) a=Y (Z 1) a:=Sq h o;have f:Gc [10,11,12,13] "pot" (O n) a=Y (Z p) a:=Jo h o;have g:Gc [10,11,12,13] "mine" (O n) a=Y m.D a:=Xr h o;have j:∀ a,Nb (sg p 0 s) (Z 0) a=Y (ϔ "offer") a:=λa=>by unfold sg;simp
 have k:∀ a,Nb (sg p 0 s) (Z 2) a=Y (ff p 0 s.D) a:=λa=>by unfold sg;simp
 have l:∀ a,Nb (ff p 0 s.D) (Z 3) a=Y s.D a:=λa=>by unfold ff;simp
 have d:Ug [O n,Z 0,s.D] a=Y (ff p 0 s.D) a:=xz h o 0$ Hi s;have u:qh (ϔ "offer") (ϔ "offer") a=Y (ϒ İ) a:=Du (by simp[pl]);have r:∀ b,Qi [(11,Ug)] 3 "agree_of" b (O n) a=(b a).bind (Gi 3 Ug$ O n):=λb=>Ym (Kk h) rfl rfl;have t:qh (sg p 0 s) (Ϗ [ϔ "offer",Z p,ff p 0 s.D]) a=Y (ϒ İ) a:=Du$ SM p 0 s;have c:=o0 hs hm a;rw[i]at c;unfold Zp kf;simp[q,e,f,g,j,k,l,d,r,t,u,c]
include hLk in
theorem n6(h:ji σ n$ Wf p 0 m s G L){X}(y:Wp [X] σ=Y (ϒ G6) σ)(B:qh X (Ϗ [ϔ "accept",Z p,ff p 1 s.D,Dl p 1 m.n]) σ=Y (ϒ İ) σ):eu [O n,X] σ=Y (Ϗ [O σ.length,Fh p 0 m.n]) (σ++[ϓ 11 (Wb p 0 s (ff p 1 s.D)$ L++[Z m.n]).fs]):=by
 have o:=UE (m:=m) (o:=s) hp (ϑ rfl) hg hl;have f:rf (L++[Z m.n])=G6:=by rw[WK,hl];rfl
 have w:=jq (p:=p) (q:=0) (m:=s) hp (ϑ rfl) (Ur (p:=p) (s:=1)$ Hi s) f;have c:=h.app [ϓ 11 (Wb p 0 s (ff p 1 s.D)$ L++[Z m.n]).fs];have mk:ck 11 7 Wo [Z p,Z 0,s.D,ff p 1 s.D,ύ [s.D],ύ$ L++[Z m.n]] σ=Y (O σ.length) (σ++[ϓ 11 (Wb p 0 s (ff p 1 s.D)$ L++[Z m.n]).fs]):=nC w σ;generalize σ++[ϓ 11 (Wb p 0 s (ff p 1 s.D)$ L++[Z m.n]).fs]=b at *;have l:Gc [7,8,10,11,12,13] "side" (O n) σ=Y (Z 0) σ:=Sq h o;have r:Gc [10,11,12,13] "pot" (O n) σ=Y (Z p) σ:=Jo h o;have d:Gc [10,11,12,13] "pot" (O n) b=Y (Z p) b:=Jo c o;have t:Gc [10,11,12,13] "mine" (O n) σ=Y m.D σ:=Xr h o;have e:Gc [10,11,12,13] "mine" (O n) b=Y m.D b:=Xr c o;have u:Gc [10,11,12,13] "strikes" (O n) σ=Y (ύ L) σ:=PH h o;have v:Gc [10,11,12,13] "may" (O n) σ=Y (ύ [m.D,s.D]) σ:=uz h o;have k:Ug [O n,Z 1,s.D] σ=Y (ff p 1 s.D) σ:=xz h o 1$ Hi s;have C:Ul [O n,Z 1,m.D] σ=Y (Dl p 1 m.n) σ:=LA h o 1 m;have i:Ul [O n,Z 0,m.D] b=Y (Dl p 0 m.n) b:=LA c o 0 m;have x:=s0 m;have A:∀ a,Qi [(12,Ug)] 3 "agree_of" a (O n) σ=(a σ).bind (Gi 3 Ug$ O n):=λa=>Ym (Kk h) rfl rfl;have z:∀ a,Qi [(12,Ul)] 3 "strike_of" a (O n) σ=(a σ).bind (Gi 3 Ul$ O n):=λa=>Ym (Kk h) rfl rfl;have g:∀ a,Qi [(12,Ul)] 3 "strike_of" a (O n) b=(a b).bind (Gi 3 Ul$ O n):=λa=>Ym (Kk c) rfl rfl;have j:Wj (ύ L) (ύ [Z m.n]) σ=Y (ύ$ L++[Z m.n]) σ:=HI (by unfold lg;simp;omega);unfold Fh;unfold eu kf;simp[y,l,r,d,t,e,u,v,k,C,i,x,A,z,g,B,j,mk]
include hLk in
theorem Ą(h:ji σ n$ wait p 1 m s G L){X}(r:Wp [X] σ=Y (ϒ G6) σ)(u:qh X (Ϗ [ϔ "struck",Z p,Dl p 0 m.n]) σ=Y (ϒ İ) σ):yu [O n,X] σ=Y (Ϗ [O σ.length,Ϛ]) (σ++[ϓ 11 (Wb p 1 s G$ L++[Z m.n]).fs]):=by
 have o:=uG (m:=m) (o:=s) hp (ϖ rfl) hg hl;have b:rf (L++[Z m.n])=G6:=by rw[WK,hl];rfl
 have k:=jq (q:=1) (m:=s) hp (ϖ rfl) hg b;have mk:ck 11 7 Wo [Z p,Z 1,s.D,G,ύ [s.D],ύ$ L++[Z m.n]] σ=Y (O σ.length) (σ++[ϓ 11 (Wb p 1 s G$ L++[Z m.n]).fs]):=nC k σ;have d:Gc [7,8,10,11,12,13] "side" (O n) σ=Y (Z 1) σ:=Sq h o;have e:Gc [10,11,12,13] "pot" (O n) σ=Y (Z p) σ:=Jo h o;have f:Gc [10,11,12,13] "mine" (O n) σ=Y s.D σ:=Xr h o;have g:Gc [10,11,12,13] "strikes" (O n) σ=Y (ύ L) σ:=PH h o;have i:Gc [10,11,12,13] "may" (O n) σ=Y (ύ [m.D,s.D]) σ:=uz h o;have j:Gc [10,11,12,13] "grant" (O n) σ=Y G σ:=RV h o;have l:=s0 m;have v:Ul [O n,Z 0,m.D] σ=Y (Dl p 0 m.n) σ:=LA h o 0 m;have t:∀ a,Qi [(13,Ul)] 3 "strike_of" a (O n) σ=(a σ).bind (Gi 3 Ul$ O n):=λa=>Ym (Kk h) rfl rfl;have c:Wj (ύ L) (ύ [Z m.n]) σ=Y (ύ$ L++[Z m.n]) σ:=HI (by unfold lg;simp;omega);unfold yu kf;simp[r,d,e,f,g,i,j,l,v,t,u,c,mk]
end
section
variable{T:Int->Int}{N b:Nat}{k:Kp}{σ:Ha}(h:Zk b k σ)(he:k.e=6){x:Ka}(hx:x∈k.as)
include h he
theorem WZ{p w}(f:0<=p/\p<=2)(i:0<=w/\w<=59)(j:(ut k.K w).length<=60):Ef b σ (Ei [O b,Zu p w]) (ύ []) ⟨k.g,ut k.K w,k.as.map (·.2),k.Q⟩:=by
 have z:=h.z;have s:∀ c,zn c _ (O _) (Z w) σ=Y _ (σ.set (b+1)$ ώ$ Kj$ ut k.K w):=λc=>by
  rw[Uq h.v.h1 (by unfold Kj;simp;lia),HV]
 have r:Fw [O b,ύ [Z w]] σ=Y Ϛ (σ.set (b+1)$ ώ$ Kj$ ut k.K w):=by
  unfold Fw UK kf;simp[(HK h.v),s]
 have l:=zlp f σ i;refine⟨_,?_,⟨{ k with K:=ut k.K w },⟨⟨Mh ⋯ h.v.h0,Zb$ (da.mp h.v.h1).1,Mh ⋯ h.v.h3,Mh ⋯ h.v.h4⟩,Mh ⋯ h.h2,Mh ⋯ h.h5,h.a.set h.v.h1 _,h.d,h.n,j,h.o,h.q⟩,he,rfl⟩,.set σ ⋯ _⟩;unfold Ei kf;unfold Zu at *;simp[l,(λe=>vn h.v (m:="learn") 2 Fw e rfl),r]
theorem bF{X}(e:Ei [O b,X] σ=Y (ύ []) σ):Ef b σ (Ei [O b,X]) (ύ []) k.s:=⟨σ,e,⟨k,h,he,rfl⟩,.refl b σ⟩
include hx
theorem yO{X}{kd}{R}{z}(c:Wp [X] σ=Y (ϒ G6) σ)(d:∀ σ,Nb X (Z 0) σ=Y (ϔ kd) σ)(f:∀ σ,Nb X (Z 1) σ=Y (Z x.2.p) σ)(i:(kd == ("word" : Str))=İ)(g:(kd == ("ask" : Str))=İ)(j:Ef b σ (Mr [O b,X]) R z):Ef b σ (Ei [O b,X]) R z:=by
 obtain⟨a,e,r⟩:=j;exact⟨a,ZH h hx c d f i g e,r⟩
theorem L3{p}{m s}{G}{L}(e:x.2=Wb p 0 m G L)(r:AI T N$ Wf p 0 m s G L):Ef b σ (Ei [O b,ii p s]) (Lk k.s p (Wf p 0 m s G L) [sg p 0 s] Α).1 (Lk k.s p (Wf p 0 m s G L) [sg p 0 s] Α).2:=by
 have o:x.2.p=p:=by rw[e];rfl
 have c:=r;cases r with
 |Wf t hm u P R M ϋ Q=>
 have w:∀ σ,Nb (ii x.2.p s) (Z 1) σ=Y (Z x.2.p) σ:=λσ=>by unfold ii;simp
 have z:∀ σ,Nb (ii x.2.p s) (Z 2) σ=Y (Ϗ [Z s.a,Z s.b]) σ:=λσ=>by unfold ii;simp
 have A:∀ σ,Nb (ii x.2.p s) (Z 3) σ=Y (Ϗ$ s.ts.map Ti.D) σ:=λσ=>by unfold ii;simp
 have l:=Pq h.v;have g:=Cw h hx;have F:=VX t hm.ok u.ok P M ϋ.cl (show ji σ x.1 _ from e ▸ (h.a x hx).1);have i:=h.app [ϓ 12 (Wf p 0 m s G L).fs];have C:ji (σ++[ϓ 12 (Wf p 0 m s G L).fs]) σ.length$ Wf p 0 m s G L:=by unfold ji;simp[Wf]
 have f:=Fr.app b σ [ϓ 12 (Wf p 0 m s G L).fs];generalize σ++[ϓ 12 (Wf p 0 m s G L).fs]=n at *;have j:∃ y∈k.as,y.2.p=((σ.length,Wf p 0 m s G L):Ka).2.p:=⟨x,hx,o⟩
 have q:=PN i (x:=(σ.length,Wf p 0 m s G L)) C c.ok c.Wz j 0;rw[qK he]at q;have E:=λJ=>vn i.v (m:="is_good") 3 Lv J rfl;obtain⟨sa,K⟩:=JN i (x:=(σ.length,Wf p 0 m s G L)) C c.ok c.Wz j;have sa:∀ I,zn I (O σ.length) (O$ b+2) (Z x.2.p) n=Y (ϙ I) (n.set (b+2)$ ώ$ AV$ Gh k.as (σ.length,Wf p 0 m s G L)):=by rw[o];exact sa
 have H:∀ {d σ'},Ew [O b,ii x.2.p s] σ=Y d σ'->Ei [O b,ii p s] σ=Y d σ':=λst=>by
  have:=bW h hx u.ok.st (by rw[o];exact t) st;rw[o]at this;exact this
 unfold Lk;show Ef b σ _ (if Nk k.s (Wf p 0 m s G L) 0 then _ else _:D × Ks).1 (if Nk k.s (Wf p 0 m s G L) 0 then _ else _:D × Ks).2;generalize Nk k.s (Wf p 0 m s G L) 0=B at *;cases B with
 |true=>
  refine⟨n.set (b+2)$ ώ$ AV$ Gh k.as (σ.length,Wf p 0 m s G L),H ?_,⟨_,K,he,?_⟩,f.trans$ .set n ⋯ _⟩
  ·unfold Ew oF pG BG dH eG kf;simp[w,z,A,l,g,(Pq i.v),F,q,E,sa]
  ·rw[ka rfl];unfold Kp.s;dsimp only;rw[(bH k.as (σ.length,Wf p 0 m s G L))];simp
 |false=>
  refine⟨n,H ?_,⟨k,i,he,rfl⟩,f⟩;unfold Ew oF pG BG dH eG kf;simp[w,z,A,l,g,F,q,E]
theorem v5{p}{m o s}{G}{L}(e:x.2=Wf p 0 m o G L)(c:AI T N x.2)(d:s.Ok$ T p):Ef b σ (Ei [O b,ii p s]) (ύ []) k.s:=bF h he (by
 obtain⟨n,a⟩:=x;subst e;exact bW h hx d.st c.ok.p$ zZ h hx$ C9 (h.a _ hx).1 c.ok)
variable(hQ:AQ k.Q)
include hQ
theorem O7{p}{m s}{G}{L}(e:x.2=Wf p 0 m s G L)(t:AI T N x.2)(A:N<=90){c d}(y:d.Ok$ T p)(v:c.Ok$ T p):Ef b σ (Ei [O b,Nh p c d]) (if Jn (Nh p c d) (Nh p m s)then Lk k.s p (Wb p 0 s (ff p 1 s.D)$ L++[Z m.n]) [Fh p 0 m.n] Α else (ύ [],k.s)).1 (if Jn (Nh p c d) (Nh p m s)then Lk k.s p (Wb p 0 s (ff p 1 s.D)$ L++[Z m.n]) [Fh p 0 m.n] Α else (ύ [],k.s)).2:=by
 obtain⟨n,a⟩:=x;dsimp only at e;subst e;have g:=(h.a _ hx).1;cases t with
 |Wf f w j C u q i z=>
 have l:=FR f σ y.st v.st.n;have r:qh (Nh p c d) (Nh p m s) σ=Y (ϒ$ !Jn (Nh p c d) (Nh p m s)) σ:=pw$ dO (YX ..) (YX ..) σ;generalize Jn (Nh p c d) (Nh p m s)=B at *;refine yO h he hx l (gN _ _ _) (ID _ _ _) ⋯ ⋯ ?_;cases B with
 |true=>exact QJ (N:=N+1) (T:=T) (o:=Α) h hQ he hx (X:=Nh p c d) (R:=Fh p 0 m.n) (rb:=İ) (a':=Wb p 0 s (ff p 1 s.D)$ L++[Z m.n]) rfl (.Wb f (ϑ rfl) j ⋯ (Ur$ Hi s) (i.add _)$ by simp;omega) ā (ID _ _ _) (ϑ ⟨rfl, "accept",gN _ _ _,by decide⟩) (Xp g rfl rfl rfl 2) (n6 f q i.cl ⋯ g l r) (λσ=>rfl)
 |false=>exact⟨σ,QA h hx c6 (ID _ _ _ σ) (Xp g rfl rfl rfl 2)$ È f q i.cl g l r,⟨k,h,he,rfl⟩,.refl b σ⟩
theorem ytw{p}{m s}{G}{L}(e:x.2=wait p 1 m s G L)(u:AI T N x.2)(z:N<=90){c}(j:0<=c/\c<=1000000):Ef b σ (Ei [O b,Fh p 0 c]) (if Jn (Fh p 0 c) (Fh p 0 m.n)then Lk k.s p (Wb p 1 s G$ L++[Z m.n]) [] Α else (ύ [],k.s)).1 (if Jn (Fh p 0 c) (Fh p 0 m.n)then Lk k.s p (Wb p 1 s G$ L++[Z m.n]) [] Α else (ύ [],k.s)).2:=by
 obtain⟨n,a⟩:=x;dsimp only at e;subst e;have f:=(h.a _ hx).1;cases u with
 |wait d w l A v g i y=>
 have r:=MX d σ (q:=0) (ϑ rfl) j;have t:qh (Fh p 0 c) (Fh p 0 m.n) σ=Y (ϒ$ !Jn (Fh p 0 c) (Fh p 0 m.n)) σ:=pw$ dO (LK ..) (LK ..) σ;generalize Jn (Fh p 0 c) (Fh p 0 m.n)=B at *;refine yO h he hx r (tH _ _ _) (CC _ _ _) ⋯ ⋯ ?_;cases B with
 |true=>exact QJ (N:=N+1) (T:=T) (o:=Α) h hQ he hx (X:=Fh p 0 c) (R:=Ϛ) (rb:=G6) (a':=Wb p 1 s G$ L++[Z m.n]) rfl (.Wb d (ϖ rfl) l ⋯ g (i.add _)$ by simp;omega) Η (CC _ _ _) (ϑ ⟨rfl, "struck",tH _ _ _,by decide⟩) (Xp f rfl rfl rfl 2) (Ą d g i.cl ⋯ f r t) (λσ=>rfl)
 |false=>exact⟨σ,QA h hx c7 (CC _ _ _ σ) (Xp f rfl rfl rfl 2)$ yQ d g i.cl f r t,⟨k,h,he,rfl⟩,.refl b σ⟩
theorem O6{p}{m}{G}{L}(e:x.2=Wb p 1 m G L)(o:AI T N x.2){s}(f:SO (T p) s):Ef b σ (Ei [O b,sg p 0 s]) (if s.n == m.n+1 then Lk k.s p (wait p 1 m s (ff p 0 s.D) L) [Nh p m s] (Pr k.s.Q p s)else (ύ [],k.s)).1 (if s.n == m.n+1 then Lk k.s p (wait p 1 m s (ff p 0 s.D) L) [Nh p m s] (Pr k.s.Q p s)else (ύ [],k.s)).2:=by
 obtain⟨n,a⟩:=x;dsimp only at e;subst e;have g:=(h.a _ hx).1;cases o with
 |Wb d _ hm t l i r=>
 have q:=wH d σ (ϑ rfl) f.ok.st;refine yO h he hx q (ZK _ _ _) (oA _ _ _) ⋯ ⋯ ?_;cases j:s.n == m.n+1 with
 |true=>
  have c:s.n=m.n+1:=by simpa using j
  exact QJ (N:=N+1) (T:=T) h hQ he hx (a':=wait p 1 m s (ff p 0 s.D) L) rfl (.wait d hm f c (by rw[c];omega) (Ur$ Hi s) i$ by omega) IZ (oA _ _ _) (ϖ ⟨s,rfl,rfl⟩) (Xp g rfl rfl rfl 2) (lP d hm.ok f.ok c l i.cl g) (λσ=>rfl)
 |false=>exact⟨σ,QA h hx c5 (oA _ _ _ σ) (Xp g rfl rfl rfl 2)$ E1 d hm.ok f.ok l i.cl g j,⟨k,h,he,rfl⟩,.refl b σ⟩
end
section
variable{T:Int->Int}{N b:Nat}{k:Kp}{σ:Ha}(h:Zk b k σ)(he:k.e=6){x:Ka}(hx:x∈k.as)
include h he hx
theorem ymt{p}{m}{G}{L}(e:x.2=Wb p 0 m G L)(i:AI T N x.2){f g}(r:g.Ok$ T p)(o:f.Ok$ T p):Ef b σ (Ei [O b,Nh p f g]) (ύ []) k.s:=bF h he (by
 obtain⟨n,a⟩:=x;subst e;have d:=(h.a _ hx).1;cases i with
 |Wb c _ q u j l t=>exact ZH h hx (FR c σ r.st o.st.n) (gN _ _ _) (ID _ _ _) ⋯ ⋯$ QA h hx c5 (ID _ _ _ σ) (Xp d rfl rfl rfl 2)$ k8 c j l.cl d _)
theorem Ñ{p}{m}{G}{L}(e:x.2=Wb p 1 m G L)(j:AI T N x.2){d}(c:0<=d/\d<=1000000):Ef b σ (Ei [O b,Fh p 0 d]) (ύ []) k.s:=bF h he (by
 obtain⟨n,a⟩:=x;subst e;have g:=(h.a _ hx).1;cases j with
 |Wb f _ q t l o r=>
  have i:=MX f σ (ϑ rfl) c;exact ZH h hx i (tH _ _ _) (CC _ _ _) ⋯ ⋯$ QA h hx c5 (CC _ _ _ σ) (Xp g rfl rfl rfl 2)$ Ľ f l o.cl g i (tH _ _ _ σ) ⋯)
theorem ž{p}{m s}{G}{L}(e:x.2=wait p 1 m s G L)(i:AI T N x.2){g}(r:g.Ok$ T p):Ef b σ (Ei [O b,sg p 0 g]) (ύ []) k.s:=bF h he (by
 obtain⟨n,a⟩:=x;subst e;have d:=(h.a _ hx).1;cases i with
 |wait c o t q v j l u=>
  have f:=wH c σ (ϑ rfl) r.st;exact ZH h hx f (ZK _ _ _) (oA _ _ _) ⋯ ⋯$ QA h hx c7 (oA _ _ _ σ) (Xp d rfl rfl rfl 2)$ yQ c j l.cl d f$ r8 ⋯ (SM ..) (LK ..) σ)
end
noncomputable def pq(a:Ac):Int × Int:=(a.p,a.q)
structure SI(T:Int->Int)(N:Nat)(h:Int)(z:Ks):Prop where
 a:∀ a∈z.A,AI T N a
 s:(h=1/\z.A.map pq=[(0,0)])\/(h=2/\z.A.map pq=[(0,1),(1,0)])
 K:z.K.length<=20+N
 q:AQ z.Q
 l:z.Q.length<=1/\∀ y∈z.Q,y.1=.inl 0
inductive Ro(T:Int->Int)(N:Nat):Int->D->Prop where
 |ask {s:Sn} (hs:SO (T 0) s):Ro T N 1 (ii 0 s)
 |acc {m s:Sn} (hm:SO (T 0) m) (hs:SO (T 0) s):Ro T N 1 (Nh 0 m s)
 |off {s:Sn} (hs:SO (T 0) s):Ro T N 2 (sg 0 0 s)
 |vj {n:Int} (hn:0<=n/\n<=1000000):Ro T N 2 (Fh 0 0 n)
 |wd {h w:Int} (hh:h=1\/h=2) (hw:0<=w/\w<=59):Ro T N h (Zu 0 w)
def SI.up{T}{N}{h}{z}(H:SI T N h z):SI T (N+1) h z:=⟨λa b=>(H.a a b).up ⋯,H.s,by have:=H.K;lia,H.q,H.l⟩
set_option tactic.hygienic true in
theorem L7{A}{a}(b:∀ y∈A,y.p=a.p->y.q=a.q):(jv A a).map pq=A.map pq:=by
 unfold jv;rw[Ta];refine Md λy c=>?_;simp;split
 ·next e=>unfold pq;rw[e,b y c e]
 ·rfl
def ä{A}{a y}(h:y∈jv A a):y=a\/y∈A:=by
 obtain⟨z,b,rfl⟩:=wa.mp h;split;all_goals simp_all
section
variable{T:Int->Int}{N:Nat}{h:Int}{z:Ks}(H:SI T N h z)
include H
theorem SI.set{a}(c:AI T (N+1) a)(d:∀ y∈z.A,y.p=a.p->y.q=a.q) g{Q}(q:AQ Q)(l:Q.length<=1/\∀ y∈Q,y.1=.inl 0):SI T (N+1) h ⟨g,z.K,jv z.A a,Q⟩:=by
 refine⟨λy b=>?_,?_,by have:=H.K;dsimp only;lia,q,l⟩
 ·rcases ä b with rfl|b
  ·exact c
  ·exact(H.a y b).up ⋯
 ·dsimp only;rw[L7 d];exact H.s
def Dt(T:Int->Int)(N:Nat)(h:Int)(z:Ks)(X:D):Prop:=∃ R a,(∀ b c,Dh b z c->Ef b c (Ei [O b,X]) (ύ R) a)/\SI T (N+1) h a/\R.length<=2/\∀ ό∈R,Ro T (N+1) (3 - h) ό
theorem Sw{X}(E:∀ b a,Dh b z a->Ef b a (Ei [O b,X]) (ύ []) z):Dt T N h z X:=⟨[],z,E,H.up,by simp,λό c=>by cases c⟩
theorem BE{X}{a}(e:AI T (N+1) a)(i:∀ y∈z.A,y.p=a.p->y.q=a.q){R}(f:∀ ό∈R,Ro T (N+1) (3 - h) ό){o}(E:∀ b d,Dh b z d->Ef b d (Ei [O b,X]) (Lk z 0 a R o).1 (Lk z 0 a R o).2)(g:R.length<=2:=by simp):Dt T N h z X:=by
 unfold Lk at E;cases c:Nk z a _ with
 |true=>
  rw[c]at E;refine⟨R,_,E,H.set e i _ ?_ ?_,g,f⟩
  ·split
   ·exact(nH H.q _).1
   ·exact H.q
  ·split
   ·exact⟨Ya (nH H.q _).2 H.l.1,λy j=>H.l.2 y (Gd.mp j).1⟩
   ·exact H.l
 |false=>rw[c]at E;exact Sw H E
omit H
theorem cO{A:List Ac}{h}(s:(h=1/\A.map pq=[(0,0)])\/(h=2/\A.map pq=[(0,1),(1,0)])):∃ a∈A,a.p=0/\a.q=h - 1/\∀ y∈A,y.p=0->y.q=h - 1:=by
 rcases s with⟨rfl,s⟩|⟨rfl,s⟩
 ·obtain⟨a,b,rfl,e,s⟩:=Te.mp s;obtain rfl:=Ar.mp s;have e:=Sf e
  simp_all
 ·obtain⟨a,b,rfl,e,s⟩:=Te.mp s;obtain⟨d,b,rfl,c,s⟩:=Te.mp s;obtain rfl:=Ar.mp s;have e:=Sf e;have c:=Sf c
  grind
end
section
variable{T:Int->Int}{N:Nat}(hN:N<=90){h:Int}{z:Ks}(H:SI T N h z)
include H hN
set_option tactic.hygienic true in
theorem Y2{X}(hX:Ro T N h X)(hK:N<=35):Dt T N h z X:=by
 obtain⟨a,C,M,ϋ,hu⟩:=cO H.s;have ϊ:=H.a a C;have u:=ϊ;cases hX with
 |@wd _ w hh hw=>
  have B:(ut z.K w).length<=21+N:=by
   have:=H.K;unfold ut;split
   ·lia
   ·simp;lia
  refine⟨[],⟨z.g,ut z.K w,z.A,z.Q⟩,λb r ⟨k,j,he,e⟩=>?_,⟨λa C=>(H.a a C).up ⋯,H.s,by dsimp only;lia,H.q,H.l⟩,by simp,λό I=>by cases I⟩;subst e;exact WZ j he ⋯ hw$ Ya B ⋯
 |@ask s hs=>
  cases ϊ with
  |@Wb p q m G L c V hm U J B P=>
   obtain rfl:p=0:=M;obtain rfl:q=0:=ϋ;have f:SO (T 0) ⟨m.n+1,s.a,s.b,s.ts⟩:=by
    have m0:=hm.ok.st.n;have o:=hs.ok.st;exact⟨⟨⟨by show 0<=m.n+1/\m.n+1<=1000000;lia,o.a,o.b,o.t,o.l,o.d⟩,hs.ok.w⟩,hs.w⟩
   have el:ii 0 s=ii 0 ⟨m.n+1,s.a,s.b,s.ts⟩:=rfl;rw[el];have en:(⟨m.n+1,s.a,s.b,s.ts⟩:Sn).n=m.n+1:=rfl;generalize (⟨m.n+1,s.a,s.b,s.ts⟩:Sn)=i at *;have a0:AI T (N+1)$ Wf 0 0 m i G L:=.Wf c hm f en (by rw[en];lia) J B ⋯;refine BE H a0 (λy W e=>hu y W e) (R:=[sg 0 0 i]) (o:=Α) (λό I=>by rw[jb.mp I];exact .off f) λb r ſ=>?_;obtain⟨k,j,he,e⟩:=ſ;subst e;obtain⟨x,v,ex⟩:=wa.mp C;exact L3 j he v ex a0
  |@Wf p m s2 G L c hm F U S J B P=>
   obtain rfl:p=0:=M;refine Sw H λb r ſ=>?_;obtain⟨k,j,he,e⟩:=ſ;subst e;obtain⟨x,v,ex⟩:=wa.mp C;exact v5 j he v ex (by rw[ex];exact u) hs.ok
  |wait=>cases ϋ
 |@acc m' i a1 f=>
  cases ϊ with
  |@Wb p q m G L c V hm U J B P=>
   obtain rfl:p=0:=M;obtain rfl:q=0:=ϋ;refine Sw H λb r ſ=>?_;obtain⟨k,j,he,e⟩:=ſ;subst e;obtain⟨x,v,ex⟩:=wa.mp C;exact ymt j he v ex (by rw[ex];exact u) f.ok a1.ok
  |@Wf p m s G L c hm F U S J B P=>
   obtain rfl:p=0:=M;have E:∀ b r,Dh b z r->Ef b r (Ei [O b,Nh 0 m' i]) (if Jn (Nh 0 m' i) (Nh 0 m s)then Lk z 0 (Wb 0 0 s (ff 0 1 s.D)$ L++[Z m.n]) [Fh 0 0 m.n] Α else (ύ [],z)).1 (if Jn (Nh 0 m' i) (Nh 0 m s)then Lk z 0 (Wb 0 0 s (ff 0 1 s.D)$ L++[Z m.n]) [Fh 0 0 m.n] Α else (ύ [],z)).2:=λb r ⟨k,j,he,e⟩=>by
    apply b_;intro z_;subst e;obtain⟨x,v,ex⟩:=wa.mp C;apply z_;exact O7 j he v H.q ex (by rw[ex];exact u) hN f.ok a1.ok
   split at E
   ·have n0:=hm.ok.st.n;exact BE H (.Wb c (ϑ rfl) F ⋯ (Ur$ Hi s) (B.add _)$ by simp;lia) (λy W e=>hu y W e) (λό I=>by rw[jb.mp I];exact .vj n0) E
   ·exact Sw H E
  |wait=>cases ϋ
 |@off i f=>
  cases ϊ with
  |@Wb p q m G L c V hm U J B P=>
   obtain rfl:p=0:=M;obtain rfl:q=1:=ϋ;have E:∀ b r,Dh b z r->Ef b r (Ei [O b,sg 0 0 i]) (if i.n == m.n+1 then Lk z 0 (wait 0 1 m i (ff 0 0 i.D) L) [Nh 0 m i] (Pr z.Q 0 i)else (ύ [],z)).1 (if i.n == m.n+1 then Lk z 0 (wait 0 1 m i (ff 0 0 i.D) L) [Nh 0 m i] (Pr z.Q 0 i)else (ύ [],z)).2:=λb r ⟨k,j,he,e⟩=>by
    subst e;obtain⟨x,v,ex⟩:=wa.mp C;exact O6 j he v H.q ex (by rw[ex];exact u) f
   split at E
   ·next hB=>
    have a3:i.n=m.n+1:=by simpa using hB
    exact BE H (.wait c hm f a3 (by rw[a3];lia) (Ur$ Hi i) B$ by lia) (λy W e=>hu y W e) (λό I=>by rw[jb.mp I];exact .acc hm f) E
   ·exact Sw H E
  |Wf=>cases ϋ
  |@wait p m s G L c hm F U S J B P=>
   obtain rfl:p=0:=M;refine Sw H λb r ſ=>?_;obtain⟨k,j,he,e⟩:=ſ;subst e;obtain⟨x,v,ex⟩:=wa.mp C;exact ž j he v ex (by rw[ex];exact u) f.ok
 |@vj n' a2=>
  cases ϊ with
  |@Wb p q m G L c V hm U J B P=>
   obtain rfl:p=0:=M;obtain rfl:q=1:=ϋ;refine Sw H λb r ſ=>?_;obtain⟨k,j,he,e⟩:=ſ;subst e;obtain⟨x,v,ex⟩:=wa.mp C;exact Ñ j he v ex (by rw[ex];exact u) a2
  |Wf=>cases ϋ
  |@wait p m s G L c hm F U S J B P=>
   obtain rfl:p=0:=M;have E:∀ b r,Dh b z r->Ef b r (Ei [O b,Fh 0 0 n']) (if Jn (Fh 0 0 n') (Fh 0 0 m.n)then Lk z 0 (Wb 0 1 s G$ L++[Z m.n]) [] Α else (ύ [],z)).1 (if Jn (Fh 0 0 n') (Fh 0 0 m.n)then Lk z 0 (Wb 0 1 s G$ L++[Z m.n]) [] Α else (ύ [],z)).2:=λb r ⟨k,j,he,e⟩=>by
    subst e;obtain⟨x,v,ex⟩:=wa.mp C;exact ytw j he v H.q ex (by rw[ex];exact u) hN a2
   split at E
   ·exact BE H (.Wb c (ϖ rfl) F ⋯ J (B.add _)$ by simp;lia) (λy W e=>hu y W e) (λό I=>by cases I) E
   ·exact Sw H E
end
inductive Bl(T:Int->Int):D->Prop where
 |off {s:Sn} (hs:SO (T 1) s):Bl T (sg 1 0 s)
 |wd {w:Int} (hw:0<=w/\w<=59):Bl T (Zu 1 w)
def Lp(T:Int->Int)(N:Nat)(h p:Int)(ό:D):Prop:=(p=0/\Ro T N (3 - h) ό)\/(p=1/\Bl T ό)
def Wt(T:Int->Int)(N:Nat)(h p:Int)(z:Ks)(X:D):Prop:=∃ t R a,(∀ b c,Dh b z c->Ef b c (Er [O b,X]) (Ϗ [ϒ t,ύ R]) a)/\SI T (N+1) h a/\R.length<=2/\∀ ό∈R,Lp T (N+1) h p ό
def L5{Q}(q:AQ Q)(l:Q.length<=1/\∀ y∈Q,y.1=.inl 0) d s:AQ (Ni Q (.inl 0)$ Sl d s)/\(Ni Q (.inl 0)$ Sl d s).length<=1/\∀ y∈Ni Q (.inl 0) (Sl d s),y.1=.inl 0:=by
 obtain⟨l1,l2⟩:=l;have c:AQ [((.inl 0),Sl d s)]:=λz b=>by rw[jb.mp b];exact⟨_,_,rfl⟩
 cases Q with
 |nil=>exact⟨c,ya 1,λy a=>by rw[jb.mp a]⟩
 |cons y Q=>
  cases Q with
  |nil=>
   have e:=l2 y ⋯;obtain⟨k,v⟩:=y;subst e;have:Ni [((.inl 0),v)] (.inl 0) (Sl d s)=[(.inl 0,Sl d s)]:=by unfold Ni;simp
   simp_all
  |cons _ _=>simp_all
def Ŧ{T q}{K}{m s}(f:SO T m){a:Wi}(h:a.st q K m=BD s) p:∀ ό∈a.wd p,∃ w,(0<=w/\w<=59)/\ό=Zu p w:=λό b=>by
 cases a with
 |vf w=>
  refine⟨w,?_,jb.mp b⟩;unfold Wi.st at h;dsimp only at h;cases e:Ep w m.ts with
  |none=>simp_all
  |some t=>
   obtain⟨c,d⟩:=mD e;rw[<-d];exact(f.ok.st.t t c).w
 |_=>cases b
section
variable{T:Int->Int}(hT:∀ p,T p<=2000000000000){N:Nat}(hN:N<=35){h:Int}{z:Ks}(H:SI T N h z)
include H hN hT
set_option tactic.hygienic true in
theorem ζ{a}(o:a∈z.A){c:Wi}(t:c.Ok):Wt T N h a.p z$ c.D a.p:=by
 have J:=H.a a o;have E:∀ b F,Dh b z F->Ef b F (Er [O b,c.D a.p]) (nw z a c).1 (nw z a c).2:=λb F ⟨k,S,he,e⟩=>by
  apply b_;intro z_;subst e;obtain⟨x,W,rfl⟩:=wa.mp o;apply z_;exact D9 S he W J ⋯ hT (Oj H.l.1$ by decide) t
 have v:nw z a c=(Ϗ [ϒ İ,ύ []],z)->Wt T N h a.p z (c.D a.p):=λe=>by
  rw[e]at E;exact⟨İ,[],z,E,H.up,by simp,λό n=>by cases n⟩
 have u:(a.p=0/\a.q=h - 1)\/(h=2/\a.p=1/\a.q=0):=by
  have g:=Jc (f:=pq) o;rcases H.s with⟨e,s⟩|⟨e,s⟩<;>rw[s]at g<;>simp[pq]at g<;>omega
 have R:h=1\/h=2:=by rcases H.s with⟨e,_⟩|⟨e,_⟩<;>omega
 have V:∀ y∈z.A,y.p=a.p->y.q=a.q:=λy C e=>by
  have g:=Jc (f:=pq) o;have r:=Jc (f:=pq) C;rcases H.s with⟨_,s⟩|⟨_,s⟩<;>rw[s]at g r<;>simp[pq]at g r<;>omega
 cases J with
 |Wf=>exact v rfl
 |wait=>exact v rfl
 |@Wb p q m G L P U g hn Q ϋ hL=>
  have u:(p=0/\q=h - 1)\/(h=2/\p=1/\q=0):=u;cases j:c.st q z.K m with
  |none=>exact v (by show (match c.st q z.K m with|some s=>_|none=>_)=_;rw[j])
  |some s=>
   obtain⟨d,i⟩:=JS U g (hT p) ⋯ t j;have I:nw z (Wb p q m G L) c=(dy p q s c$ Nk z (xa p q m s G L) c.al,YA z p q (xa p q m s G L) s c (Nk z (xa p q m s G L) c.al)):=by
    show (match c.st q z.K m with|some s=>_|none=>_)=_;rw[j];rfl
   cases M:Nk z _ c.al with
   |false=>exact v (by rw[I,M];rfl)
   |true=>
    rw[I,M]at E;refine⟨G6,c.wd p++[lt p q s],_,E,?_,by cases c<;>simp[Wi.wd],λό n=>?_⟩
    ·unfold YA;dsimp only;have B:AI T (N+1)$ xa p q m s G L:=by
      unfold xa;split
      ·exact .Wf P g d i (by rw[i];lia) Q ϋ ⋯
      ·exact .wait P g d i (by rw[i];omega) (Ur$ Hi s) ϋ ⋯
     have X:(xa p q m s G L).p=p:=by unfold xa;split<;>rfl
     have qa:(xa p q m s G L).q=q:=by
      unfold xa;split
      ·next e=>exact e.symm
      ·show 1=q;omega
     split
     ·exact H.set B (λy C e=>by rw[qa];exact V y C (by rw[e,X];rfl)) _ H.q H.l
     ·obtain rfl:p=0:=by omega
      obtain⟨ϊ,q2⟩:=L5 H.q H.l c.al s;exact⟨λa o=>(H.a a o).up ⋯,H.s,by have:=H.K;dsimp only;omega,ϊ,q2⟩
    ·rcases jc.mp n with n|n
     ·obtain⟨w,t,rfl⟩:=Ŧ g j p ό n;rcases u with⟨rfl,_⟩|⟨_,rfl,_⟩
      ·exact ϑ ⟨rfl,.wd ⋯ t⟩
      ·exact ϖ ⟨rfl,.wd t⟩
     ·rw[jb.mp n];unfold lt;rcases u with⟨rfl,e⟩|⟨_,rfl,rfl⟩
      ·rcases R with rfl|rfl
       ·rw[ka ⋯];exact ϑ ⟨rfl,.off d⟩
       ·rw[ua ⋯];exact ϑ ⟨rfl,.ask d⟩
      ·exact ϖ ⟨rfl,.off d⟩
end
def Dh.keep{b c}{z y}{p m}(h:Dh c y p)(j:Dh b z p)(u:b+5<c\/c+5<b)(f:Fr b p m):Dh c y m:=by
 obtain⟨k,h,e⟩:=h;obtain⟨A,j,_⟩:=j;have g:∀ {i:Nat} {o:Ob},i<=5->p[c+i]?=BD o->m[c+i]?=BD o:=λw=>f _ _ ⋯;refine⟨k,⟨⟨g (i:=0) ⋯ h.v.h0,g ⋯ h.v.h1,g ⋯ h.v.h3,g ⋯ h.v.h4⟩,g ⋯ h.h2,g ⋯ h.h5,λx t=>?_,h.d,h.n,h.z,h.o,h.q⟩,e⟩;obtain⟨i,o⟩:=h.a x t;refine⟨f _ _ ?_ i,o⟩;by_cases l:x.1<b
 ·exact ϑ l
 ·by_cases r:b+5<x.1
  ·exact ϖ r
  ·exfalso
   have i:=i;have s:=o.c;rcases(show x.1=b\/x.1=b+1\/x.1=b+2\/x.1=b+3\/x.1=b+4\/x.1=b+5 by lia)with e|e|e|e|e|e<;>rw[e]at i
   ·have:=j.v.h0.symm.trans i;have:15=x.2.c:=by injection this with this;injection this
    rw[<-this]at s;simp at s
   ·cases j.v.h1.symm.trans i
   ·cases j.h2.symm.trans i
   ·cases j.v.h3.symm.trans i
   ·cases j.v.h4.symm.trans i
   ·cases j.h5.symm.trans i
noncomputable def Gv(h kd b a:Nat)(P:D):List$ Str × D:=[("public",O (h+1)),("pots",P),("every",Z 6),("keepers",O kd),("under_way",O b),("things",O a)]
structure HA(h kd uw th b1 b2:Nat)(P:D)(tb:Nat)(rd:B')(σ:Ha):Prop where
 h0:σ[h]?=BD (ϓ 16 (Gv h kd uw th P))
 hk:σ[kd]?=BD (ώ [(.inl 1,O b1),(.inl 2,O b2)])
 hu:σ[uw]?=BD (ϐ rd)
 ht:∃ T,σ[th]?=BD (ϡ T)/\T.length<=tb
def Yw{b}{n c}{a}(h:b[n]?=BD (ϓ c a)):bj b (O n)=BD (c,a):=by unfold bj;simp[h]
section
variable{h kd uw th b1 b2:Nat}{P:D}{tb:Nat}{rd:B'}{σ:Ha}(H:HA h kd uw th b1 b2 P tb rd σ)
include H
theorem HA.app j:HA h kd uw th b1 b2 P tb rd$ σ++j:=⟨nl H.h0,nl H.hk,nl H.hu,H.ht.imp λa e=>⟨nl e.1,e.2⟩⟩
theorem HA.fr{b}{a}(f:Fr b σ a)(c:h<b)(d:kd<b)(g:uw<b)(i:th<b):HA h kd uw th b1 b2 P tb rd a:=⟨f _ _ (ϑ c) H.h0,f _ _ (ϑ d) H.hk,f _ _ (ϑ g) H.hu,H.ht.imp λj e=>⟨f _ _ (ϑ i) e.1,e.2⟩⟩
theorem iP:Gc [9,14,16] "pots" (O h) σ=Y P σ:=Ik (Yw H.h0) rfl rfl
theorem xH:Gc [16] "keepers" (O h) σ=Y (O kd) σ:=Ik (Yw H.h0) rfl rfl
theorem uA:Gc [16] "under_way" (O h) σ=Y (O uw) σ:=Ik (Yw H.h0) rfl rfl
theorem ë:Gc [16] "things" (O h) σ=Y (O th) σ:=Ik (Yw H.h0) rfl rfl
theorem wm{x} k a b(c:(Gv h kd uw th P).lookup x=Α):Qi [(16,a)] k x b (O h) σ=(b σ).bind (Gi k a$ O h):=Ym (Yw H.h0) rfl c
theorem JP{w}{n}(a:w=1/\n=b1\/w=2/\n=b2):Lh (O kd) (Z w) σ=Y (O n) σ:=Qv H.hk (by rcases a with⟨rfl,rfl⟩|⟨rfl,rfl⟩<;>rfl)
theorem BV w:ju (Z w) (O kd) σ=Y (ϒ$ decide$ w=1\/w=2) σ:=by
 have e:ph σ (O kd)=BD [(.inl 1,O b1),(.inl 2,O b2)]:=by unfold ph;simp[H.hk]
 unfold ju;simp[Ai,e];by_cases a:w=1
 ·subst a;rfl
 ·by_cases b:w=2
  ·subst b;rfl
  ·have:qi [((.inl 1),O b1),(.inl 2,O b2)] (.inl w)=Α:=XW λz c e=>by
    rcases Ea.mp c with rfl|c;all_goals simp_all
   simp_all
end
def Dh.set{b r}{z}{g}{o}(h:Dh b z g)(m:g[r]?=BD o)(l:(∃ xs,o=ϐ xs)\/∃ T,o=ϡ T) x:Dh b z$ g.set r x:=by
 obtain⟨k,h,e⟩:=h;have j:∀ {q c:Nat} {s:List _},g[q]?=BD _->(g.set r x)[q]?=BD (ϓ c s):=λf=>Mh (λe=>by
  subst e;rw[m]at f;rcases l with⟨_,rfl⟩|⟨_,rfl⟩<;>cases f) f
 have i:∀ {q:Nat} {t:Kv},g[q]?=BD _->(g.set r x)[q]?=BD (ώ t):=λf=>Mh (λe=>by
  subst e;rw[m]at f;rcases l with⟨_,rfl⟩|⟨_,rfl⟩<;>cases f) f
 exact⟨k,⟨⟨j h.v.h0,i h.v.h1,i h.v.h3,i h.v.h4⟩,i h.h2,i h.h5,λx p=>⟨j (h.a x p).1,(h.a x p).2⟩,h.d,h.n,h.z,h.o,h.q⟩,e⟩
def EF{a:Ha}{n}{o x}(h:a[n]?=BD o):(a.set n x)[n]?=BD x:=by
 have:=(da.mp h).1
 simp_all
def jz{a}{r}{xs}(c:a[r]?=BD (ϐ xs)) o b:Cr o b (O r) a=(b a).bind (o$ O r):=Lx (xs:=xs) (by unfold uf jf;simp[c])
structure Ad(h kd uw th:Nat):Prop where
 a:uw≠h/\uw≠kd/\uw≠th
 b:th≠h/\th≠kd/\th≠uw
noncomputable def ye(l r u v w:Int):D:=Ϗ [Z l,Z r,Z u,Z v,Z w]
noncomputable def PL(c:Nat->Int):D:=ύ [ye 1 2 (c 0) (c 1) 20,ye 2 3 (c 2) (c 3) 30]
noncomputable def li(s:Int)(ό:D):D:=Ϗ [Z$ 3 - s,ό]
section
variable{h kd uw th b1 b2:Nat}(ad:Ad h kd uw th){c:Nat->Int}{tb:Nat}
include ad
theorem HA.way{rd}{d}(H:HA h kd uw th b1 b2 (PL c) tb rd d) b:HA h kd uw th b1 b2 (PL c) tb b$ d.set uw$ ϐ b:=⟨Mh ad.a.1 H.h0,Mh ad.a.2.1 H.hk,EF H.hu,H.ht.imp λf e=>⟨Mh ad.a.2.2 e.1,e.2⟩⟩
theorem UP{s:Int}(r:s=1\/s=2)(L:Option D):∀ (R rd:B') (a:Ha) (g e f:Option D),(∀ ό∈R,∀ a,Nb ό (Z 1) a=Y (Z 0) a)->rd.length+R.length<900->HA h kd uw th b1 b2 (PL c) tb rd a->∃ k l m,Lj (ud 3) Bz R [BD$ O h,BD$ Z s,L,g,e,f] a=Y (ϙ [BD$ O h,BD$ Z s,L,k,l,m]) (a.set uw$ ϐ$ rd++R.map (li s))
 |[],rd,a,g,e,f,_,_,H=>⟨g,e,f,by simp[SD H.hu]⟩
 |ό::R,rd,a,g,e,f,n,p,H=>by
  have u:=n ό na;have q:=iP H;have o:=xH H;have t:=uA H;have j:=BV H$ 3 - s;rw[Eb ⋯]at j;have i:=nO (d:=li s ό) H.hu (by simp at p;omega);have w:=λA=>jz H.hu zi A;have C:∀ x,(a.set uw$ ϐ$ rd++[li s ό]).set uw x=a.set uw x:=λx=>Ph ..;obtain⟨k,l,m,v⟩:=UP r L R (rd++[li s ό]) _ (BD ό) (BD$ Ϗ [Z 1,Z 2]) (BD$ Z$ 3 - s) (λϊ B=>n ϊ$ ma _ B) (by simp at p ⊢;omega) (H.way ad$ rd++[li s ό]);refine⟨k,l,m,?_⟩;rw[C,Zc]at v;rw[iq];simp only[Ab,Vb];have z:∀ a,Nb (PL c) (Z 0) a=Y (ye 1 2 (c 0) (c 1) 20) a:=λa=>by unfold PL;simp
  have y:∀ a,Au (ye 1 2 (c 0) (c 1) 20) Α (BD 2) a=Y (Ϗ [Z 1,Z 2]) a:=λa=>by unfold ye;rw[iA];rfl
  have b:Bz [BD$ O h,BD$ Z s,L,BD ό,e,f] a=Y (ϙ [BD$ O h,BD$ Z s,L,BD ό,BD$ Ϗ [Z 1,Z 2],BD$ Z$ 3 - s]) (a.set uw$ ϐ$ rd++[li s ό]):=by
   unfold li at i ⊢;generalize PL c=P,ye 1 2 (c 0) (c 1) 20=Q,a.set uw (ϐ$ rd++[Ϗ [Z$ 3 - s,ό]])=E at *;unfold Bz;rcases r with rfl|rfl
   ·rw[show (3 - 1:Int)=2 from rfl]at *;simp[u,q,o,t,z,y,j,w,i]
   ·rw[show (3 - 2:Int)=1 from rfl]at *;simp[u,q,o,t,z,y,j,w,i]
  rw[b,Sd,il,v];simp
theorem vN{s}(f:s=1\/s=2){R rd}{a}(b:∀ ό∈R,∀ a,Nb ό (Z 1) a=Y (Z 0) a)(d:rd.length+R.length<900)(H:HA h kd uw th b1 b2 (PL c) tb rd a):Wu [O h,Z s,ύ R] a=Y Ϛ (a.set uw$ ϐ$ rd++R.map (li s)):=by
 obtain⟨g,i,j,e⟩:=UP ad f (BD$ ύ R) R rd a Α Α Α b d H;unfold Wu fN kf
 simp_all
end
@[simp] theorem zrr f c b a d:CH f c b a d=vk a (vL a c b) (f a d):=kl ..
@[simp] theorem zry c b d a e:vL a c b d e=vk a (JL a b) (c a e):=kl ..
@[simp] theorem zrz b x a c:JL a b x c=vk a (Ux a x) (b a c):=kl ..
theorem TC{b:Type}{f:D->Option b}:∀ {ds:B'},(∀ d∈ds,∃ k,f d=BD k)->∃ ks,Su f ds=BD ks
 |[],_=>⟨_,rfl⟩
 |d::ds,h=>by
  obtain⟨k,e⟩:=h d na;obtain⟨ks,c⟩:=TC λx a=>h x$ ma _ a;unfold Su
  simp_all
def nz n i:∃ k,Vr n (Z i)=BD k:=by cases n<;>exact⟨_,rfl⟩
def aK n x:∃ k,Vr n (ϔ x)=BD k:=by cases n<;>exact⟨_,rfl⟩
def vG{n}{a}(h:∀ d∈a,∃ k,Vr n d=BD k):∃ k,Vr (n+1) (Ϗ a)=BD k:=by
 obtain⟨ks,e⟩:=TC h;exact⟨.inr ks,by show (Su _ a).map Sum.inr=_;rw[e];rfl⟩
def v6(s:Sn):∃ k,Vr 4 s.D=BD k:=vG λd a=>by
 simp at a;rcases a with rfl|rfl|rfl
 ·exact nz ..
 ·exact vG λd a=>by
   simp at a;rcases a with rfl|rfl<;>exact nz ..
 ·exact vG λd a=>by
   obtain⟨t,_,rfl⟩:=wa.mp a;exact vG λd a=>by
    simp at a;rcases a with rfl|rfl|rfl|rfl<;>exact nz ..
def Ŭ{h kd n b e f l}{P ό}{rd}{a}{T}(H:HA h kd n b e f P l rd a)(g:a[b]?=BD (ϡ T))(j:T.length<1000){c}{k}(i:Zz c=BD k)(m:∀ a,SC [ό] a=Y (ύ [Ϗ c]) a):gE [O h,ό] a=Y Ϛ (a.set b$ ϡ$ Lr T k):=by
 have st:∀ d,Ux d (O b) (Ϗ c) a=Y _ _:=λd=>by
  unfold Ux;simp[i,g];rw[ka (show T.length<lg from j)]
 unfold gE sT kf;simp[m,(ë H),st]
def pR T k:(Lr T k).length<=T.length+1:=by
 unfold Lr;split<;>simp
@[simp] theorem ywl:(("offer" : Str) == "ask")=İ:=by decide
@[simp] theorem ywm:(("offer" : Str) == "word")=İ:=by decide
@[simp] theorem ywn:(("word" : Str) == "ask")=İ:=by decide
theorem zhj{T}{ό}(i:Bl T ό):(∀ a,Nb ό (Z 1) a=Y (Z 1) a)/\∃ c k,Zz c=BD k/\∀ a,SC [ό] a=Y (ύ [Ϗ c]) a:=by
 cases i with
 |@off s m=>
  refine⟨oA _ _ _,?_⟩;obtain⟨k,e⟩:=TC (f:=Vr 4) (ds:=[ϔ "agree",Z 1,Z 0,s.D]) λd b=>by
   simp[Ea,kc,Qg]at b;rcases b with rfl|rfl|rfl|rfl
   ·exact aK ..
   ·exact nz ..
   ·exact nz ..
   ·exact v6 s
  refine⟨_,k,e,λa=>?_⟩;have l:∀ a,Au (sg 1 0 s) (BD 2) Α a=Y (Ϗ [ff 1 0 s.D]) a:=λa=>by unfold sg;rw[iA];rfl
  have h:∀ a,Vf a _=Y (ύ [ff 1 0 s.D]) a:=λa=>mX (j6 _) (by simp[Ur$ Hi s]);have j:=ZK 1 0 s;show _=Y (ύ [ff 1 0 s.D]) a;have g:rf [ff 1 0 s.D]=G6:=by simp[Ur$ Hi s]
  unfold SC Dc;dsimp only;generalize sg 1 0 s=X,ff 1 0 s.D=A at *;simp[j,l,h,g]
 |@wd w hw=>
  obtain⟨k,e⟩:=TC (f:=Vr 4) (ds:=[ϔ "word",Z w]) λd b=>by
   simp[Ea,kc,Qg]at b;rcases b with rfl|rfl
   ·exact aK ..
   ·exact nz ..
  refine⟨λa=>by unfold Zu;simp,_,k,e,λa=>?_⟩;unfold SC Zu Dc;simp
section
variable{h kd uw th b1 b2:Nat}(ad:Ad h kd uw th){c:Nat->Int}{T:Int->Int}{rd:B'}
include ad
theorem HA.A5{f}{a}(H:HA h kd uw th b1 b2 (PL c) f rd a){U}{tb'}(d:U.length<=tb'):HA h kd uw th b1 b2 (PL c) tb' rd$ a.set th$ ϡ U:=⟨Mh ad.b.1 H.h0,Mh ad.b.2.1 H.hk,Mh ad.b.2.2 H.hu,by obtain⟨_,e,_⟩:=H.ht;exact⟨U,EF e,d⟩⟩
theorem ZQ(L:Option D):∀ (R:B') (d:Nat) (a:Ha) (i f g:Option D),(∀ ό∈R,Bl T ό)->d+R.length<900->HA h kd uw th b1 b2 (PL c) d rd a->∃ U m n o,Lj (ud 3) Bz R [BD$ O h,BD$ Z 2,L,i,f,g] a=Y (ϙ [BD$ O h,BD$ Z 2,L,m,n,o]) (a.set th$ ϡ U)/\U.length<=d+R.length
 |[],d,a,i,f,g,_,_,H=>by
  obtain⟨U,e,l⟩:=H.ht;exact⟨U,i,f,g,by simp[SD e],by simpa using l⟩
 |ό::R,d,a,i,f,g,p,w,H=>by
  obtain⟨z,I,k,v,E⟩:=zhj (p ό na);have y:=iP H;have j:=xH H;have q:=BV H 3;rw[Xa ⋯]at q;obtain⟨U,e,l⟩:=H.ht;have F:=Ŭ H e ⋯ v E;have B:=λt=>wm H (x:="tell_band") 2 gE t rfl;have s:=H.A5 ad (U:=Lr U k) (tb':=d+1)$ Ya (pR U k) ⋯;obtain⟨V,m,n,o,r,A⟩:=ZQ L R (d+1) (a.set th$ ϡ$ Lr U k) (BD ό) (BD$ Ϗ [Z 2,Z 3]) (BD$ Z 3) (λϊ u=>p ϊ$ ma _ u) (by simp at w ⊢;omega) s;refine⟨V,m,n,o,?_,by simp at A ⊢;omega⟩;rw[Ph]at r;rw[iq];simp only[Ab,Vb];have G:∀ a,Nb (PL c) (Z 1) a=Y (ye 2 3 (c 2) (c 3) 30) a:=λa=>by unfold PL;simp
  have C:∀ a,Au (ye 2 3 (c 2) (c 3) 30) Α (BD 2) a=Y (Ϗ [Z 2,Z 3]) a:=λa=>by unfold ye;rw[iA];rfl
  have b:Bz [BD$ O h,BD$ Z 2,L,BD ό,f,g] a=Y (ϙ [BD$ O h,BD$ Z 2,L,BD ό,BD$ Ϗ [Z 2,Z 3],BD$ Z 3]) (a.set th$ ϡ$ Lr U k):=by
   generalize PL c=P,ye 2 3 (c 2) (c 3) 30=Q,a.set th (ϡ$ Lr U k)=J at *;unfold Bz;simp[z,y,j,G,C,q,B,F]
  rw[b,Sd,il,r]
theorem V5{R}{a}{b}(d:∀ ό∈R,Bl T ό)(f:a+R.length<900)(H:HA h kd uw th b1 b2 (PL c) a rd b):∃ U,Wu [O h,Z 2,ύ R] b=Y Ϛ (b.set th$ ϡ U)/\U.length<=a+R.length:=by
 obtain⟨U,g,i,j,e,l⟩:=ZQ ad (BD$ ύ R) R a b Α Α Α d f H;refine⟨U,?_,l⟩;unfold Wu fN kf
 simp_all
end
def Vh{a}{n}{o}(h:a[n]?=BD o):Vf a (Y (O n) a)=Y (O n) a:=by
 unfold Vf;dsimp only;rw[ka ⋯];have:fz a.length a 6 (O n)=BD (O n):=by
  unfold fz;dsimp only;rw[ka$ (da.mp h).1]
  simp_all
 rw[this]
def mF{a}{n}{xs}(h:a[n]?=BD (ϐ xs)):pi a (O n)=BD xs:=by unfold pi;simp[uf,jf,h]
def uL{a}{n}{xs}(h:a[n]?=BD (ϐ xs)){k}{d}(e:So xs k=BD d):Nb (O n) (Z k) a=Y d a:=by simp[Nb,mF h,e]
def Dh.Ip{b}{z}{d}(h:Dh b z d){m} n a c(j:(Hj b 6 0).lookup m=Α):Qi [(15,a)] n m c (O b) d=(c d).bind (Gi n a$ O b):=by
 obtain⟨k,h,e,_⟩:=h;exact vn h.v n a c (by
  have:∀ e g f i:Int,((Hj b e g).lookup m=Α) ↔ ((Hj b f i).lookup m=Α):=λe g f i=>by
   unfold Hj
   simp_all
  exact(this ..).mp j)
def Dh.at{b}{z}{a}(h:Dh b z a):∃ o,a[b]?=BD o:=by
 obtain⟨k,h,_⟩:=h;exact⟨_,h.v.h0⟩
section
variable{h kd uw th b1 b2 tb:Nat}{P:D}{rd:B'}{σ:Ha}(H:HA h kd uw th b1 b2 P tb rd σ)
include H
theorem m7{w}(a:w=1\/w=2):zp (Z w) (O kd) σ=Y (ϒ İ) σ:=by
 have e:ph σ (O kd)=BD [(.inl 1,O b1),(.inl 2,O b2)]:=by unfold ph;simp[H.hk]
 unfold zp;simp only[Ai,e];rcases a with rfl|rfl<;>rfl
theorem FH{w}{b}(a:w=1/\b=b1\/w=2/\b=b2){z}(k:Dh b z σ):qv [O h,Z w] σ=Y (O b) σ:=by
 obtain⟨o,e⟩:=k.at;unfold qv eh;simp[(xH H),(m7 H (w:=w)$ by lia),(JP H a),(Vh e)]
theorem bX{w}{b}(g:w=1/\b=b1\/w=2/\b=b2){z}(k:Dh b z σ){X}{t}{R}{a d}(e:Er [O b,X] σ=Y (Ϗ [ϒ t,ύ R]) a)(f:HA h kd uw th b1 b2 P tb rd a)(s:Wu [O h,Z w,ύ R] a=Y Ϛ d):qB [O h,Z w,X] σ=Y (ϒ t) d:=by
 unfold qB kf;simp[(λc=>wm H (x:="keeper") 2 qv c rfl),(FH H g k),(λc=>k.Ip (m:="wish") 2 Er c rfl),e,(λc=>wm f (x:="send") 3 Wu c rfl),s]
theorem LU{w}{b}(f:w=1/\b=b1\/w=2/\b=b2){z}(k:Dh b z σ){X}{R}{a c}(e:Ei [O b,X] σ=Y (ύ R) a)(s:Wu [O h,Z w,ύ R] a=Y Ϛ c):bx [O h,Z w,X] σ=Y Ϛ c:=by
 unfold bx kf;simp[(xH H),(JP H f),(λd=>k.Ip (m:="take") 2 Ei d rfl),e,(λd=>wm H (x:="send") 3 Wu d rfl),s]
theorem JM{i}(c:i<rd.length)(d:rd.length<1000):Az [O h,Z i] σ=Y Ϛ σ:=by
 have b:Il [O uw] σ=Y (Z rd.length) σ:=by
  unfold Il;simp[mF H.hu]
 have a:mC [Z i,Z 0,Z$ rd.length - 1] σ=Y _ σ:=bt ⋯ σ;unfold Az eh;simp[(uA H),b,a]
theorem qS{i:Nat}{y}(a:i<1000)(e:rd[i]?=BD y):Lq (O uw) [Z i] σ=Y y (σ.set uw$ ϐ$ rd.take i++rd.drop (i+1)):=by
 have:jf σ uw=BD rd:=by unfold jf;simp[H.hu]
 unfold Lq;simp[this];rw[ka ⋯];simp[e]
theorem i5{i:Nat}{y}(e:rd[i]?=BD y)(c:rd.length<1000):iD [O h,Z i] σ=Y Ϛ (σ.set uw$ ϐ$ rd.take i++rd.drop (i+1)):=by
 have b:=(da.mp e).1;have d:=λa=>jz H.hu Lq a;have f:=qS H ⋯ e;unfold iD kf;simp[(uA H),(JM H b c),(λa=>wm H (x:="check_letter") 2 Az a rfl),d,f]
theorem gF:vt [O h] σ=Y (O σ.length) (σ++[ϐ rd]):=by
 have a:Io [O uw] σ=Y (O σ.length) (σ++[ϐ rd]):=by unfold Io;simp[mF H.hu];rfl
 unfold vt kf;simp[(uA H),a]
end
section
variable{h kd uw th b1 b2:Nat}(ad:Ad h kd uw th){c:Nat->Int}{tb:Nat}{rd:B'}{σ:Ha}(H:HA h kd uw th b1 b2 (PL c) tb rd σ)
include H
theorem r6{i:Nat}{w}{X}(e:rd[i]?=BD (Ϗ [Z w,X]))(c:rd.length<1000){a}(d:bx [O h,Z w,X] σ=Y Ϛ a):Ec [O h,Z i,ϒ G6] σ=Y Ϛ a:=by
 unfold Ec ZJ;simp[(uA H),(JM H ((da.mp e).1) c),(λb=>wm H (x:="check_letter") 2 Az b rfl),(uL H.hu$ Qo e),(λb=>wm H (x:="hand_over") 3 bx b rfl),d]
include ad
theorem æ{i}{w}{X}(e:rd[i]?=BD (Ϗ [Z w,X]))(d:rd.length<1000){b}(f:bx [O h,Z w,X] (σ.set uw$ ϐ$ rd.take i++rd.drop (i+1))=Y Ϛ b):Ec [O h,Z i,ϒ İ] σ=Y Ϛ b:=by
 have c:=(da.mp e).1;unfold Ec ZJ;simp[(uA H),(JM H c d),(λa=>wm H (x:="check_letter") 2 Az a rfl),(uL H.hu$ Qo e),(λa=>jz H.hu Lq a),(qS H ⋯ e),(λa=>wm (H.way ad$ rd.take i++rd.drop (i+1)) (x:="hand_over") 3 bx a rfl),f]
end
def jM a:Ap (Z 10) (Z 12) a=Y (Z 1000000000000) a:=bz (by simp[uu])
def bA(a:Ac)(d:Int):Int:=min (1+d / 16 % max 1 (ow a.q a.m)) 1000000000000
noncomputable def SA(a:Ac)(d:Int):Int:=((a.m.ts[(d / 4 % a.m.ts.length).toNat]?).map Ti.w).getD 0
def vB(a:Ac)(d:Int):Wi:=if d % 4=0 then .Vl (bA a d)else if d % 4=1\/a.m.ts=[]then .yp G6 (bA a d) (d / 4 % 60) (d / 240 % 30)else if d % 2=0 then .vf (SA a d)else .drop (SA a d)
def oZ a d:(vB a d).Ok:=by
 unfold vB;split
 ·exact trivial
 ·split
  ·exact⟨by lia,by lia,by lia⟩
  ·split<;>exact trivial
def UZ{T}{N b}{k}{B}(h:Zk b k B){x}(J:x∈k.as)(V:AI T N x.2) d:xu [O b,Z x.2.p,Z d] B=Y ((vB x.2 d).D x.2.p) B:=by
 have K:=(h.a x J).1;have C:=V.ok;have i:=pX h J;have y:=λU=>vn h.v (m:="account") 2 Br U rfl;have j:=Sq K C;have l:=Xr K C;have r:=s1 x.2.m;have E:=s2 x.2.m;have o:=lQ C.q x.2.m;have A:=jM;obtain⟨n,a⟩:=x;dsimp only at *;have W:0<max 1 (ow a.q a.m):=by omega
 have u:∀ c,Fi _ (Z _) c=Y (Z$ d / 16 % max 1 _) c:=λc=>yB _ _ W;have eA:min _ 1000000000000=bA a d:=rfl;have f:∀ c,wh (Ϗ$ a.m.ts.map Ti.D) (Ϗ []) c=Y (ϒ$ decide$ a.m.ts=[]) c:=λc=>by
  cases a.m.ts with
  |nil=>exact vw rfl
  |cons t ts=>exact vw (b:=İ) rfl
 have ϊ:d % 4=0\/d % 4=1\/d % 4=2\/d % 4=3:=by omega
 have H:∀ c,Fi (Z d) (Z 4) c=Y (Z$ d % 4) c:=λc=>yB _ _ ⋯;have s:d % 4≠0->d % 4≠1->a.m.ts≠[]->xu [O b,Z a.p,Z d] B=Y ((if d % 2=0 then Wi.vf (SA a d)else .drop (SA a d)).D a.p) B:=λX ό g=>by
  have hl:0<a.m.ts.length:=Ui.mpr g;have ϋ:∀ c,Il [Ϗ$ a.m.ts.map Ti.D] c=Y (Z a.m.ts.length) c:=λc=>by unfold Il;simp[pi]
  have M:∀ c,Fi (Z$ d / 4) (Z a.m.ts.length) c=Y (Z$ d / 4 % a.m.ts.length) c:=λc=>yB _ _ ⋯;have lo:=Fx (d / 4) (show (a.m.ts.length:Int)≠0 by omega);have hi:=Vt (d / 4) (show (0:Int)<a.m.ts.length by omega);obtain⟨t,I⟩:∃ t,a.m.ts[(d / 4 % a.m.ts.length).toNat]?=BD t:=⟨_,Db ⋯⟩
  have L:∀ c,Nb (Ϗ$ a.m.ts.map Ti.D) (Z$ d / 4 % a.m.ts.length) c=Y t.D c:=λc=>by
   have e:d / 4 % (a.m.ts.length:Int)=((d / 4 % a.m.ts.length).toNat:Nat):=by omega
   rw[e];exact dA$ Qo (by rw[Ja,I];rfl)
  have P:=GG t;have S:SA a d=t.w:=by unfold SA;rw[I];rfl
  have R:decide (a.m.ts=[])=İ:=Xa g;rw[R]at f;have F:(d % 4 == 0)=İ:=by simp[X]
  have G:(d % 4 == 1)=İ:=by simp[ό]
  rw[S];generalize a.m.ts.map Ti.D=TS,a.m.D=Q at *;rcases(show d % 2=0\/d % 2=1 by omega)with q|q
  ·rw[ka q];unfold xu VA DA nB cA vA sA jA Wi.D Dc;simp[i,y,j,l,r,E,o,A,u,H,F,G,f,ϋ,M,L,P,q]
  ·rw[ua ⋯];unfold xu VA DA nB cA vA sA jA Wi.D Dc;simp[i,y,j,l,r,E,o,A,u,H,F,G,f,ϋ,M,L,P,q]
 unfold vB;rcases ϊ with q|q|q|q
 ·rw[ka q];unfold xu VA DA nB cA vA sA jA Wi.D Dc;simp[i,y,j,l,r,o,A,u,q,bA]
 ·rw[ua ⋯,ka$ ϑ q];unfold xu VA DA nB cA vA sA jA Wi.D Dc;simp[i,y,j,l,r,o,A,u,q,bA]
 all_goals
  rw[ua ⋯];by_cases g:a.m.ts=[]
  ·rw[ka$ ϖ g];rw[Eb g]at f;generalize a.m.ts.map Ti.D=TS,a.m.D=Q at *;unfold xu VA DA nB cA vA sA jA Wi.D Dc;simp[i,y,j,l,r,E,o,A,u,q,bA,f]
  ·rw[ua (λz=>z.elim (λz=>by omega) g)];exact s ⋯ ⋯ g
noncomputable def VM(a:gV)(k:Nat):Int:=a.getD k 0
def Ē a k(c:0<=k) b:iG [ϯ a,Z k] b=Y (Z$ VM a k.toNat) b:=by
 unfold iG VM Dc;by_cases h:k<a.length
 ·simp[h,OQ c h]
 ·have e:a.length<=k.toNat:=by omega
  simp[h,ni e]
def ZN a:Ap (Z 10) (Z 20) a=Y (Z 100000000000000000000) a:=bz (by simp[uu])
def EM a:Ap (Z 5040) (Z 6) a=Y (Z 16390160963076096000000) a:=bz (by simp[uu])
def dZ c k:∃ v:Int,∀ a,TD [Z c,Z k] a=Y (Z v) a:=by
 have d:∀ z y:Int,dt (z % 2147483647) y=G6:=λz y=>CT ⋯ ⋯;have e:∀ z:Int,dt z 48271=G6:=λz=>oP ⋯ ⋯;have f:dt 7919 k=G6:=CT ⋯ ⋯;have g:∀ z y:Int,dt y (z % 2147483629)=G6:=λz y=>oP ⋯ ⋯;have b:=λ(z:Int) (a:Ha)=>yB (σ:=a) z (10 ^ 40) ⋯;by_cases h:c % 2=1
 ·exact⟨_,λa=>by unfold TD eF QH MF MG sF bG ZF gJ Dc;simp[h,lN,d,e,f,g,b,ZN,EM];rfl⟩
 ·have i:(c % 2 == 1)=İ:=by simpa using h
  cases j:decide (100000000000000000000<=c / 2 % 10000000000000000000000000000000000000000)with
  |true=>exact⟨_,λa=>by unfold TD eF QH MF MG sF bG ZF gJ Dc;simp[i,j,lN,d,e,f,g,b,ZN,EM];rfl⟩
  |false=>exact⟨_,λa=>by unfold TD eF QH MF MG sF bG ZF gJ Dc;simp[i,j,lN,d,e,f,g,b,ZN,EM];rfl⟩
def Yb{a:Type}(f:Nat->a)(i:Nat)(x:a):Nat->a:=λj=>if j=i then x else f j
theorem El{a} f i(x:a):Yb f i x i=x:=ka rfl
def Of{a} f{i j}(x:a)(h:j≠i):Yb f i x j=f j:=ua h
structure Ly(ba pa:Nat->Nat):Prop where
 s:∀ i,i<6->∀ j,j<6->i≠j->ba i+5<ba j\/ba j+5<ba i
 d:∀ i,i<10->∀ j,j<6->pa i<ba j\/ba j+5<pa i
 n:∀ i,i<10->∀ j,j<10->i≠j->pa i≠pa j
structure Wd(ba pa:Nat->Nat)(kz:Nat->Ks)(po:Nat->Ob)(σ:Ha):Prop where
 k:∀ i,i<6->Dh (ba i) (kz i) σ
 p:∀ i,i<10->σ[pa i]?=BD (po i)
def z9:Ob->Prop
 | ϐ _=>True
 | ϡ _=>True
 |_=>False
section
variable{ba pa:Nat->Nat}(ly:Ly ba pa){kz:Nat->Ks}{po:Nat->Ob}{σ:Ha}(w:Wd ba pa kz po σ)
include w
theorem Wd.app j:Wd ba pa kz po$ σ++j:=⟨λi a=>(w.k i a).app j,λi a=>nl$ w.p i a⟩
include ly
theorem Wd.ef{i}(c:i<6){z}{a}(h:Dh (ba i) z a)(f:Fr (ba i) σ a):Wd ba pa (Yb kz i z) po a:=by
 refine⟨λj b=>?_,λj b=>f _ _ (ly.d j b i c)$ w.p j b⟩;by_cases e:j=i
 ·subst e;rw[El];exact h
 ·rw[Of _ _ e];exact(w.k j b).keep (w.k i c) (ly.s i c j b λz=>e z.symm) f
theorem Wd.set{i}(b:i<10)(c:z9$ po i) x:Wd ba pa kz (Yb po i x)$ σ.set (pa i) x:=by
 refine⟨λj a=>(w.k j a).set (w.p i b) ?_ x,λj a=>?_⟩
 ·cases h:po i with
  |ra xs=>simp
  |nc T=>simp_all
  |_=>rw[h]at c;exact c.elim
 ·by_cases e:j=i
  ·subst e;rw[El];exact EF$ w.p j a
  ·rw[Of _ _ e];exact Mh (ly.n i b j a λz=>e z.symm)$ w.p j a
end
structure St(T:Int->Int)(N:Nat)(c:Nat->Int)(ba pa:Nat->Nat)(kz:Nat->Ks)(po:Nat->Ob)(rd:B'):Prop where
 i1:SI T N 1 (kz 0)
 i2:SI T N 2 (kz 1)
 e1:kz 2=kz 0
 e2:kz 3=kz 1
 p0:po 0=ϓ 16 (Gv (pa 0) (pa 1) (pa 2) (pa 3) (PL c))
 p1:po 1=ώ [(.inl 1,O (ba 0)),(.inl 2,O (ba 1))]
 p2:po 2=ϐ rd
 p3:∃ U,po 3=ϡ U/\U.length<=20+2 * N
 p4:po 4=ώ [(.inl 1,O (ba 2)),(.inl 2,O (ba 3))]
 p5:po 5=ϐ rd
 r:∀ y∈rd,∃ h X,y=Ϗ [Z h,X]/\Ro T N h X
 l:rd.length<=2 * N
def Ro.up{T}{N}{h}{X}(r:Ro T N h X):Ro T (N+1) h X:=by
 cases r with
 |ask a=>exact .ask a
 |acc hm a=>exact .acc hm a
 |off a=>exact .off a
 |vj c=>exact .vj c
 |wd b hw=>exact .wd b hw
def Ro.h{T}{N}{h}{X}(r:Ro T N h X):h=1\/h=2:=by
 cases r with
 |ask|acc=>simp_all
 |off|vj=>simp_all
 |wd a _=>exact a
theorem Ro.i1{T}{N}{h}{X}(r:Ro T N h X) a:Nb X (Z 1) a=Y (Z 0) a:=by
 cases r with
 |ask=>rfl
 |acc=>rfl
 |off=>rfl
 |vj=>rfl
 |wd=>rfl
theorem Ro.cl{T}{N}{h}{X}(r:Ro T N h X):L4.cl X=G6:=by
 cases r with
 |ask=>exact L0 ..
 |acc=>exact ð ..
 |off=>exact m8 ..
 |vj=>rfl
 |wd=>rfl
section
variable{T:Int->Int}{N:Nat}{c:Nat->Int}{ba pa:Nat->Nat}{kz:Nat->Ks}{po:Nat->Ob}{rd:B'}{σ:Ha}(w:Wd ba pa kz po σ)
include w
theorem St.ha(s:St T N c ba pa kz po rd):HA (pa 0) (pa 1) (pa 2) (pa 3) (ba 0) (ba 1) (PL c) (20+2 * N) rd σ:=by
 obtain⟨U,e,l⟩:=s.p3;exact⟨s.p0 ▸ w.p 0 ⋯,s.p1 ▸ w.p 1 ⋯,s.p2 ▸ w.p 2 ⋯,U,e ▸ w.p 3 ⋯,l⟩
end
def Ly.ad{c b}(a:Ly c b):Ad (b 0) (b 1) (b 2)$ b 3:=⟨⟨a.n 2 ⋯ 0 ⋯ ⋯,a.n 2 ⋯ 1 ⋯ ⋯,a.n 2 ⋯ 3 ⋯ ⋯⟩,a.n 3 ⋯ 0 ⋯ ⋯,a.n 3 ⋯ 1 ⋯ ⋯,a.n 3 ⋯ 2 ⋯ ⋯⟩
def IP{a}{n}{x}{xs b}(h:a[n]?=BD (ϐ xs))(t:uf a x=BD b)(c:xs.length+b.length<1000):Xq (O n) [x] a=Y Ϛ (a.set n$ ϐ$ xs++b):=by
 have:jf a n=BD xs:=by unfold jf;simp[h]
 unfold Xq;simp only[this,t];rw[ka (show xs.length+b.length<=lg by unfold lg;lia)]
def dP{g:Type}{xs:List g}{c}{s}{ix}{b}{e}{f a} v y(m:c e f=Y s a)(l:∀ i j,s.nx i (a++j)=BD ((xs[i]?).map v))(k:xs.length<=1000)(d:∀ x∈xs,∀ j,b (BD (v x)::Α::(ix.map λi=>(e[i]?).getD Α)) (a++j)=Y (y x) (a++j)):xj (zm c) ix (ud 0) Yj b e f=Y (O a.length) (a++[ϐ$ xs.map y]):=by
 show Rc (Rc _ JE) _ f=_;rw[tj,tj,m,Sd];show Rc (di s.nx a.length _ Yj b 1001 0$ Α::Α::(ix.map λi=>(e[i]?).getD Α)) _ _=_;rw[tj,uF _ v v _ _ y (λi j q=>l i j) (λx o p h=>by subst h;exact⟨rfl,rfl⟩) (λx n j=>⟨rfl,λq=>d x n j⟩) k 1001 0 Α Α [] rfl ⋯ ⋯ ⋯,Sd];have b:List.filter _ xs=xs:=Ag.mpr λq q=>rfl;simp[b]
theorem Œ{a}{n}{xs}(h:a[n]?=BD (ϐ xs)):wh (O n) (ύ []) a=Y (ϒ xs.isEmpty) a:=by
 refine vw ?_;have b:L4.kd a (O n)=.l xs:=by unfold L4.kd jf;simp[h]
 show Vo _ _ _=_;rw[b];cases xs<;>rfl
def uq(c a:Nat->Ks)(d b:Nat->Ob):Prop:=(∀ j,4<=j->a j=c j)/\∀ j,6<=j->b j=d j
def wO{T}{N}{c}{g p}{l d}{q b}{rd a}(s:St T N c g p l q rd){i}(B:i<2){z}(I:SI T (N+1) (i+1:Nat) z)(t:d=Yb (Yb l (2+i) z) i z)(m:b 2=ϐ a)(o:b 5=ϐ a)(n:∃ U,b 3=ϡ U/\U.length<=20+2 * (N+1))(A:∀ j,j≠2->j≠5->j≠3->b j=q j)(x:∀ y∈a,y∈rd\/∃ h X,y=Ϗ [Z h,X]/\Ro T (N+1) h X)(k:a.length<=2 * (N+1)):St T (N+1) c g p d b a:=by
 have r:∀ y∈a,∃ h X,y=Ϗ [Z h,X]/\Ro T _ h X:=λy f=>by
  rcases x y f with f|h
  ·obtain⟨h,X,e,r⟩:=s.r y f;exact⟨h,X,e,r.up⟩
  ·exact h
 have P:=λj u w v=>A j u w v;subst t;rcases(show i=0\/i=1 by lia)with rfl|rfl
 ·exact⟨by rw[El];exact I,by rw[Of _ _ ⋯,Of _ _ ⋯];exact s.i2.up,by rw[Of _ _ ⋯,El,El],by rw[Of _ _ ⋯,Of _ _ ⋯,Of _ _ ⋯,Of _ _ ⋯];exact s.e2,(P 0 ⋯ ⋯$ by omega).trans s.p0,(P 1 ⋯ ⋯$ by omega).trans s.p1,m,n,(P 4 ⋯ ⋯$ by omega).trans s.p4,o,r,k⟩
 ·exact⟨by rw[Of _ _ ⋯,Of _ _ ⋯];exact s.i1.up,by rw[El];exact I,by rw[Of _ _ ⋯,Of _ _ ⋯,Of _ _ ⋯,Of _ _ ⋯];exact s.e1,by rw[Of _ _ ⋯,El,El],(P 0 ⋯ ⋯$ by omega).trans s.p0,(P 1 ⋯ ⋯$ by omega).trans s.p1,m,n,(P 4 ⋯ ⋯$ by omega).trans s.p4,o,r,k⟩
noncomputable abbrev dE(h td b:Nat)(d a p:Int)(r:Ev):Ev:=BD (O h)::BD (O td)::BD (O b)::BD (Z d)::BD (Z a)::BD (Z p)::r
def Fq{b a}{h}{d}{g}{c}{rd}{f}(w:Wd b a h d g)(i:d 0=ϓ 16 (Gv (a 0) (a 1) (a 2) (a 3)$ PL c))(j:d 1=ώ [(.inl 1,O (b 0)),(.inl 2,O (b 1))])(k:d 2=ϐ rd)(m:∃ U,d 3=ϡ U/\U.length<=f):HA (a 0) (a 1) (a 2) (a 3) (b 0) (b 1) (PL c) f rd g:=by
 obtain⟨U,e,l⟩:=m;exact⟨i ▸ w.p 0 ⋯,j ▸ w.p 1 ⋯,k ▸ w.p 2 ⋯,U,e ▸ w.p 3 ⋯,l⟩
section
variable{T:Int->Int}(hT:∀ p,T p<=2000000000000){N:Nat}(hN:N<=33){c:Nat->Int}{ba pa:Nat->Nat}(ly:Ly ba pa){kz:Nat->Ks}{po:Nat->Ob}{rd:B'}{σ:Ha}(w:Wd ba pa kz po σ)(s:St T N c ba pa kz po rd)
include w s
theorem St.tw{i}(a:i<2):Lh (O$ pa 4) (Z (i+1:Nat)) σ=Y (O$ ba$ 2+i) σ:=Qv (s.p4 ▸ w.p 4 ⋯) (by rcases(show i=0\/i=1 by lia)with rfl|rfl<;>rfl)
theorem St.ez{i}(a:i<2):kz (2+i)=kz i/\SI T N (i+1:Nat) (kz i):=by
 rcases(show i=0\/i=1 by lia)with rfl|rfl
 ·exact⟨s.e1,s.i1⟩
 ·exact⟨s.e2,s.i2⟩
include hT hN ly
theorem Ķ{i}(hi:i<2){a}(P:a∈(kz i).A)(K:a.p=0\/a.p=1/\i=1) d r ϊ x7 x8:∃ z B a4 M,(Qb Xy$ Qb Vy$ Qb Dy wy) (dE (pa 0) (pa 4) (pa 5) d (i+1:Nat) a.p$ ϊ::x7::x8::r) σ=Y (ϭ$ ϒ G6) M/\Wd ba pa z B M/\St T (N+1) c ba pa z B a4/\uq kz z po B:=by
 obtain⟨ez,I⟩:=s.ez w hi;have hh:((i+1:Nat):Int)=1\/((i+1:Nat):Int)=2:=by lia
 have tw:=s.tw w hi;have S:=w.k (2+i) ⋯;rw[ez]at S;have W:xu [O$ ba$ 2+i,Z a.p,Z$ d / 16] σ=Y ((vB a$ d / 16).D a.p) σ:=by
  apply b_;intro z_;obtain⟨k,hk,he,e⟩:=S;have hA:=I.a a P;rw[<-e]at P;obtain⟨x,hx,rfl⟩:=wa.mp P;apply z_;exact UZ hk hx hA _
 obtain⟨t,R,z',E,I',a7,ϋ⟩:=ζ hT ⋯ I P (oZ a$ d / 16);obtain⟨b,f1,a1,a0⟩:=E _ _ S;have mw:=λn=>S.Ip (m:="wish") 2 Er n rfl;have C:=w.ef ly (show 2+i<6 by omega) a1 a0;generalize (vB a$ d / 16).D a.p=X at *;have n1:Yb kz (2+i) z' i=kz i:=Of _ _ ⋯;have hb:((i+1:Nat):Int)=1/\ba i=ba 0\/((i+1:Nat):Int)=2/\ba i=ba 1:=by
  rcases(show i=0\/i=1 by omega)with rfl|rfl
  ·exact ϑ ⟨rfl,rfl⟩
  ·exact ϖ ⟨rfl,rfl⟩
 have l5:=s.l;have bb:∀ τ:Ha,wh (ϒ t) (ϒ t) τ=Y (ϒ G6) τ:=λτ=>by cases t<;>exact vw rfl
 have mp:∀ hd:Int,∀ ό:D,Ϗ [Z$ 3 - hd,ό]=li hd ό:=λy y=>rfl;rcases K with K|⟨K,rfl⟩
 ·rw[K]at W ϋ ⊢;have f:∀ ό∈R,Ro T (N+1) (3 - (i+1:Nat)) ό:=λό o=>by
   rcases ϋ ό o with⟨_,h⟩|⟨h,_⟩
   ·exact h
   ·omega
  have r0:b[pa 5]?=BD (ϐ rd):=s.p5 ▸ C.p 5 ⋯;have lc:∀ ϊ,xj (zm$ bi$ Aa 8) [4] (ud 0) Yj (Eh$ Ra (qb VD (eC$ Z 3)$ Aa 2)$ Ra (Aa 0) Bb) (dE (pa 0) (pa 4) (pa 5) d (i+1:Nat) 0$ ϊ::BD (ϒ t)::BD (ύ R)::r) b=Y (O b.length) (b++[ϐ$ R.map$ li (i+1:Nat)]):=λϊ=>dP (s:=.seq R) (ix:=[4]) (λό=>ό) (li (i+1:Nat)) (by simp[Sz]) (λj y=>by simp[Kh.nx]) ⋯ (λό y j=>by simp[mp]);have C:=C.app [ϐ$ R.map$ li (i+1:Nat)];have a2:uf (b++[ϐ$ R.map$ li (i+1:Nat)]) (O b.length)=BD (R.map$ li (i+1:Nat)):=by simp[uf,jf]
  have me:=λn=>jz r0 Xq n;have ex:=IP (nl (j:=[ϐ$ R.map$ li (i+1:Nat)]) r0) a2 (by simp;omega);generalize a8:b++[ϐ$ R.map$ li (i+1:Nat)]=a6 at *;have w2:=C.set ly (i:=5) ⋯ (by rw[s.p5];trivial)$ ϐ$ rd++R.map (li (i+1:Nat));have v:=w2.k i ⋯;rw[n1]at v;obtain⟨F,f3,a3,g⟩:=E _ _ v;have L:=w2.ef ly (show i<6 by omega) a3 g;have q:∀ j,j≠5->Yb po 5 (ϐ$ rd++R.map (li (i+1:Nat))) j=po j:=λj J=>Of _ _ J;have G:=Fq (rd:=rd) w2 ((q 0$ by omega).trans s.p0) ((q 1$ by omega).trans s.p1) ((q 2$ by omega).trans s.p2) (by rw[q 3 ⋯];exact s.p3);have H:=Fq (rd:=rd) L ((q 0$ by omega).trans s.p0) ((q 1$ by omega).trans s.p1) ((q 2$ by omega).trans s.p2) (by rw[q 3 ⋯];exact s.p3);have sd:=vN ly.ad hh (λό o σ=>(f ό o).i1 σ) ⋯ H;have Q:=bX G hb v f3 H sd;have mh:=λn=>wm G (x:="wish") 3 qB n rfl;have w4:=L.set ly (i:=2) ⋯ (by rw[q 2 ⋯,s.p2];trivial)$ ϐ$ rd++R.map (li (i+1:Nat));refine⟨_,_,rd++R.map (li (i+1:Nat)),_,?_,w4,?_,?_⟩
  ·generalize (i+1:Nat)=hd at *;generalize a6.set (pa 5) _=a9 at *;generalize F.set (pa 2) _=a5 at *;unfold Xy Vy Dy wy;simp[tw,W,mw,f1,lc,me,ex,mh,Q,bb]
  ·refine wO s hi I' rfl (by rw[El]) (by rw[Of _ _ ⋯,El]) (by obtain⟨U,e,l⟩:=s.p3;exact⟨U,by rw[Of _ _ ⋯,q 3 ⋯];exact e,by omega⟩) (λj h2 h5 h3=>by rw[Of _ _ h2,q j h5]) (λy u=>?_) (by simp;omega);rcases jc.mp u with u|u
   ·exact ϑ u
   ·obtain⟨ό,o,rfl⟩:=wa.mp u;exact ϖ ⟨_,ό,rfl,f ό o⟩
  ·exact⟨λj J=>by rw[Of _ _ ⋯,Of _ _ ⋯],λj J=>by rw[Of _ _ ⋯,q j ⋯]⟩
 ·rw[K]at W ϋ ⊢;have f:∀ ό∈R,Bl T ό:=λό o=>by
   rcases ϋ ό o with⟨h,_⟩|⟨_,h⟩
   ·omega
   ·exact h
  apply b_;intro z_;have v:=C.k 1 ⋯;rw[n1]at v;obtain⟨F,f3,a3,g⟩:=E _ _ v;have L:=C.ef ly (show 1<6 by omega) a3 g;have G:=Fq (rd:=rd) C s.p0 s.p1 s.p2 s.p3;have H:=Fq (rd:=rd) L s.p0 s.p1 s.p2 s.p3;obtain⟨U,sd,hU⟩:=V5 ly.ad f ⋯ H;have Q:=bX G hb v f3 H sd;have w4:=L.set ly (i:=3) ⋯ (by obtain⟨V,e,_⟩:=s.p3;rw[e];trivial)$ ϡ U;apply z_;refine⟨_,_,rd,_,?_,w4,?_,?_⟩
  ·generalize F.set (pa 3) _=a5 at *;rw[show ((1+1:Nat):Int)=2 from rfl]at tw Q ⊢;unfold Xy Vy Dy wy;simp[tw,W,mw,f1,(λn=>wm G (x:="wish") 3 qB n rfl),Q,bb]
  ·exact wO s (i:=1) ⋯ I' rfl (by rw[Of _ _ ⋯];exact s.p2) (by rw[Of _ _ ⋯];exact s.p5) ⟨U,El ..,by omega⟩ (λj h2 h5 h3=>Of _ _ h3) (λy u=>ϑ u) ⋯
  ·exact⟨λj J=>by rw[Of _ _ ⋯,Of _ _ ⋯],λj J=>Of _ _ ⋯⟩
end
def lU{a}{n i:Nat}{xs}{y}(h:a[n]?=BD (ϐ xs))(b:i<1000)(e:xs[i]?=BD y):Lq (O n) [Z i] a=Y y (a.set n$ ϐ$ xs.take i++xs.drop (i+1)):=by
 have:jf a n=BD xs:=by unfold jf;simp[h]
 unfold Lq;simp[this];rw[ka ⋯];simp[e]
noncomputable abbrev dF(h td a:Nat)(d:Int)(b c e f g:Option D)(k:Int)(r:Ev):Ev:=BD (O h)::BD (O td)::BD (O a)::BD (Z d)::b::c::e::f::g::BD (Z k)::r
def cV{a:Type}{xs:List a}{i}{y}(h:y∈xs.take i++xs.drop (i+1)):y∈xs:=by
 rcases jc.mp h with h|h
 ·exact Aq h
 ·exact List.mem_of_mem_drop h
def qX{a:Type}(xs:List a) i:(xs.take i++xs.drop (i+1)).length<=xs.length:=by
 simp;omega
section
variable{T:Int->Int}{N:Nat}(hN:N<=33){c:Nat->Int}{ba pa:Nat->Nat}(ly:Ly ba pa){kz:Nat->Ks}{po:Nat->Ob}{rd:B'}{σ:Ha}(w:Wd ba pa kz po σ)(s:St T N c ba pa kz po rd)
include w s hN ly
theorem Ĵ{i:Nat}{y}(e:rd[i]?=BD y){d}(v:d % 8=3) K B C E F G r:∃ a b f,(Qb Rv K) (dF (pa 0) (pa 4) (pa 5) d B C E F G i r) σ=Y (ϭ$ ϒ G6) f/\Wd ba pa kz a f/\St T (N+1) c ba pa kz a b/\uq kz kz po a:=by
 have I:=(da.mp e).1;have l:=s.l;have r0:σ[pa 5]?=BD (ϐ rd):=s.p5 ▸ w.p 5 ⋯;have k:=lU r0 ⋯ e;have t:=w.set ly (i:=5) ⋯ (by rw[s.p5];trivial)$ ϐ$ rd.take i++rd.drop (i+1);have q:∀ j,j≠5->Yb po 5 (ϐ$ rd.take i++rd.drop (i+1)) j=po j:=λj o=>Of _ _ o;have n:=Fq (rd:=rd) t ((q 0$ by omega).trans s.p0) ((q 1$ by omega).trans s.p1) ((q 2$ by omega).trans s.p2) (by rw[q 3 ⋯];exact s.p3);have lo:=i5 n e ⋯;have A:=t.set ly (i:=2) ⋯ (by rw[q 2 ⋯,s.p2];trivial)$ ϐ$ rd.take i++rd.drop (i+1);have cl:=qX rd i;refine⟨_,rd.take i++rd.drop (i+1),_,?_,A,?_,λj D=>rfl,λj o=>by rw[Of _ _ ⋯,q j ⋯]⟩
 ·generalize rd.take i++rd.drop _=b at *;generalize σ.set (pa 5) _=m at *;generalize m.set (pa 2) _=H at *;unfold Rv OE;simp[v,(λg=>jz r0 Lq g),k,(λg=>wm n (x:="lose") 2 iD g rfl),lo]
 ·apply b_;intro z_;obtain⟨U,u,J⟩:=s.p3;apply z_;exact⟨s.i1.up,s.i2.up,s.e1,s.e2,by rw[Of _ _ ⋯,q 0 ⋯];exact s.p0,by rw[Of _ _ ⋯,q 1 ⋯];exact s.p1,El ..,⟨U,by rw[Of _ _ ⋯,q 3 ⋯];exact u,by omega⟩,by rw[Of _ _ ⋯,q 4 ⋯];exact s.p4,by rw[Of _ _ ⋯,El],λy z=>by obtain⟨h,X,e,r⟩:=s.r y (cV z);exact⟨h,X,e,r.up⟩,by omega⟩
end
def F2{b} f{i j}(x y:b)(h:i≠j):Yb (Yb f i x) j y=Yb (Yb f j y) i x:=by
 funext k;unfold Yb;by_cases a:k=j
 ·subst a;rw[ka rfl,ua λz=>h z.symm,ka rfl]
 simp_all
noncomputable abbrev dG(h td a:Nat)(d:Int)(c e f g i j:Option D)(b:Int)(X:D)(r:Ev):Ev:=BD (O h)::BD (O td)::BD (O a)::BD (Z d)::c::e::f::g::i::j::BD (Z b)::BD X::BD Ϛ::r
section
variable{T:Int->Int}{N:Nat}(hN:N<=33){c:Nat->Int}{ba pa:Nat->Nat}(ly:Ly ba pa){kz:Nat->Ks}{po po2:Nat->Ob}{rd rd0:B'}{σ:Ha}(s:St T N c ba pa kz po rd)
include hN ly s
theorem xX{j}(hj:j<2){X}{R}{F}(E:∀ b σ,Dh b (kz j) σ->Ef b σ (Ei [O b,X]) (ύ R) F)(P:SI T (N+1) (j+1:Nat) F)(a0:R.length<=2)(ϊ:∀ ό∈R,Ro T (N+1) (3 - (j+1:Nat)) ό)(w:Wd ba pa (Yb kz j F) po2 σ)(W:po2 2=ϐ (rd0++R.map (li (j+1:Nat))))(z:po2 5=ϐ rd0)(u:∀ k,k≠2->k≠5->po2 k=po k)(G:rd0.length<=rd.length/\∀ y∈rd0,y∈rd) d I J K L M ϋ r:∃ g h C o,(Qb pz$ Qb oz rz) (dG (pa 0) (pa 4) (pa 5) d I J K L M ϋ (j+1:Nat) X r) σ=Y (ϭ$ ϒ G6) o/\Wd ba pa g h o/\St T (N+1) c ba pa g h C/\uq kz g po h:=by
 have l:=s.l;have S:kz (2+j)=kz j:=by
  rcases(show j=0\/j=1 by lia)with rfl|rfl
  ·exact s.e1
  ·exact s.e2
 have tw:Lh _ (Z (j+1:Nat)) σ=Y (O$ ba$ 2+j) σ:=Qv (((u 4 ⋯$ by omega).trans s.p4) ▸ w.p 4 ⋯) (by rcases(show j=0\/j=1 by omega)with rfl|rfl<;>rfl);have A:=w.k (2+j) ⋯;rw[Of _ _ ⋯,S]at A;obtain⟨f,V,Q,v⟩:=E _ _ A;have H:=w.ef ly (show 2+j<6 by omega) Q v;have r0:σ[pa 5]?=BD (ϐ rd0):=z ▸ w.p 5 ⋯;have r3:f[pa 5]?=BD (ϐ rd0):=z ▸ H.p 5 ⋯;have me:=λx=>jz r0 Xq x;have mp:∀ t:Int,∀ ό:D,Ϗ [Z$ 3 - t,ό]=li t ό:=λ_ _=>rfl;have sq:∀ q,Uv (ύ R) q=Y (.seq R) q:=λq=>Sz _;have lc:xj (zm$ bi$ Pf [(15,Ei)] 2 "take" (qb Lh (Aa 1)$ Aa 10)$ Ra (Aa 11) Bb) [10] (ud 0) Yj (Eh$ Ra (qb VD (eC$ Z 3)$ Aa 2)$ Ra (Aa 0) Bb) (dG (pa 0) (pa 4) (pa 5) d I J K L M ϋ (j+1:Nat) X r) σ=Y (O f.length) (f++[ϐ$ R.map$ li (j+1:Nat)]):=dP (s:=.seq R) (ix:=[10]) (λό=>ό) (li (j+1:Nat)) (by generalize (j+1:Nat)=t at *;simp[tw,(λx=>A.Ip (m:="take") 2 Ei x rfl),V,sq]) (λj _=>by simp[Kh.nx]) ⋯ (λό _ j=>by simp[mp]);have B:uf (f++[ϐ$ R.map$ li (j+1:Nat)]) (O f.length)=BD (R.map$ li (j+1:Nat)):=by simp[uf,jf]
 have ex:=IP (nl (j:=[ϐ$ R.map$ li (j+1:Nat)]) r3) B (by simp;omega);have w4:=(H.app [ϐ$ R.map$ li (j+1:Nat)]).set ly (i:=5) ⋯ (by rw[z];trivial)$ ϐ$ rd0++R.map (li (j+1:Nat));refine⟨_,_,rd0++R.map (li (j+1:Nat)),_,?_,w4,?_,?_⟩
 ·generalize (f++[ϐ$ R.map$ li (j+1:Nat)])=q at *;generalize q.set (pa 5) _=a1 at *;generalize (j+1:Nat)=t at *;unfold pz oz rz;simp[lc,me,ex]
 ·refine wO s hj P (F2 _ _ _$ by omega) (by rw[Of _ _ ⋯];exact W) (El ..) (by obtain⟨U,e,l⟩:=s.p3;exact⟨U,by rw[Of _ _ ⋯,u 3 ⋯ ⋯];exact e,by omega⟩) (λk a b _=>by rw[Of _ _ b,u k a b]) (λy n=>?_) (by have:=G.1;simp;omega);rcases jc.mp n with n|n
  ·exact ϑ$ G.2 y n
  ·obtain⟨ό,hY,rfl⟩:=wa.mp n;exact ϖ ⟨_,ό,rfl,ϊ ό hY⟩
 ·exact⟨λk hk=>by rw[Of _ _ ⋯,Of _ _ ⋯],λk hk=>by rw[Of _ _ ⋯,u k ⋯ ⋯]⟩
end
abbrev E7:Ev->M Fl:=(rh (eT$ qb wh (qb Fi (Aa 3)$ eC$ Z 8)$ eC$ Z 4) nM$ Qb TJ OE)
section
variable{T:Int->Int}{N:Nat}(hN:N<=33){c:Nat->Int}{ba pa:Nat->Nat}(ly:Ly ba pa){kz:Nat->Ks}{po:Nat->Ob}{rd:B'}{σ:Ha}(w:Wd ba pa kz po σ)(s:St T N c ba pa kz po rd)
include w s hN ly
theorem Å{i:Nat}{y}(e:rd[i]?=BD y){d}(P:d % 8≠3) x4 x5 x6 x7 x8 ϊ a0 a2:∃ f g n m,(Qb Rv$ Qb Wy$ Qb Ay$ Qb E7$ Qb pz$ Qb oz rz) (dF (pa 0) (pa 4) (pa 5) d x4 x5 x6 x7 x8 i [ϊ,a0,a2]) σ=Y (ϭ$ ϒ G6) m/\Wd ba pa f g m/\St T (N+1) c ba pa f g n/\uq kz f po g:=by
 have hi:=(da.mp e).1;have l:=s.l;obtain⟨h,X,rfl,ro⟩:=s.r y (Da e);obtain⟨j,Q,rfl⟩:∃ j:Nat,j<2/\h=(j+1:Nat):=by
  rcases ro.h with rfl|rfl
  ·exact⟨0,by omega,rfl⟩
  ·exact⟨1,by omega,rfl⟩
 apply b_;intro z_;obtain⟨_,I⟩:=s.ez w Q;obtain⟨R,z',E,I',v,C⟩:=Y2 ⋯ I ro ⋯;have hh:((j+1:Nat):Int)=1\/((j+1:Nat):Int)=2:=by omega
 apply z_;have hb:((j+1:Nat):Int)=1/\ba j=ba 0\/((j+1:Nat):Int)=2/\ba j=ba 1:=by
  rcases(show j=0\/j=1 by omega)with rfl|rfl
  ·exact ϑ ⟨rfl,rfl⟩
  ·exact ϖ ⟨rfl,rfl⟩
 have H:=Fq (rd:=rd) w s.p0 s.p1 s.p2 s.p3;have r0:σ[pa 5]?=BD (ϐ rd):=s.p5 ▸ w.p 5 ⋯;have ix:Nb (O$ pa 5) (Z i) σ=Y (Ϗ [Z (j+1:Nat),X]) σ:=uL r0$ Qo e;have U:=λu=>wm H (x:="deliver") 2 (λds=>Ec$ ds++[ϒ İ]) u rfl;by_cases h4:d % 8=4
 ·apply b_;intro z_;have z:=w.k j ⋯;obtain⟨o,M,J,t⟩:=E _ _ z;have A:=w.ef ly (show j<6 by omega) J t;have G:=Fq (rd:=rd) A s.p0 s.p1 s.p2 s.p3;have V:=vN ly.ad hh (λό ϋ σ=>(C ό ϋ).i1 σ) ⋯ G;have S:=LU H hb z M V;have K:=r6 H e ⋯ S;have F:=A.set ly (i:=2) ⋯ (by rw[s.p2];trivial)$ ϐ$ rd++R.map (li (j+1:Nat));obtain⟨f,g,n,m,L,r⟩:=xX hN ly s Q E I' v C F (El ..) (by rw[Of _ _ ⋯];exact s.p5) (λk a D=>Of _ _ a) ⟨ya _,λD h=>h⟩ d x4 x5 x6 x7 x8 (BD$ Z i) [];apply z_;refine⟨f,g,n,m,?_,r⟩;generalize o.set (pa 2) _=B at *;generalize (j+1:Nat)=P at *;rw[<-L];unfold Rv Wy Ay E7 nM;simp[h4,ix,(λu=>wm H (x:="deliver") 3 Ec u rfl),K]
 ·have W:=w.set ly (i:=2) ⋯ (by rw[s.p2];trivial)$ ϐ$ rd.take i++rd.drop (i+1);have z:=W.k j ⋯;obtain⟨o,M,J,t⟩:=E _ _ z;have A:=W.ef ly (show j<6 by omega) J t;have q:∀ k,k≠2->Yb po 2 (ϐ$ rd.take i++rd.drop (i+1)) k=po k:=λk hk=>Of _ _ hk;have H0:=Fq (rd:=rd.take i++rd.drop (i+1)) W ((q 0$ by omega).trans s.p0) ((q 1$ by omega).trans s.p1) (El ..) (by rw[q 3 ⋯];exact s.p3);have G:=Fq (rd:=rd.take i++rd.drop (i+1)) A ((q 0$ by omega).trans s.p0) ((q 1$ by omega).trans s.p1) (El ..) (by rw[q 3 ⋯];exact s.p3);have cl:=qX rd i;have V:=vN ly.ad hh (λό ϋ σ=>(C ό ϋ).i1 σ) ⋯ G;have S:=LU H0 hb z M V;have K:=æ ly.ad H e ⋯ S;have F:=A.set ly (i:=2) ⋯ (by rw[El];trivial)$ ϐ$ rd.take i++rd.drop (i+1)++R.map (li (j+1:Nat));have r2:(o.set (pa 2)$ ϐ$ rd.take i++rd.drop (i+1)++R.map (li (j+1:Nat)))[pa 5]?=BD (ϐ rd):=by
   have:=F.p 5 ⋯;rw[Of _ _ ⋯,q 5 ⋯,s.p5]at this;exact this
  have pp:=lU r2 ⋯ e;have mp:=λu=>jz r2 Lq u;have w3:=F.set ly (i:=5) ⋯ (by rw[Of _ _ ⋯,q 5 ⋯,s.p5];trivial)$ ϐ$ rd.take i++rd.drop (i+1);obtain⟨f,g,n,m,L,r⟩:=xX hN ly s Q E I' v C w3 (by rw[Of _ _ ⋯,El]) (El ..) (λk a b=>by rw[Of _ _ b,Of _ _ a,q k a]) ⟨cl,λD h=>cV h⟩ d x4 x5 x6 x7 x8 (BD$ Z i) [];refine⟨f,g,n,m,?_,r⟩;have b4:(d % 8 == 4)=İ:=by simp[h4]
  have b3:(d % 8 == 3)=İ:=by simp[P]
  rw[<-L];generalize o.set (pa 2) _=B at *;generalize B.set (pa 5) _=a3 at *;generalize (j+1:Nat)=P at *;unfold Rv Wy Ay E7 TJ OE;simp[b3,b4,ix,U,K,mp,pp]
end
theorem QR:OM=Qb JA (Qb lG$ Qb rF$ Qb Rv$ Qb Wy$ Qb Ay$ Qb E7$ Qb pz$ Qb oz rz):=rfl
def j9{A:List Ac}(s:A.map pq=[(0,1),(1,0)]):∃ a∈A,a.p=1:=by
 obtain⟨a,b,rfl,e,s⟩:=Te.mp s;obtain⟨c,b,rfl,d,s⟩:=Te.mp s;exact⟨c,by simp,(Sf d).1⟩
section
variable{T:Int->Int}(hT:∀ p,T p<=2000000000000){N:Nat}(hN:N<=33){c:Nat->Int}{ba pa:Nat->Nat}(ly:Ly ba pa){kz:Nat->Ks}{po:Nat->Ob}{rd:B'}{σ:Ha}(w:Wd ba pa kz po σ)(s:St T N c ba pa kz po rd)
include w s hN ly hT
theorem Q9 d{i}(v:i<2)(t:Int)(k:t=if i=1/\d % 8=0 then 1 else 0) y:∃ f g l j,(Qb cB$ Qb Xy$ Qb Vy$ Qb Dy wy) [BD$ O$ pa 0,BD$ O$ pa 4,BD$ O$ pa 5,BD$ Z d,BD$ Z (i+1:Nat),y,Α,Α,Α,Α,Α,Α,Α] σ=Y (ϭ$ ϒ G6) j/\Wd ba pa f g j/\St T (N+1) c ba pa f g l/\uq kz f po g:=by
 obtain⟨_,I⟩:=s.ez w v;obtain⟨a,n,o,q⟩:∃ a∈(kz i).A,a.p=t/\(a.p=0\/a.p=1/\i=1):=by
  by_cases z:i=1/\d % 8=0
  ·apply b_;intro z_;rw[ka z]at k;obtain⟨rfl,_⟩:=z;apply z_;rcases I.s with⟨h,_⟩|⟨_,h⟩
   ·omega
   ·obtain⟨a,n,e⟩:=j9 h;exact⟨a,n,e.trans k.symm,ϖ ⟨e,rfl⟩⟩
  ·rw[ua z]at k;obtain⟨a,n,e,_⟩:=cO I.s;exact⟨a,n,e.trans k.symm,ϑ e⟩
 obtain⟨f,g,l,j,u,r⟩:=Ķ hT hN ly w s v n q d [Α,Α,Α,Α] Α Α Α;refine⟨f,g,l,j,?_,r⟩;rw[o]at u;have B:cB [BD$ O$ pa 0,BD$ O$ pa 4,BD$ O$ pa 5,BD$ Z d,BD$ Z (i+1:Nat),y,Α,Α,Α,Α,Α,Α,Α] σ=Y (ϙ$ dE (pa 0) (pa 4) (pa 5) d (i+1:Nat) t [Α,Α,Α,Α,Α,Α,Α]) σ:=by
  have C:∀ m,GE [ϒ G6] m=Y (Z 1) m:=λm=>nr rfl;have x:∀ m,GE [ϒ İ] m=Y (Z 0) m:=λm=>nr rfl;unfold cB;rcases(show i=0\/i=1 by omega)with rfl|rfl
  ·rw[k,ua ⋯];simp[x]
  ·by_cases z:d % 8=0
   ·rw[k,ka ⟨rfl,z⟩];simp[C,z]
   ·rw[k,ua (λh=>z h.2)];have b:(d % 8 == 0)=İ:=by simp[z]
    simp[x,b]
 rw[Th,B,Sd,Yh,<-u]
theorem Ę d:∃ j g k f,Je [O$ pa 0,O$ pa 4,O$ pa 5,Z d] σ=Y (ϒ G6) f/\Wd ba pa j g f/\St T (N+1) c ba pa j g k/\uq kz j po g:=by
 obtain⟨i,I,H⟩:∃ i:Nat,i<2/\d / 8 % 2=i:=⟨(d / 8 % 2).toNat,by omega,by omega⟩
 have l:=s.l;have r0:σ[pa 5]?=BD (ϐ rd):=s.p5 ▸ w.p 5 ⋯;have F:JA [BD$ O$ pa 0,BD$ O$ pa 4,BD$ O$ pa 5,BD$ Z d,Α,Α,Α,Α,Α,Α,Α,Α,Α] σ=Y (ϙ [BD$ O$ pa 0,BD$ O$ pa 4,BD$ O$ pa 5,BD$ Z d,BD$ Z (i+1:Nat),Α,Α,Α,Α,Α,Α,Α,Α]) σ:=by
  have L:Nb (ύ [Z 1,Z 2]) (Z$ d / 8 % 2) σ=Y (Z (i+1:Nat)) σ:=by
   rw[H];exact WA$ Qo (by rcases(show i=0\/i=1 by omega)with rfl|rfl<;>rfl)
  have P:∀ o,Fi (Z$ d / 8) (Z 2) o=Y (Z$ d / 8 % 2) o:=λo=>yB _ _ ⋯;generalize ((i+1:Nat):Int)=q at *;generalize d / 8 % 2=m at *;unfold JA;simp[P,L]
 have x:=Œ r0;have yi:∀ {G:Ev->M Fl} {f:Ha},G [BD$ O$ pa 0,BD$ O$ pa 4,BD$ O$ pa 5,BD$ Z d,BD$ Z (i+1:Nat),Α,Α,Α,Α,Α,Α,Α,Α] σ=Y (ϭ$ ϒ G6) f->OM=Qb JA G->Je [O$ pa 0,O$ pa 4,O$ pa 5,Z d] σ=Y (ϒ G6) f:=λh e=>by
  unfold Je
  (try dsimp only);rw[vq,e]
  show eo ((Qb JA _) [BD$ O$ pa 0,BD$ O$ pa 4,BD$ O$ pa 5,BD$ Z d,Α,Α,Α,Α,Α,Α,Α,Α,Α] σ)=_;rw[Th,F,Sd,Yh,h];rfl
 by_cases y:d % 8<3\/rd=[]
 ·obtain⟨j,g,k,f,t,r⟩:=Q9 hT hN ly w s d I _ rfl Α;refine⟨j,g,k,f,yi ?_ QR,r⟩;unfold lG;generalize (Qb cB$ Qb Xy$ Qb Vy$ Qb Dy wy)=G at *;generalize (Qb rF _)=K at *;generalize ((i+1:Nat):Int)=q at *;by_cases v:d % 8<3
  ·have b:decide (d % 8<3)=G6:=Eb v;simp[b,t]
  ·have b:decide (d % 8<3)=İ:=Xa v;rw[show rd.isEmpty=G6 by rw[y.resolve_left v];rfl]at x;simp[b,x,t]
 ·have v:¬ d % 8<3:=λz=>y$ ϑ z;have B:rd≠[]:=λz=>y$ ϖ z;have Q:0<rd.length:=Ui.mpr B;have b:decide (d % 8<3)=İ:=Xa v;rw[show rd.isEmpty=İ by cases rd<;>first|rfl|exact absurd rfl B]at x;have ϋ:Il [O$ pa 5] σ=Y (Z rd.length) σ:=by unfold Il;simp[mF r0]
  have E:∀ o,Fi (Z$ d / 16) (Z rd.length) o=Y (Z$ d / 16 % rd.length) o:=λo=>yB _ _ ⋯;obtain⟨n,J,A⟩:∃ n:Nat,n<rd.length/\d / 16 % rd.length=n:=by
   have a:=Fx (d / 16) (show (rd.length:Int)≠0 by omega);have b:=Vt (d / 16) (show (0:Int)<rd.length by omega);exact⟨(d / 16 % rd.length).toNat,by omega,by omega⟩
  have C:=Db J;rw[A]at E;have u:∃ j g k f,(Qb Rv$ Qb Wy$ Qb Ay$ Qb E7$ Qb pz$ Qb oz rz) (dF (pa 0) (pa 4) (pa 5) d (BD$ Z (i+1:Nat)) Α Α Α Α n [Α,Α,Α]) σ=Y (ϭ$ ϒ G6) f/\Wd ba pa j g f/\St T (N+1) c ba pa j g k/\uq kz j po g:=by
   by_cases D:d % 8=3
   ·obtain⟨g,k,f,t,r⟩:=Ĵ hN ly w s C D (Qb Wy$ Qb Ay$ Qb E7$ Qb pz$ Qb oz rz) (BD$ Z (i+1:Nat)) Α Α Α Α [Α,Α,Α];exact⟨kz,g,k,f,t,r⟩
   ·exact Å hN ly w s C D ..
  obtain⟨j,g,k,f,t,r⟩:=u;refine⟨j,g,k,f,yi ?_ QR,r⟩;unfold lG rF;generalize (Qb cB$ Qb Xy$ Qb Vy$ Qb Dy wy)=G at *;generalize (Qb Rv _)=K at *;generalize ((i+1:Nat):Int)=q at *;simp[b,x,ϋ,E,t]
end
section
variable{b:Nat}{z:Ks}{σ:Ha}(h:Dh b z σ)
include h
theorem Dh.worth:Yq [O b] σ=Y (Z$ Wk z.K z.A) σ:=by
 obtain⟨k,h,e,rfl⟩:=h;have:=rS h;unfold Kp.W at this
 rwa [e,PK]at this
theorem Dh.given:kx [O b] σ=Y (Z z.g) σ:=by
 obtain⟨k,h,e,rfl⟩:=h;exact ň h
theorem Dh.words:zu [O b] σ=Y (ύ$ (ks z.K).map Z) σ:=by
 obtain⟨k,h,e,rfl⟩:=h;exact ZT h.v h.z
theorem Dh.acc{a}(d:a∈z.A):∃ n,Br [O b,Z a.p] σ=Y (O n) σ/\ji σ n a/\a.Ok:=by
 obtain⟨k,h,e,rfl⟩:=h;obtain⟨x,c,rfl⟩:=wa.mp d;exact⟨x.1,pX h c,h.a x c⟩
theorem Dh.My{r}{f}(j:σ[r]?=BD (ώ f))(g:r<b\/b+5<r) x:Dh b z$ σ.set r x:=by
 obtain⟨k,h,e⟩:=h;refine⟨k,⟨⟨Mh ⋯ h.v.h0,Mh ⋯ h.v.h1,Mh ⋯ h.v.h3,Mh ⋯ h.v.h4⟩,Mh ⋯ h.h2,Mh ⋯ h.h5,λx c=>⟨Mh (λe=>?_) (h.a x c).1,(h.a x c).2⟩,h.d,h.n,h.z,h.o,h.q⟩,e⟩;have i:σ[x.1]?=BD _:=(h.a x c).1
 simp_all
end
def Wd.My{c b}(l:Ly c b){h}{g}{m}(w:Wd c b h g m){i}(f:i<10){q}(o:g i=ώ q) x:Wd c b h (Yb g i x)$ m.set (b i) x:=by
 refine⟨λj a=>(w.k j a).My (o ▸ w.p i f) (l.d i f j a) x,λj a=>?_⟩;by_cases e:j=i
 ·subst e;rw[El];exact EF$ w.p j a
 ·rw[Of _ _ e];exact Mh (l.n i f j a λz=>e z.symm)$ w.p j a
theorem Τ{xs:gV}:pl 8 (ύ$ xs.map Z)=G6:=gb.mpr λx a=>by obtain⟨i,_,rfl⟩:=wa.mp a;rfl
def ε(b:List Sn):pl 8 (ύ$ b.map Sn.D)=G6:=gb.mpr λx a=>by obtain⟨s,_,rfl⟩:=wa.mp a;exact LL 4 s
section
variable{T:Int->Int}{N:Nat}{c:Nat->Int}{ba pa:Nat->Nat}(ly:Ly ba pa){kz:Nat->Ks}{po:Nat->Ob}{rd:B'}{σ:Ha}(w:Wd ba pa kz po σ)(s:St T N c ba pa kz po rd)
include w s ly
theorem oQ{i}(T:i<2){A}(F:po 4=ώ A) x3 x4:YC [BD$ O$ pa 0,BD$ O$ pa 4,BD$ Z (i+1:Nat),x3,x4] (σ.set (pa 4)$ ϧ A)=Y (ϙ [BD$ O$ pa 0,BD$ O$ pa 4,BD$ Z (i+1:Nat),BD$ O$ ba i,BD$ O$ ba$ 2+i]) (σ.set (pa 4)$ ϧ A):=by
 obtain⟨P,I⟩:=s.ez w T;have ϋ:A=[(.inl 1,O (ba 2)),(.inl 2,O (ba 3))]:=by
  have:=F.symm.trans s.p4;injection this
 have g:=w.My ly (i:=4) ⋯ F$ ϧ A;have q:∀ j,j≠4->Yb po 4 (ϧ A) j=po j:=λj U=>Of _ _ U;have B:=Fq (rd:=rd) g ((q 0$ by lia).trans s.p0) ((q 1$ by lia).trans s.p1) ((q 2$ by lia).trans s.p2) (by rw[q 3 ⋯];exact s.p3);have p4:(σ.set (pa 4)$ ϧ A)[pa 4]?=BD (ϧ A):=by have:=g.p 4 ⋯;rw[El]at this;exact this
 have ό:Lh (O$ pa 4) (Z (i+1:Nat)) (σ.set (pa 4)$ ϧ A)=Y (O$ ba$ 2+i) (σ.set (pa 4)$ ϧ A):=by
  have e:ph (σ.set (pa 4)$ ϧ A) (O$ pa 4)=BD A:=by unfold ph;simp[p4]
  unfold Lh;simp only[Ai,e];rw[ϋ];rcases(show i=0\/i=1 by lia)with rfl|rfl<;>rfl
 have S:((i+1:Nat):Int)=1/\ba i=ba 0\/((i+1:Nat):Int)=2/\ba i=ba 1:=by
  rcases(show i=0\/i=1 by lia)with rfl|rfl
  ·exact ϑ ⟨rfl,rfl⟩
  ·exact ϖ ⟨rfl,rfl⟩
 have c:=g.k i ⋯;have d:=g.k (2+i) ⋯;rw[P]at d;generalize σ.set (pa 4) (ϧ A)=f at *;obtain⟨a,G,N,_⟩:=cO I.s;obtain⟨n1,C,H,L⟩:=c.acc G;obtain⟨n2,E,J,M⟩:=d.acc G;rw[N]at C E;have m1:=fun {m:Str} (n:Nat) fn b hm=>c.Ip (m:=m) n fn b hm;have z:=c.worth;have Q:=c.given;have R:=d.given;have ϊ:=c.words;have v2:=d.words;have y1:=uz H L;have y2:=uz J M;have z1:=Xr H L;have z2:=Xr J M;have u:=λb=>c.Ip (m:="worth") 1 Yq b rfl;have v:=λb=>d.Ip (m:="worth") 1 Yq b rfl;have o:=λb=>d.Ip (m:="given") 1 kx b rfl;have r:=λb=>c.Ip (m:="words") 1 zu b rfl;have t:=λb=>d.Ip (m:="words") 1 zu b rfl;have h:=λb=>c.Ip (m:="account") 2 Br b rfl;have l:=λb=>d.Ip (m:="account") 2 Br b rfl;have V:qh (ύ$ (ks (kz i).K).map Z) (ύ$ (ks (kz i).K).map Z) f=Y (ϒ İ) f:=Du Τ;have W:qh (ύ$ a.y.map Sn.D) (ύ$ a.y.map Sn.D) f=Y (ϒ İ) f:=Du$ ε _;have X:qh a.m.D a.m.D f=Y (ϒ İ) f:=Du$ LL 5 _;generalize ((i+1:Nat):Int)=q at *;generalize (ks (kz i).K).map Z=KK,a.y.map Sn.D=YY,a.m.D=MM at *;unfold YC RW iY mY AT;simp[(λb=>wm B (x:="keeper") 2 qv b rfl),(FH B S c),ό,z,d.worth,Q,R,ϊ,v2,u,v,(λb=>c.Ip (m:="given") 1 kx b rfl),o,r,t,h,l,C,E,y1,y2,z1,z2,V,W,X]
end
def k7{f}{n}{b}{a}{A}(c:f b a=Y (O n) a)(g:a[n]?=BD (ώ A)):oC f b a=Y (BC A) (a.set n$ ϧ A):=by
 show Rc _ UH _=_;rw[tj,c,Sd];unfold UH;simp[g]
section
variable{T:Int->Int}{N:Nat}{c:Nat->Int}{ba pa:Nat->Nat}(ly:Ly ba pa){kz:Nat->Ks}{po:Nat->Ob}{rd:B'}{σ:Ha}(w:Wd ba pa kz po σ)(s:St T N c ba pa kz po rd)
include w s ly
theorem Ř:dM [O$ pa 0,O$ pa 4] σ=Y (ϒ G6) σ:=by
 have a:po 4=ώ [(.inl 1,O _),_]:=s.p4;have g:=w.p 4 ⋯;rw[a]at g;have b:=XR (f:=Aa 1) (src:=oC$ Aa 1) (tg:=ud 2) (body:=YC) (ρ:=[BD _,BD$ O$ pa 4,Α,Α,Α]) (σ:=σ) (n:=pa 4) (A':=[(.inl 1,O _),_]) ⋯ g (k7 ⋯ g) (by
  show Hn _ _ _ _ 0 _ _=_;rw[ay (d:=Z 1) rfl rfl];refine(Cb (λx=>dh.bind x _)$ oQ ly w s (i:=0) ⋯ a Α Α).trans ?_;rw[Sd,il];show Hn _ _ _ _ 1 _ _=_;rw[ay (d:=Z 2) rfl rfl];refine(Cb (λx=>dh.bind x _)$ oQ ly w s (i:=1) ⋯ a (BD$ O$ ba 0)$ BD _).trans ?_;rw[Sd,il];exact YF (k:=998) rfl) (by rw[Zb (da.mp g).1])
 rw[Ph,SD g]at b;unfold dM QS Dc;dsimp only
 (try dsimp only);rw[vq]
 show zd (Vg 5 _ _) σ=_;generalize Uw (Aa 1) (xp (oC _) _ YC)=ϊ at *;simp[b]
end
def J1{p q}{s} n:pl (n+5) (sg p q s)=G6:=bu λx a=>by
 have a:x=ϔ "offer"\/x=Z p\/x=ff p q s.D:=by simpa using a
 rcases a with rfl|rfl|rfl
 ·simp[pl]
 ·simp[pl]
 ·exact nI n p q s
theorem Ro.pl{T}{N}{h}{X}(r:Ro T N h X):L4.pl 6 X=G6:=by
 cases r with
 |ask=>
  exact bu λx a=>by
   simp at a;rcases a with rfl|rfl|rfl|rfl<;>first|(simp[L4.pl];done)|exact zK 3 _
 |acc=>
  exact bu λx a=>by
   simp at a;rcases a with rfl|rfl|rfl|rfl<;>first|(simp[L4.pl,Dl];done)|exact nI 1 ..
 |off=>exact J1 1
 |vj=>rfl
 |wd=>rfl
def aX{T}{N}{rd}(r:∀ y∈rd,∃ h X,y=Ϗ [Z h,X]/\Ro T N h X){a}{m n}(c:a[m]?=BD (ϐ rd))(d:a[n]?=BD (ϐ rd)):xi a 8 (O m) (O n)=BD G6:=by
 have f:L4.kd a (O m)=.l rd:=by unfold L4.kd jf;simp[c]
 have g:L4.kd a (O n)=.l rd:=by unfold L4.kd jf;simp[d]
 show Vo _ _ _=_;rw[f,g];exact fF λy e=>by
  obtain⟨h,X,rfl,q⟩:=r y e;exact WI 7 _ (bu λx b=>by
   simp at b;rcases b with rfl|rfl
   ·simp[L4.pl]
   ·exact q.pl)
noncomputable def lF(ns:gV)(c d e f:Option D)(h:Nat)(g:Option D)(t:Nat)(i:Option D)(r:Nat)(a b:Option D):Ev:=[BD$ ϯ ns,c,d,e,f,BD$ O h,g,BD$ O t,i,BD$ O r,a,b]
section
variable{T:Int->Int}(hT:∀ p,T p<=2000000000000){N:Nat}(hN:N<=33){c:Nat->Int}{ba pa:Nat->Nat}(ly:Ly ba pa){kz:Nat->Ks}{po:Nat->Ob}{rd:B'}{σ:Ha}(w:Wd ba pa kz po σ)(s:St T N c ba pa kz po rd)
include hT hN w s ly
theorem R8{ns}{k}(i:0<=k/\k<ns.length) l m n o t u g:∃ d e a b,YG (lF ns l m n o (pa 0) t (pa 4) u (pa 5) (BD$ Z k) g) σ=Y (ϙ$ lF ns l m n o (pa 0) t (pa 4) u (pa 5) (BD$ Z k) g) b/\Wd ba pa d e b/\St T (N+1) c ba pa d e a/\uq kz d po e:=by
 apply b_;intro z_;have B:=OQ (σ:=σ) i.1 i.2;obtain⟨v,E⟩:=dZ (ns.getD k.toNat 0) k;obtain⟨d,e,a,b,y,j,f,C⟩:=Ę hT hN ly w s v;have H:=Fq (rd:=a) j f.p0 f.p1 f.p2 f.p3;have F:=gF H;have h:=j.app [ϐ a];have z:=pw$ aX f.r (show (b++[ϐ a])[b.length]?=_ by simp)$ f.p5 ▸ h.p 5 ⋯;apply z_;refine⟨d,e,a,b++[ϐ a],?_,h,f,C⟩;unfold lF;generalize ns.getD k.toNat 0=q at *;generalize b++[ϐ a]=G at *;simp[B,(E σ),y,(λA=>wm H (x:="road") 1 vt A rfl),F,z,(Ř ly h f)]
end
def uq.trans{f d e}{i g h}(a:uq f d i g)(b:uq d e g h):uq f e i h:=⟨λj c=>(b.1 j c).trans$ a.1 j c,λj c=>(b.2 j c).trans$ a.2 j c⟩
section
variable{T:Int->Int}(hT:∀ p,T p<=2000000000000){c:Nat->Int}{ba pa:Nat->Nat}(ly:Ly ba pa){ns:gV}(x1 x2 x3 x4 x6 x8 x11:Option D)
include hT ly
theorem GU:∀ (f:h8) (N:Nat) (e:Nat->Ks) (po:Nat->Ob) (rd:B') (σ:Ha) (a:Option D),(∀ i∈f,(4:Int)+i<ns.length)->N+f.length<=34->Wd ba pa e po σ->St T N c ba pa e po rd->∃ p b d k g l,Lj (ud 10) YG (f.map λ(i:Nat)=>Z$ 4+i) (lF ns x1 x2 x3 x4 (pa 0) x6 (pa 4) x8 (pa 5) a x11) σ=Y (ϙ$ lF ns x1 x2 x3 x4 (pa 0) x6 (pa 4) x8 (pa 5) l x11) g/\Wd ba pa b d g/\St T p c ba pa b d k/\uq e b po d/\p<=34
 |[],N,e,po,rd,σ,a,_,q,w,s=>⟨N,e,po,rd,σ,a,by simp,w,s,⟨λK K=>rfl,λK K=>rfl⟩,by simp at *;lia⟩
 |i::f,N,e,po,rd,σ,a,r,q,w,s=>by
  have v:=r i na;simp[lb]at q;obtain⟨z,B,G,m,h,I,s1,E⟩:=R8 hT ⋯ ly w s ⟨by lia,v⟩ x1 x2 x3 x4 x6 x8 x11;obtain⟨t,A,C,H,o,y,u,J,s2,F,j⟩:=GU f _ z B G m _ (λn x=>r n$ ma _ x) ⋯ I s1;refine⟨t,A,C,H,o,y,?_,J,s2,E.trans F,j⟩;rw[nb,iq];have h:YG ((lF ns x1 x2 x3 x4 _ x6 _ x8 _ a x11).set 10$ BD _) σ=_:=h;rw[h,Sd,il,u]
theorem z7{m}{n}{rd}{b}(w:Wd ba pa m n b)(s:St T 0 c ba pa m n rd):∃ l d h k j q,RM (lF ns x1 x2 x3 x4 (pa 0) x6 (pa 4) x8 (pa 5) Α x11) b=Y (ϙ$ lF ns x1 x2 x3 x4 (pa 0) x6 (pa 4) x8 (pa 5) q x11) j/\Wd ba pa d h j/\St T l c ba pa d h k/\uq m d n h/\l<=34:=by
 apply b_;intro z_;obtain⟨l,d,h,k,j,y,v,r⟩:=GU hT ly x1 x2 x3 x4 x6 x8 x11 (ns:=ns) (c:=c) (List.range (min (ns.length:Int) 34 - 4).toNat) 0 m n rd b Α (λi u=>by have:=qe.mp u;lia) (by simp;lia) w s;apply z_;refine⟨l,d,h,k,j,y,?_,r⟩;have z:mG (eC$ Z 4) (Uk wA$ Ra (Uk Il$ Ra (Aa 0) Bb)$ Ra (eC$ Z 34) Bb) (lF ns x1 x2 x3 x4 (pa 0) x6 (pa 4) x8 (pa 5) Α x11) b=Y (.seq$ (List.range (min (ns.length:Int) 34 - 4).toNat).map λ(i:Nat)=>Z$ 4+i) b:=by
  have x:∀ b,XC (Z 4) (Z$ min (ns.length:Int) 34) b=Y (.seq$ (List.range (min (ns.length:Int) 34 - 4).toNat).map λ(i:Nat)=>Z _) b:=λb=>by
   unfold XC;dsimp only;rw[ka (by simp only[vu,vq,Ma,Tc];lia)];rfl
  have e:∀ (f g:Ev->M D) o b,mG f g o b=(f o b).bind (sM$ g o):=λf g o b=>tj ..;have t:∀ (p:M D) a b,sM p a b=(p b).bind (XC a):=λp a b=>tj ..;unfold lF;simp[e,t,x]
 unfold RM;rw[XD,z,ql,eJ,v]
end
section
variable{T:Int->Int}{N tb:Nat}{c:Nat->Int}{ba pa:Nat->Nat}{kz:Nat->Ks}{po:Nat->Ob}{rd:B'}{σ:Ha}(w:Wd ba pa kz po σ)(s:St T N c ba pa kz po rd)(hN:N<=34)
 (q6:po 6=ϓ 16 (Gv (pa 6) (pa 7) (pa 8) (pa 9)$ PL c)) (q7:po 7=ώ [(.inl 1,O (ba 4)),(.inl 2,O (ba 5))]) (q8:po 8=ϐ []) (q9:∃ U,po 9=ϡ U/\U.length<=tb) (W1:Wk (kz 4).K (kz 4).A=c 0) (W2:Wk (kz 5).K (kz 5).A=c 1+c 2)
include w s hN q6 q7 q8 q9 W1 W2
theorem Μ ns A R S T V n:∃ o,(Qb wF$ Qb hG$ Qb tG mI) (lF ns (BD$ ύ [Z$ c 0,Z$ c 1,Z$ c 2,Z A]) R S T (pa 0) (BD$ O$ pa 6) (pa 4) V (pa 5) n Α) σ=Y (ϭ$ ϒ G6) o:=by
 have l:=s.l;have H:=Fq (rd:=rd) w s.p0 s.p1 s.p2 s.p3;have z:zi (O σ.length) [Ϗ [Z 1,ϔ "x"]] (σ++[ϐ rd])=Y Ϛ (σ++[ϐ$ rd++[Ϗ [Z 1,ϔ "x"]]]):=Rz ⋯;have G:∀ a,Cr zi a (O σ.length) (σ++[ϐ rd])=(a$ σ++[ϐ rd]).bind (zi$ O σ.length):=λa=>Lx (xs:=rd) (by unfold uf jf;simp);have P:=gF H;have f:=w.app [ϐ$ rd++[Ϗ [Z 1,ϔ "x"]]];generalize σ++[ϐ$ rd++[Ϗ [Z 1,ϔ "x"]]]=e at *;obtain⟨U,q9,u⟩:=q9;have q:HA (pa 6) (pa 7) (pa 8) (pa 9) (ba 4) (ba 5) (PL c) tb [] e:=⟨q6 ▸ f.p 6 ⋯,q7 ▸ f.p 7 ⋯,q8 ▸ f.p 8 ⋯,U,q9 ▸ f.p 9 ⋯,u⟩
 have N:=gF q;have I:=λa=>wm q (x:="road") 1 vt a rfl;have d:=f.app [ϐ []];have M:qh (O e.length) (ύ []) (e++[ϐ []])=Y (ϒ İ) (e++[ϐ []]):=by
  refine pw (b:=G6) ?_;have C:L4.kd (e++[ϐ []]) (O e.length)=.l []:=by unfold L4.kd jf;simp
  show Vo _ (L4.kd _ _) (L4.kd _ _)=_;rw[C];rfl
 generalize e++[ϐ []]=g at *;have h:HA (pa 6) (pa 7) (pa 8) (pa 9) (ba 4) (ba 5) (PL c) tb [] g:=⟨q6 ▸ d.p 6 ⋯,q7 ▸ d.p 7 ⋯,q8 ▸ d.p 8 ⋯,U,q9 ▸ d.p 9 ⋯,u⟩
 have i:=d.k 4 ⋯;have j:=d.k 5 ⋯;have E:=FH h (w:=1) (ϑ ⟨rfl,rfl⟩) i;have F:=FH h (w:=2) (ϖ ⟨rfl,rfl⟩) j;have mk:=λa=>wm h (x:="keeper") 2 qv a rfl;have v:=i.worth;have y:=j.worth;rw[W1]at v;rw[W2]at y;have K:=λa=>i.Ip (m:="worth") 1 Yq a rfl;have L:=λa=>j.Ip (m:="worth") 1 Yq a rfl;have t:=Fq (rd:=rd) d s.p0 s.p1 s.p2 s.p3;have ϋ:=gF t;have J:=λa=>wm t (x:="road") 1 vt a rfl;have Q:=d.app [ϐ rd];have B:=vw$ aX s.r (show (g++[ϐ rd])[g.length]?=_ by simp)$ s.p5 ▸ Q.p 5 ⋯;refine⟨g++[ϐ rd],?_⟩;unfold lF wF hG tG mI;generalize σ++[ϐ rd]=W at *;generalize g++[ϐ rd]=X at *;simp[(λa=>wm H (x:="road") 1 vt a rfl),P,G,z,N,I,M,mk,E,F,K,L,v,y,J,ϋ,B]
end
def qt{a L:Ha} i:(a++L)[a.length+i]?=L[i]?:=by
 rw[Hc ⋯,show a.length+i - a.length=i by lia]
def Sv{a L:Ha}:(a++L)[a.length]?=L[0]?:=qt 0
def Qy{a L:Ha} i x:(a++L).set (a.length+i) x=a++L.set i x:=by
 simp_all
def sN{a L:Ha} x:(a++L).set a.length x=a++L.set 0 x:=Qy 0 x
section
variable{σ0:Ha}
def EX{g}{r}{b}{c}{f}{d}{a}(h:b.contains c=G6)(i:Nat.ble (a.length+1) 1000=G6):xy g b f d (O σ0.length) (σ0++ϓ c a::r)=Y (ϙ g) (σ0++ϓ c (Rk f d a)::r):=by
 have e:MA b f d (O σ0.length) (σ0++ϓ c a::r)=Y () (σ0++ϓ c (Rk f d a)::r):=by
  have:(σ0++ϓ c a::r)[σ0.length]?=BD _:=Sv;unfold MA;simp only[this];rw[ka (by rw[h];simpa using (show a.length<1000 from xq i)),sN];rfl
 unfold xy;rw[e]
def az{d}{c}{f}{b}{r}{a}{k}(h:d.contains c=G6)(i:Nat.ble (b.length+1) 1000=G6)(j:a.length+1=k):jl d f uo (Aa 0) (BD (O σ0.length)::r) (σ0++ϓ c b::a)=Y (ϙ$ BD (O σ0.length)::r) (σ0++ϓ c (Rk f (O$ σ0.length+k) b)::(a++[ώ []])):=by
 rw[DS,WJ,ql,MT,Zr,ql];have e:(σ0++ϓ c b::a).length=σ0.length+k:=by rw[Gb,lb];lia
 have g:(σ0++ϓ c b::a)++[ώ []]=σ0++ϓ c b::(a++[ώ []]):=by simp
 rw[e,g];exact EX h i
def gB{b}{c}{f}{a}{g}{d}{e ds'}{r}(h:b.contains c=G6)(i:Nat.ble (a.length+1) 1000=G6)(j:g (BD (O σ0.length)::r) (σ0++ϓ c a::e)=Y d (σ0++ϓ c a::ds')):jl b f g (Aa 0) (BD (O σ0.length)::r) (σ0++ϓ c a::e)=Y (ϙ$ BD (O σ0.length)::r) (σ0++ϓ c (Rk f d a)::ds'):=by
 rw[DS,j,ql,MT,Zr,ql,EX h i]
def jw{e}{c}{f}{a}{g}{d}{b}{r}(h:e.contains c=G6)(i:Nat.ble (a.length+1) 1000=G6)(j:g (BD (O σ0.length)::r) (σ0++ϓ c a::b)=Y d (σ0++ϓ c a::b)):jl e f g (Aa 0) (BD (O σ0.length)::r) (σ0++ϓ c a::b)=Y (ϙ$ BD (O σ0.length)::r) (σ0++ϓ c (Rk f d a)::b):=gB h i j
end
def lA{a}{n c}{e}(h:a[n]?=BD (ϓ c e)){b}{f}{d}(g:b.contains c=G6)(i:e.lookup f=BD d):Gc b f (O n) a=Y d a:=Ik (Yw h) g i
noncomputable def cS(u v:Int):Sn:=⟨0,u,v,[]⟩
def Cn(u:Int):Prop:=0<=u/\u<=1000000000000
def aU{u v}(a:Cn u)(b:Cn v):SO (u+v)$ cS u v:=by
 unfold Cn at *;exact⟨⟨⟨by show 0<=0/\0<=1000000;lia,by show 0<=u/\u<=2000000000000;lia,by show 0<=v/\v<=2000000000000;lia,by simp[cS],by simp[cS],by simp[cS]⟩,by simp[cS,Oo]⟩,by simp[cS]⟩
noncomputable def fA(p q u v:Int):Ac:=Wb p q (cS u v) Ϛ []
def Ĺ{p q u v}(b:0<=p/\p<=2)(c:q=0\/q=1)(d:Cn u)(e:Cn v) a:ae [Z p,Z q,Z u,Z v] a=Y (O a.length) (a++[ϓ 11 (fA p q u v).fs]):=by
 have f:OG [Z u,Z v] a=Y (cS u v).D a:=ZZ d e a;have mk:ck 11 7 Wo [Z p,Z q,(cS u v).D,Ϛ,ύ [(cS u v).D],ύ []] a=Y _ (a++[ϓ 11 (fA p q u v).fs]):=nC (jq (m:=cS u v) (G:=Ϛ) (L:=[]) b c rfl rfl) a;unfold ae bY
 simp_all
section
variable(l r u v w:Int)(σ:Ha)
def OY:Nb (ye l r u v w) (Z 0) σ=Y (Z l) σ:=by unfold ye;simp
def i9:Nb (ye l r u v w) (Z 1) σ=Y (Z r) σ:=by unfold ye;simp
def kX:Nb (ye l r u v w) (Z 2) σ=Y (Z u) σ:=by unfold ye;simp
def DX:Nb (ye l r u v w) (Z 3) σ=Y (Z v) σ:=by unfold ye;simp
theorem qT:Nb (ye l r u v w) (Z 4) σ=Y (Z w) σ:=nr rfl
end
def SY h c d:iO [Z h,Z 6,PL c] d=Y Ϛ d:=by
 have e:∀ (l r u v w:Int) (L x:Option D),7<=w->GM [BD$ Z h,BD$ Z 6,L,BD$ ye l r u v w] d=Y (ϙ [BD$ Z h,BD$ Z 6,L,BD$ ye l r u v w]) d:=λl r u v w L p o=>by
  have s1:Au (ye l r u v w) Α (BD 2) d=Y (Ϗ [Z l,Z r]) d:=by unfold ye;rw[iA];rfl
  have f:zB İ _ (Ϗ [Z l,Z r]) d=Y (ϒ ([l,r].any (·== h))) d:=A6 (neg:=İ) (ws:=[l,r]) rfl;have g:=qT l r u v w d;have lt:decide (w<7)=İ:=Xa ⋯;generalize [l,r].any (·== h)=B,Ϗ [Z l,Z r]=m,ye l r u v w=n at *;cases B<;>simp[s1,f,g,lt]
 have k:∀ d,Uv (PL c) d=Y _ d:=λd=>Sz _;have j:Lj (ud 3) GM [ye 1 2 (c 0) (c 1) 20,ye 2 3 (c 2) (c 3) 30] [BD$ Z h,BD$ Z 6,BD$ PL c,Α] d=Y (ϙ [BD$ Z h,BD$ Z 6,BD$ PL c,BD$ ye 2 3 (c 2) (c 3) 30]) d:=by
  rw[iq];simp only[Ab,Vb];rw[e _ _ _ _ _ _ Α ⋯,Sd,il,iq];simp only[Ab,Vb];rw[e _ _ _ _ _ _ Α ⋯,Sd,il,nF]
 unfold iO XS Dc;dsimp only;generalize [ye 1 2 _ _ 20,ye 2 3 (c 2) (c 3) 30]=TT,PL c=L at *;simp[(λd=>bt (i:=6) (a:=1) (b:=50) ⋯ d),k,j]
noncomputable def KB(b:Nat)(K:gV)(a:List Ka)(A:Ha):Ha:=ϓ 15 (Hj b 6 0)::ώ (Kj K)::ώ (AV a)::ώ (CV a)::ώ (SV a)::ώ []::ώ []::A
def F5{b}{n}{a}(h:b=[]\/∃ x,b=[x]/\x.2.p≠a.p):Ni (AV b) (.inl a.p) (O n)=AV (b++[(n,a)])/\Ni (CV b) (.inl a.p) (.gt ["held"])=CV (b++[(n,a)])/\Ni (SV b) (.inl a.p) (ϩ [] [])=SV (b++[(n,a)])/\(AV b).length<1000/\(CV b).length<1000/\(SV b).length<1000:=by
 rcases h with rfl|⟨x,rfl,c⟩
 ·exact⟨rfl,rfl,rfl,by decide,by decide,by decide⟩
 ·have e:¬ (Sum.inl x.2.p:Bd)=Sum.inl a.p:=λz=>c$ yx z;simp[AV,CV,SV,Ni,e]
section
variable(σ0:Ha)
def l8{K}{a}{A}{b}{f}{d}(c:b.contains 15=G6)(e:(Hj σ0.length 6 0).lookup f=BD d):Gc b f (O σ0.length) (σ0++KB σ0.length K a A)=Y d (σ0++KB σ0.length K a A):=lA (Sv) c e
def ZV{K}{as}{A}{x} n a b(c:(Hj σ0.length 6 0).lookup x=Α):Qi [(15,a)] n x b (O σ0.length) (σ0++KB σ0.length K as A)=(b$ σ0++KB σ0.length K as A).bind (Gi n a$ O σ0.length):=Ym (Yw Sv) rfl c
def R0{K}{as}{A}{i}{a}(q:A[i]?=BD (ϓ a.c a.fs))(ok:a.Ok)(h:as=[]\/∃ x,as=[x]/\x.2.p≠a.p):RC [O σ0.length,O$ σ0.length+(7+i),.gt ["held"],ϩ [] []] (σ0++KB σ0.length K as A)=Y Ϛ (σ0++KB σ0.length K (as++[(σ0.length+(7+i),a)]) A):=by
 obtain⟨j,k,l,l1,l2,s⟩:=F5 (n:=σ0.length+(7+i)) h;have t:∀ (X ό ϊ:Ob),Gc [10,11,12,13] "pot" (O$ σ0.length+(7+i)) _=Y _ (σ0++ϓ 15 (Hj σ0.length 6 0)::ώ (Kj K)::X::ό::ϊ::ώ []::ώ []::A):=λX ό ϊ=>Jo (by
  unfold ji;rw[qt,Nat.add_comm 7 i];exact q) ok
 have g:∀ (X ό ϊ:Ob) (f:Str) (e:h8) (d:D),e.contains 15=G6->(Hj σ0.length 6 0).lookup f=BD d->Gc e f _ _=Y d (σ0++ϓ 15 _::ώ _::X::ό::ϊ::ώ []::ώ []::A):=λX ό ϊ f e d r h=>lA (Sv (L:=ϓ 15 (Hj σ0.length 6 0)::ώ (Kj K)::X::ό::ϊ::ώ []::ώ []::A)) r h;have s2:∀ (b:Ev) (ό ϊ:Ob),zn b (O$ σ0.length+(7+i)) (O$ σ0.length+2) (Z a.p) (σ0++ϓ 15 (Hj σ0.length 6 0)::ώ (Kj K)::ώ (AV as)::ό::ϊ::ώ []::ώ []::A)=Y (ϙ b) (σ0++ϓ 15 (Hj σ0.length 6 0)::ώ (Kj K)::ώ (AV$ as++[(σ0.length+(7+i),a)])::ό::ϊ::ώ []::ώ []::A):=λb ό ϊ=>by
  rw[Uq (kvs:=AV as) (qt 2) l1,Qy 2,j];rfl
 have u:∀ (b:Ev) (X ϊ:Ob),zn b (.gt ["held"]) (O$ σ0.length+3) (Z a.p) (σ0++ϓ 15 (Hj σ0.length 6 0)::ώ (Kj K)::X::ώ (CV as)::ϊ::ώ []::ώ []::A)=Y (ϙ b) (σ0++ϓ 15 (Hj σ0.length 6 0)::ώ (Kj K)::X::ώ (CV$ as++[(σ0.length+(7+i),a)])::ϊ::ώ []::ώ []::A):=λb X ϊ=>by
  rw[Uq (kvs:=CV as) (qt 3) l2,Qy 3,k];rfl
 have v:∀ (b:Ev) (X ό:Ob),zn b (ϩ [] []) (O$ σ0.length+4) (Z a.p) (σ0++ϓ 15 (Hj σ0.length 6 0)::ώ (Kj K)::X::ό::ώ (SV as)::ώ []::ώ []::A)=Y (ϙ b) (σ0++ϓ 15 (Hj σ0.length 6 0)::ώ (Kj K)::X::ό::ώ (SV$ as++[(σ0.length+(7+i),a)])::ώ []::ώ []::A):=λb X ό=>by
  rw[Uq (kvs:=SV as) (qt 4) s,Qy 4,l];rfl
 have m:=λX ό ϊ=>g X ό ϊ "accounts" [15] _ rfl rfl;have o:=λX ό ϊ=>g X ό ϊ "claims" [9,15] _ rfl rfl;have gs:=λX ό ϊ=>g X ό ϊ "seen" [15] _ rfl rfl;unfold RC KB kf;dsimp only;generalize Hj σ0.length 6 0=FS,AV (as++[(σ0.length+(7+i),a)])=y,CV (as++[(σ0.length+(7+i),a)])=B,SV (as++[(σ0.length+(7+i),a)])=E,AV as=w,CV as=z,SV as=C,Kj K=KD,σ0.length+(7+i)=N at *;simp[t,m,o,gs,s2,u,v]
theorem JU(L:Option D):∀ (c a:gV) (x:Option D),(a++c).Nodup->(a++c).length<=60->∃ y,Lj (ud 2) AO (c.map Z) [BD$ O σ0.length,L,x] (σ0++KB σ0.length a [] [])=Y (ϙ [BD$ O σ0.length,L,y]) (σ0++KB σ0.length (a++c) [] [])
 |[],a,x,_,_=>⟨x,by simp⟩
 |w::c,a,x,hd,d=>by
  obtain⟨y,h⟩:=JU L c (a++[w]) (BD$ Z w) (by rw[Zc];exact hd) (by rw[Zc];exact d);have f:w ∉ a:=λz=>by
   rw[Nc]at hd;exact hd.2.2 w z w na rfl
  have g:Gc [14,15] "known" (O σ0.length) (σ0++KB σ0.length a [] [])=Y _ _:=l8 σ0 rfl rfl;have s1:∀ e,zn e (ϒ G6) _ _ (σ0++KB σ0.length a [] [])=Y _ (σ0++KB σ0.length (a++[w]) [] []):=λe=>by
   rw[Uq (kvs:=Kj a) (qt 1) (by unfold Kj;simp at d ⊢;omega),Qy 1,HV];unfold ut;rw[ua f];rfl
  refine⟨y,?_⟩;rw[nb,iq];simp only[Ab,Vb];rw[show a++w::c=a++[w]++c by simp,<-h];have b:AO [BD$ O σ0.length,L,BD$ Z w] (σ0++KB σ0.length a [] [])=Y (ϙ [BD$ O σ0.length,L,BD$ Z w]) (σ0++KB σ0.length (a++[w]) [] []):=by
   generalize σ0++KB σ0.length (a++[w]) [] []=ϊ,σ0++KB σ0.length a [] []=ό at *;simp[g,s1]
  rw[b,Sd,il]
def zpc{a}(b:a.Nodup)(c:a.length<=60):Fw [O σ0.length,ύ$ a.map Z] (σ0++KB σ0.length [] [] [])=Y Ϛ (σ0++KB σ0.length a [] []):=by
 obtain⟨y,d⟩:=JU σ0 (BD$ ύ$ a.map Z) a [] Α b c;unfold Fw UK kf;dsimp only
 simp_all
end
@[simp] theorem zyf{e} d x a b c:Gi 4 d x [a,b,c] e=d [x,a,b,c] e:=VE rfl
section
variable(σ0:Ha)(h:Int)
def yP{K}{c d}{A g}{p l r u v w s}(k:0<=p/\p<=2)(j:s=0\/s=1)(y:Cn u)(z:Cn v) X ό ϊ
  (e:((if s=0 then l else r)≠h/\d=c/\g=A)\/((if s=0 then l else r)=h/\d=c++[(σ0.length+(7+A.length),fA p s u v)]/\g=A++[ϓ 11 (fA p s u v).fs]/\(c=[]\/∃ x,c=[x]/\x.2.p≠p))) :
  WP [BD$ O σ0.length,BD$ Z h,X,ό,ϊ,BD$ Z p,BD$ ye l r u v w,BD$ Z s] (σ0++KB σ0.length K c A)=Y (ϙ [BD$ O σ0.length,BD$ Z h,X,ό,ϊ,BD$ Z p,BD$ ye l r u v w,BD$ Z s]) (σ0++KB σ0.length K d g):=by
 have m:∀ f,Nb (ye l r u v w) (Z s) f=Y (Z$ if s=0 then l else r) f:=λf=>by
  rcases j with rfl|rfl
  ·exact OY ..
  ·exact i9 ..
 generalize (if s=0 then l else r)=H at *;rcases e with⟨G,rfl,rfl⟩|⟨n,rfl,rfl,q⟩
 ·have b:(H == h)=İ:=by simp[G]
  generalize ye l r u v w=Q,σ0++KB σ0.length K d g=ϊ at *;simp[m,b]
 ·have b:(H == h)=G6:=by simp[n]
  have B:=λf=>kX l r u v w f;have C:=λf=>DX l r u v w f;have fa:=Ĺ k j y z$ σ0++KB σ0.length K c A;have L:(σ0++KB σ0.length K c A).length=σ0.length+(7+A.length):=by simp[KB];omega
  have E:(σ0++KB σ0.length K c A)++[ϓ 11 (fA p s u v).fs]=σ0++KB σ0.length K c (A++[ϓ 11 (fA p s u v).fs]):=by simp[KB]
  rw[L,E]at fa;have t:=R0 σ0 (K:=K) (as:=c) (A:=A++[ϓ 11 (fA p s u v).fs]) (i:=A.length) (a:=fA p s u v) (by simp;rfl) (jq k j rfl rfl) q;have F:=λo=>ZV σ0 (K:=K) (as:=c) (A:=A) (x:="hold") 4 RC o rfl;generalize σ0++KB σ0.length K (c++[(σ0.length+(7+A.length),fA p s u v)]) (A++[ϓ 11 (fA p s u v).fs])=W,σ0++KB σ0.length K c (A++[ϓ 11 (fA p s u v).fs])=V,σ0++KB σ0.length K c A=ϊ,ye l r u v w=Q at *;simp[m,b,B,C,fa,F,t]
def hJ{K}{b a c}{A B C}{p l r u v w}(d:0<=p/\p<=2)(f:Cn u)(g:Cn v) X ό ϊ x
  (e:(l≠h/\a=b/\B=A)\/(l=h/\a=b++[(σ0.length+(7+A.length),fA p 0 u v)]/\B=A++[ϓ 11 (fA p 0 u v).fs]/\(b=[]\/∃ x,b=[x]/\x.2.p≠p)))
  (i:(r≠h/\c=a/\C=B)\/(r=h/\c=a++[(σ0.length+(7+B.length),fA p 1 u v)]/\C=B++[ϓ 11 (fA p 1 u v).fs]/\(a=[]\/∃ x,a=[x]/\x.2.p≠p))) :
  UB [BD$ O σ0.length,BD$ Z h,X,ό,ϊ,BD$ Z p,BD$ ye l r u v w,x] (σ0++KB σ0.length K b A)=Y (ϙ [BD$ O σ0.length,BD$ Z h,X,ό,ϊ,BD$ Z p,BD$ ye l r u v w,BD$ Z 1]) (σ0++KB σ0.length K c C):=by
 show Bn _ _ _ _ _=_;rw[XD];simp only[NA,Ψ,Rw,xC,Sd,yw,Ct,mx,Ι,ñ,ql,eJ];rw[iq];simp only[Ab,Vb];rw[(yP σ0 h (K:=K) (l:=l) (r:=r) (w:=w) d (ϑ rfl) f g X ό ϊ e),Sd,il,iq];simp only[Ab,Vb];rw[(yP σ0 h (K:=K) (l:=l) (r:=r) (w:=w) d (ϖ rfl) f g X ό ϊ i),Sd,il,nF]
noncomputable def wj(c:Nat->Int)(b:Nat)(h:Int):List Ka:=if h=1 then [(b+7,fA 0 0 (c 0) (c 1))]else [(b+7,fA 0 1 (c 0) (c 1)),(b+8,fA 1 0 (c 2) (c 3))]
def Xi(c:Nat->Int)(h:Int):Ha:=if h=1 then [ϓ 11 (fA 0 0 (c 0)$ c 1).fs]else [ϓ 11 (fA 0 1 (c 0)$ c 1).fs,ϓ 11 (fA 1 0 (c 2)$ c 3).fs]
def pW{c}(y:h=1\/h=2)(v:HD σ0.length=h)(e:∀ i,Cn (c i)){a}(w:a.Nodup)(z:a.length<=60):ck 15 5 Wl [Z h,Z 6,PL c,ύ$ a.map Z] σ0=Y (O σ0.length) (σ0++KB σ0.length a (wj c σ0.length h) (Xi c h)):=by
 have F:=SY h c$ σ0++[ϓ 15 []];have B:=zpc σ0 w z;have E:=λt=>ZV σ0 (K:=[]) (as:=[]) (A:=[]) (x:="learn") 2 Fw t rfl;have g:∀ b,uf b (PL c)=BD [ye 1 2 (c 0) (c 1) 20,ye 2 3 (c 2) (c 3) 30]:=λb=>rfl;have r:∀ b,Ox (PL c) b=Y (Ms$ PL c) b:=λb=>dU$ g b;have j:∃ m l,∀ X ό ϊ x,UB [BD$ O σ0.length,BD$ Z h,X,ό,ϊ,BD$ Z (0:Nat),BD$ ye 1 2 (c 0) (c 1) 20,x] (σ0++KB σ0.length a [] [])=Y (ϙ [BD$ O σ0.length,BD$ Z h,X,ό,ϊ,BD$ Z (0:Nat),BD$ ye 1 2 (c 0) (c 1) 20,BD$ Z 1]) (σ0++KB σ0.length a m l)/\UB [BD$ O σ0.length,BD$ Z h,X,ό,ϊ,BD$ Z (1:Nat),BD$ ye 2 3 (c 2) (c 3) 30,x] (σ0++KB σ0.length a m l)=Y (ϙ [BD$ O σ0.length,BD$ Z h,X,ό,ϊ,BD$ Z (1:Nat),BD$ ye 2 3 (c 2) (c 3) 30,BD$ Z 1]) (σ0++KB σ0.length a (wj c σ0.length h) (Xi c h)):=by
  rcases y with rfl|rfl
  ·refine⟨[(σ0.length+7,fA 0 0 (c 0) (c 1))],[ϓ 11 (fA 0 0 (c 0)$ c 1).fs],λX ό ϊ x=>⟨?_,?_⟩⟩
   ·exact hJ σ0 1 (p:=0) ⋯ (e 0) (e 1) X ό ϊ x (ϖ ⟨rfl,rfl,rfl,ϑ rfl⟩)$ ϑ ⟨by omega,rfl,rfl⟩
   ·exact hJ σ0 1 (p:=1) ⋯ (e 2) (e 3) X ό ϊ x (ϑ ⟨by omega,rfl,rfl⟩)$ ϑ ⟨by omega,rfl,rfl⟩
  ·refine⟨[(σ0.length+7,fA 0 1 (c 0) (c 1))],[ϓ 11 (fA 0 1 (c 0)$ c 1).fs],λX ό ϊ x=>⟨?_,?_⟩⟩
   ·exact hJ σ0 2 (p:=0) ⋯ (e 0) (e 1) X ό ϊ x (ϑ ⟨by omega,rfl,rfl⟩)$ ϖ ⟨rfl,rfl,rfl,ϑ rfl⟩
   ·exact hJ σ0 2 (p:=1) ⋯ (e 2) (e 3) X ό ϊ x (ϖ ⟨rfl,rfl,rfl,ϖ ⟨_,rfl,by simp[fA,Wb]⟩⟩)$ ϑ ⟨by omega,rfl,rfl⟩
 obtain⟨m,l,j⟩:=j;have C:Hn (Ms$ PL c) (xk 2$ yg (ud 5)$ yg (ud 6) Tk) UB 1001 0 [BD$ O σ0.length,BD$ Z h,BD$ Z 6,BD$ PL c,BD$ ύ$ a.map Z,Α,Α,Α] (σ0++KB σ0.length a [] [])=Y (ϙ [BD$ O σ0.length,BD$ Z h,BD$ Z 6,BD$ PL c,BD$ ύ$ a.map Z,BD$ Z (1:Nat),BD$ ye 2 3 (c 2) (c 3) 30,BD$ Z 1]) (σ0++KB σ0.length a (wj c σ0.length h) (Xi c h)):=by
  rw[ay (k:=1000) (XI (g _) (i:=0) rfl) (ρ1:=[BD$ O σ0.length,BD$ Z h,BD$ Z 6,BD$ PL c,BD$ ύ$ a.map Z,BD$ Z (0:Nat),BD$ ye 1 2 (c 0) (c 1) 20,Α]) rfl,(j _ _ _ _).1,Sd,il,ay (k:=999) (XI (g _) (i:=1) rfl) (ρ1:=[BD$ O σ0.length,BD$ Z h,BD$ Z 6,BD$ PL c,BD$ ύ$ a.map Z,BD$ Z (1:Nat),BD$ ye 2 3 (c 2) (c 3) 30,BD$ Z 1]) rfl,(j _ _ _ _).2,Sd,il];exact YF (k:=998)$ pP$ g _
 have H:∀ b,Ko (ύ$ a.map Z) Ϛ b=Y (ϒ İ) b:=λb=>nr rfl;have s:∀ (o:D->Ev->Option Ev) (body:Ev->M Fl) (ρ:Ev) (nx:NX),MI o body ρ nx=Hn nx o body 1001 0 ρ:=λJ J J J=>rfl;generalize σ0++KB σ0.length a (wj c σ0.length h) (Xi c h)=W,σ0++KB σ0.length a [] []=ϊ at *;have n:Wl [O σ0.length,Z h,Z 6,PL c,ύ$ a.map Z] (σ0++[ϓ 15 []])=Y Ϛ W:=by
  unfold Wl uS
  (try dsimp only);rw[vq,aI]
  show eo (Qb _ _ [BD$ O σ0.length,BD$ Z h,BD$ Z 6,BD$ PL c,BD$ ύ$ a.map Z,Α,Α,Α]$ σ0++[ϓ 15 []])=_;generalize PL c=L,ύ (a.map Z)=f at *;rw[Th];simp -implicitDefEqProofs only[QV,eM,Rw,Aw,Zr,Sd,yw,Ct,mx,NZ,F,ql,gQ,Yh];rw[Th,jw (d:=Z h) rfl rfl ⋯,Sd,Yh];rw[Th,jw (d:=Z 6) rfl rfl ⋯,Sd,Yh];rw[Th,jw (d:=Z 0) rfl rfl ⋯,Sd,Yh];rw[Th,jw (d:=Z 0) rfl rfl ⋯,Sd,Yh];rw[Th,az (k:=1) rfl rfl rfl,Sd,Yh];rw[Th,az (k:=2) rfl rfl rfl,Sd,Yh];rw[Th,az (k:=3) rfl rfl rfl,Sd,Yh];rw[Th,az (k:=4) rfl rfl rfl,Sd,Yh];rw[Th,az (k:=5) rfl rfl rfl,Sd,Yh];rw[Th,az (k:=6) rfl rfl rfl,Sd,Yh];have q:∀ G:Ev->M Fl,eo (G [BD$ O σ0.length,BD$ Z h,BD$ Z 6,BD L,BD f,Α,Α,Α]$ σ0++KB σ0.length [] [] [])=Y Ϛ W->eo (G [BD$ O σ0.length,BD$ Z h,BD$ Z 6,BD L,BD f,Α,Α,Α]$ σ0++ϓ 15 [("hand",Z h),("every",Z 6),("last_look",Z 0),("gave",Z 0),("known",O (σ0.length+1)),("accounts",O (σ0.length+2)),("claims",O (σ0.length+3)),("seen",O (σ0.length+4)),("asked",O (σ0.length+5)),("finishing",O (σ0.length+6))]::[ώ [],ώ [],ώ [],ώ [],ώ [],ώ []])=Y Ϛ W:=λG u=>by
   rw[<-u];unfold KB Hj;rw[v];rfl
  refine q _ ?_;generalize σ0++KB σ0.length [] [] []=ό at *;rw[Th];have I:wu (eT$ qb Ko (Aa 4)$ eC Ϛ) (ci Bb) (Aa 4) [BD$ O σ0.length,BD$ Z h,BD$ Z 6,BD L,BD f,Α,Α,Α] ό=Y f ό:=by
   have i:∀ b,Ko f Ϛ b=Y (ϒ İ) b:=H;simp[i]
  simp -implicitDefEqProofs only[QV,OW,Zr,Sd,E,Rw,I,yw,Ct,mx,M2,B,ql,gQ,Yh];rw[Mw];simp -implicitDefEqProofs only[Q2,Aw,Zr,Sd,r,ql,s];rw[C,mK]
 rw[KL,n,xA]
end
def tV{i}(h:0<=i/\i<=3) a:bS [Z i] a=Y (ϒ G6) a:=by
 unfold bS Dc;simp[(λa=>bt h a)]
def FU{l r u v w}(c:0<=l/\l<=3)(e:0<=r/\r<=3)(d:l≠r)(f:Cn u)(g:Cn v)(h:1<=w/\w<=100) a:DN [ye l r u v w] a=Y (ϒ G6) a:=by
 have b:=λa=>qT l r u v w a;have i:(l == r)=İ:=by simp[d]
 unfold DN Dc;unfold ye at b ⊢;simp -implicitDefEqProofs[(λa=>tV c a),(λa=>tV e a),(λa=>bt f a),(λa=>bt g a),(λa=>bt h a),b,i]
def jS c:cl (PL c)=G6:=by unfold PL ye;simp
def M4{c}(b:∀ i,Cn (c i)) a:ZU [PL c] a=Y (PL c) a:=by
 have d:∀ a,uf a (PL c)=BD [ye 1 2 (c 0) (c 1) 20,ye 2 3 (c 2) (c 3) 30]:=λa=>rfl;have n:=λa=>FU (l:=1) (r:=2) (w:=20) ⋯ ⋯ ⋯ (b 0) (b 1) ⋯ a;have o:=λa=>FU (l:=2) (r:=3) (w:=30) ⋯ ⋯ ⋯ (b 2) (b 3) ⋯ a;have s0:KF [BD$ PL c,BD$ Z (0:Nat),BD$ ye 1 2 (c 0) (c 1) 20] a=Y (ϙ [BD$ PL c,BD$ Z (0:Nat),BD$ ye 1 2 (c 0) (c 1) 20]) a:=by
  generalize PL c=L,ye 1 2 (c 0) (c 1) 20=P at *;simp[n]
 have s1:KF [BD$ PL c,BD$ Z (1:Nat),BD$ ye 2 3 (c 2) (c 3) 30] a=Y (ϙ [BD$ PL c,BD$ Z (1:Nat),BD$ ye 2 3 (c 2) (c 3) 30]) a:=by
  generalize PL c=L,ye 2 3 (c 2) (c 3) 30=P at *;simp[o]
 have m:Hn (Ms$ PL c) (xk 2$ yg (ud 1)$ yg (ud 2) Tk) KF 1001 0 [BD$ PL c,Α,Α] a=Y (ϙ [BD$ PL c,BD$ Z (1:Nat),BD$ ye 2 3 (c 2) (c 3) 30]) a:=by
  rw[ay (k:=1000) (XI (d a) (i:=0) rfl) (ρ1:=[BD$ PL c,BD$ Z (0:Nat),BD$ ye 1 2 (c 0) (c 1) 20])$ nr rfl,s0,Sd,il,ay (k:=999) (XI (d a) (i:=1) rfl) (ρ1:=[BD$ PL c,BD$ Z (1:Nat),BD$ ye 2 3 (c 2) (c 3) 30])$ nr rfl,s1,Sd,il];exact YF (k:=998)$ pP$ d a
 have g:∀ a,Ox (PL c) a=Y (Ms$ PL c) a:=λa=>dU$ d a;have h:∀ (e:D->Ev->Option Ev) (body:Ev->M Fl) (f:Ev) (nx:NX),MI e body f nx=Hn nx e body 1001 0 f:=λp p p p=>rfl;have j:Vf a (Io [PL c] a)=Y (PL c) a:=EA (by unfold ye;simp) a;have b:=jS c;unfold ZU dQ Dc;dsimp only;generalize PL c=L at *;simp[g,h,m,j,b,-N1]
def Ģ l r u v w c:NE [ye l r u v w] c=Y (Z$ u+v) c:=by
 have a:=kX l r u v w c;have b:=DX l r u v w c;unfold NE Dc;dsimp only
 simp_all
noncomputable def HL(w:Int):D:=ϻ 6 ["whole"] [Z w]
def Ă w a:iy [O a.length,w] (a++[ϓ 6 []])=Y Ϛ (a++[ϓ 6 [("whole",w)]]):=by
 unfold iy kf;have:=WG (ρ:=[BD$ O a.length,BD w]) (σ:=a) (cs:=[5,6,7,8]) (f:="whole") (d:=w) (c:=6) (fs:=[]) rfl ⋯;simp[this,Rk]
theorem E4 w a:Vf a (ck 6 2 iy [Z w] a)=Y (HL w) a:=by
 rw[gO,Ă,xA,aY ⋯];rfl
def yH{a}{n k i}{j}{rest}{c f g}{o}{d y}(m:a[i]?=BD d)(h:j (BD d::Α::rest) c=Y y f)(l:zi (O n) [y] f=Y Ϛ g) :
  di (Kh.seq a).nx n (ud 0) Yj j (k+1) i (o::Α::rest) c=di (Kh.seq a).nx n (ud 0) Yj j k (i+1) (BD d::Α::rest) g:=by
 rw[di];have e:(Kh.seq a).nx i c=BD (BD d):=by show BD a[i]?=_;rw[m]
 have t:ud 0 d (o::Α::rest)=BD (BD d::Α::rest):=rfl;have b:Yj (BD d::Α::rest) c=Y G6 c:=rfl;simp only[e,t];rw[tj,yA b,Sd,ka rfl,tj,yA h,Sd,tj,l,Sd]
def cP{a}{n k i}{c}{ρ}{b}(d:a[i]?=Α):di (Kh.seq a).nx n (ud 0) Yj c (k+1) i ρ b=Y () b:=by
 rw[di];have e:(Kh.seq a).nx i b=BD Α:=by show BD a[i]?=_;rw[d]
 simp[e]
def OX{b}{s}{ix}{fi}{fe}{c}{a d}(e:b c a=Y s a)(f:di s.nx a.length (ud 0) fi fe 1001 0 (Α::Α::(ix.map λi=>(c[i]?).getD Α)) (a++[ϐ []])=Y () d):xj (zm b) ix (ud 0) fi fe c a=Y (O a.length) d:=by
 show Rc (Rc _ JE) _ a=_;rw[tj,tj,e,Sd];show Rc (di s.nx a.length _ fi fe 1001 0$ Α::Α::(ix.map λi=>(c[i]?).getD Α)) _ _=_
 simp_all
theorem YV{a r}{xs}{d}(h:xs.length<1000):zi (O a.length) [d] (a++ϐ xs::r)=Y Ϛ (a++ϐ (xs++[d])::r):=by
 have e:jf (a++ϐ xs::r) a.length=BD xs:=by unfold jf;rw[Sv];rfl
 unfold zi;simp only[e];rw[ka (show xs.length<lg from h),sN];rfl
def HX{a r}{x}{b}{n}(c:a.length+1+r.length=n):uo b (a++x::r)=Y (O n) (a++x::(r++[ώ []])):=by
 rw[WJ,show (a++x::r).length=n by simp;lia];simp
noncomputable def p7(n:Nat)(c:Nat->Int):List$ Str × D:=[("pots",PL c),("day",Z 0),("claims",O (n+1)),("shown",O (n+2))]
noncomputable def BB(n:Nat)(c:Nat->Int):Ha:=[ϓ 9$ p7 n c,ϐ [HL$ c 0+c 1,HL$ c 2+c 3],ϐ [O$ n+3,O$ n+4],ώ [],ώ []]
def vZ{c}(p:∀ i,Cn (c i)) a:ck 9 2 ux [PL c] a=Y (O a.length) (a++BB a.length c):=by
 have h:∀ (l r u v w:Int) (a:Ha),rj (Kn 6 2 iy$ Ra (og 1 NE []$ Ra (Aa 0) Bb) Bb) [BD$ ye l r u v w,Α] a=Y (HL$ u+v) a:=λl r u v w a=>by
  have o:=E4 (u+v) a;have s:=λa=>Ģ l r u v w a;generalize HL _=ϋ,ye l r u v w=P at *;simp[s,o,-gO]
 have t:∀ a,Uv (PL c) a=Y (.seq [ye 1 2 (c 0) (c 1) 20,ye 2 3 (c 2) (c 3) 30]) a:=λa=>Sz _;have m:∀ (b:List$ Str × D) (r:Ha),b.lookup ("pots" : Str)=BD (PL c)->bi (Re (Gc [9,14,16] "pots")$ Aa 0) [BD$ O a.length,BD$ PL c] (a++ϓ 9 b::r)=Y (.seq [ye 1 2 (c 0) (c 1) 20,ye 2 3 (c 2) (c 3) 30]) (a++ϓ 9 b::r):=λb r q=>by
  have g:Gc [9,14,16] "pots" (O a.length) (a++ϓ 9 b::r)=Y (PL c) (a++ϓ 9 b::r):=lA (Sv (L:=ϓ 9 b::r)) rfl q;generalize PL c=L,[ye 1 2 (c 0) (c 1) 20,ye 2 3 (c 2) (c 3) 30]=TT at *;simp[g,t]
 have e:=OX (ix:=[]) (fi:=Yj) (fe:=rj$ Kn 6 2 iy$ Ra (og 1 NE []$ Ra (Aa 0) Bb) Bb) (m [("pots",PL c),("day",Z 0)] [] rfl)$ (yH (k:=1000) (d:=ye 1 2 (c 0) (c 1) 20) rfl (h ..)$ Rz$ by simp).trans$ (yH (k:=999) (d:=ye 2 3 (c 2) (c 3) 30) rfl (h ..)$ Rz$ by simp).trans$ cP (k:=998) rfl;have f:=OX (ix:=[]) (fi:=Yj) (fe:=uo) (m [("pots",PL c),("day",Z 0),("claims",O (a.length+1))] [ϐ [HL$ c 0+c 1,HL$ c 2+c 3]] rfl)$ (yH (k:=1000) (d:=ye 1 2 (c 0) (c 1) 20) rfl (HX (n:=a.length+3)$ by simp)$ YV$ by simp).trans$ (yH (k:=999) (d:=ye 2 3 (c 2) (c 3) 30) rfl (HX (n:=a.length+4)$ by simp)$ YV$ by simp).trans$ cP (k:=998) rfl;simp only[ai,Ou,Zc,Gb,lb,vg]at e f;rw[gO];have j:ux [O a.length,PL c] (a++[ϓ 9 []])=Y Ϛ (a++BB a.length c):=by
  unfold ux kf
  (try dsimp only);rw[vq,aI]
  show eo (Qb _ _ [BD$ O a.length,BD$ PL c]$ a++[ϓ 9 []])=_;rw[Th,jw (d:=PL c) rfl rfl (by simp only[eM,Rw,Aw,Zr,Sd,yw,Ct,mx,TY,(λa=>M4 p a)]),Sd,Yh];rw[Th,jw (d:=Z 0) rfl rfl (by simp only[xC]),Sd,Yh];show eo (Qb _ _ [BD$ O a.length,BD$ PL c]$ a++ϓ 9 [("pots",PL c),("day",Z 0)]::[])=_;rw[Th,gB (d:=O$ a.length+1) (ds':=[ϐ [HL$ c 0+c 1,HL$ c 2+c 3]]) rfl rfl e,Sd,Yh];show eo (jl _ _ _ _ [BD$ O a.length,BD$ PL c]$ a++ϓ 9 [("pots",PL c),("day",Z 0),("claims",O (a.length+1))]::[ϐ [HL$ c 0+c 1,HL$ c 2+c 3]])=_;rw[gB (d:=O$ a.length+2) (ds':=[ϐ [HL$ c 0+c 1,HL$ c 2+c 3],ϐ [O$ a.length+3,O$ a.length+4],ώ [],ώ []]) rfl rfl f,mK];rfl
 show kw a.length (ux [O a.length,PL c]$ a++[ϓ 9 []])=_;rw[j,xA]
noncomputable def wn(n:Nat):Kv:=(List.range n).map λ(i:Nat)=>(.inl (i:Int),Z (1+(i:Int) % 3))
def yj2 n:Ni (wn n) (.inl n) (Z$ 1+ n % 3)=wn (n+1):=by
 rw[hD _ λp a e=>?_]
 ·unfold wn;rw[ew,wc];rfl
 ·unfold wn at a;obtain⟨i,b,rfl⟩:=wa.mp a;have:=qe.mp b
  lia
noncomputable def Pg(h:Int):gV:=((List.range 60).filter λ(i:Nat)=>(1+(i:Int) % 3 == h)).map λ(i:Nat)=>(i:Int)
def jy{h}(a:h=1\/h=2):(Pg h).Nodup/\(Pg h).length=20:=by
 rcases a with rfl|rfl<;>exact⟨by decide +kernel,by decide +kernel⟩
theorem RK{n i}(b:i<=n) a:oo (wn n) i a=BD ((List.range n)[i]?.map λ(i:Nat)=>Ϗ [Z i,Z$ 1+ i % 3]):=by
 unfold oo wn;rw[Ja];cases e:(List.range n)[i]? with
 |some k=>rfl
 |none=>
  have:n<=i:=by simpa using e
  rw[ka (by simp;omega)];rfl
def YI{a}{n}{W}(b:a[n]?=BD (ώ W))(L:Ha):(a.set n (ϧ W)++L)[n]?=BD (ϧ W)/\(a.set n (ϧ W)++L).set n (ώ W)=a++L:=by
 have c:=(da.mp b).1;refine⟨nl$ Zb c,?_⟩;rw[jg _ _ ⋯,Ph,SD b]
def PX{f}{b}{a}{n}{W}(h:f b a=Y (O n) a)(c:a[n]?=BD (ώ W)):Ws f b a=Y (oo W) (a.set n$ ϧ W):=by
 show Rc _ AA a=_;rw[tj,h,Sd];unfold AA;simp[c]
def zhc{a}{n}(b:a[n]?=BD (ώ$ wn 60)) h:BJ [Z h,O n] a=Y (ύ$ (Pg h).map Z) a:=by
 have Vg:xj (Ws$ Aa 1) [0] (xk 2$ yg (ud 0)$ yg (ud 1) Tk) (eT$ qb wh (Aa 1)$ Aa 2) (Aa 0) [BD$ Z h,BD$ O n] a=Y (O a.length) (a.set n (ϧ$ wn 60)++[ϐ$ (Pg h).map Z]):=by
  show Rc _ _ a=_;rw[tj,PX ⋯ b,Sd,show a.length=(a.set n _).length by simp];generalize a.set n (ϧ$ wn 60)=c;show Rc (di _ c.length _ (eT$ qb wh (Aa 1)$ Aa 2) (Aa 0) 1001 0 [Α,Α,BD$ Z h]) _ (c++[ϐ []])=_;rw[tj,uF (xs:=List.range 60) (λp=>True) (λ(i:Nat)=>Ϗ [Z i,Z$ 1+(i:Int) % 3]) (λ(i:Nat)=>Z i) (λ(i:Nat)=>BD$ Z$ 1+(i:Int) % 3) (λ(i:Nat)=>(1+(i:Int) % 3 == h)) (λ(i:Nat)=>Z i) (λi j f=>RK (by simpa using f) _) (λx o m p=>⟨rfl,trivial⟩) (λx k j=>⟨by simp,λp=>by simp⟩) ⋯ 1001 0 Α Α [] trivial ⋯ ⋯ ⋯,Sd];show (Y (O c.length) _:dh D)=_;rw[List.drop_zero,ai];unfold Pg;rw[Ta];rfl
 have l:rj (IG (Aa 1)$ xj (Ws$ Aa 1) [0] (xk 2$ yg (ud 0)$ yg (ud 1) Tk) (eT$ qb wh (Aa 1)$ Aa 2)$ Aa 0) [BD$ Z h,BD$ O n] a=Y (ύ$ (Pg h).map Z) a:=by
  rw[Jq];have d:Aa 1 [BD$ Z h,BD$ O n] a=Y (O n) a:=by simp
  have t:IG (Aa 1) (xj (Ws$ Aa 1) [0] (xk 2$ yg (ud 0)$ yg (ud 1) Tk) (eT$ qb wh (Aa 1)$ Aa 2)$ Aa 0) [BD$ Z h,BD$ O n] a=Y (O a.length) (a++[ϐ$ (Pg h).map Z]):=by
   show cu _ _ _ a=_;unfold cu;simp only[d,b,Vg];unfold Sy;simp only[af,(YI b [ϐ$ (Pg h).map Z]).1,(YI b [ϐ$ (Pg h).map Z]).2]
  rw[t];exact BA$ IF _
 have e:cl (ύ$ (Pg h).map Z)=G6:=IF _;unfold BJ Dc;dsimp only;generalize ύ ((Pg h).map Z)=g at *;simp[l,e,-Jq]
def ĥ{ks}(b:ks=[2,1]\/ks=[1,2]) a:Vf a (kA (ύ$ ks.map Z) a)=Y (ύ [Z 1,Z 2]) a:=by
 have e:kA (ύ$ ks.map Z) a=Y (O a.length) (a++[ϐ [Z 1,Z 2]]):=by
  have s:Iq (Jk ks)=[1,2]:=by
   rcases b with rfl|rfl
   ·exact rB ((Tw _).trans$ .swap 1 2 []) (tD _) ⋯
   ·exact rB (Tw [1,2]) (tD [1,2]) ⋯
  unfold kA;rw[show uf a _=BD _ from rfl];simp[kh,XT];rw[ka (by rcases b with rfl|rfl<;>decide),s];rfl
 rw[e];exact BA ⋯
theorem oH a b c d:Xu a b c d=(b c d).bind (OH a):=nr rfl
theorem VI a b c:OH a b c=Y (b++a) c:=nr rfl
noncomputable def SH(b:Nat)(c:Nat->Int)(r:Ha):Ha:=ϓ 16 (Gv b (b+6) (b+7) (b+8)$ PL c)::(BB (b+1) c++r)
def N2 a b c r:(a++SH b c r).length=a.length+6+r.length:=by simp[SH,BB];omega
section
variable{σ0:Ha}{c:Nat->Int}
def SF{r}{a}{f}{d}(b:a.contains 16=G6)(e:(Gv σ0.length (σ0.length+6) (σ0.length+7) (σ0.length+8)$ PL c).lookup f=BD d):Gc a f (O σ0.length) (σ0++SH σ0.length c r)=Y d (σ0++SH σ0.length c r):=lA (Sv) b e
def Ú{h}{r}:lB [O$ σ0.length+1] (σ0++ϓ 16 h::(BB (σ0.length+1) c++r))=Y (PL c) (σ0++ϓ 16 h::(BB (σ0.length+1) c++r)):=by
 have g:Gc [9,14,16] "pots" (O _) _=Y _ (σ0++ϓ 16 h::(BB (σ0.length+1) c++r)):=lA (qt 1) rfl rfl;have b:∀ a,Vf a (Io [PL c] a)=Y (PL c) a:=λa=>EA (by unfold ye;simp) a;have d:=jS c;unfold lB eh;dsimp only
 simp_all
variable(hc:∀ i,Cn (c i)){n:Nat}(hn:σ0[n]?=BD (ώ$ wn 60))
include hc hn
theorem yR{w}(b:w=1\/w=2){ks a}{T}{r}{N}(t:σ0.length+9+r.length=N)(i:HD N=w)(k:Ni ks (.inl w) (O N)=a)(l:ks.length<1000) L g h:DM [BD$ O σ0.length,BD$ PL c,L,BD$ Z 6,BD$ O n,BD$ O n,BD$ Z w,g,h] (σ0++SH σ0.length c (ώ ks::ϐ []::ϡ T::r))=Y (ϙ [BD$ O σ0.length,BD$ PL c,L,BD$ Z 6,BD$ O n,BD$ O n,BD$ Z w,g,h]) (σ0++SH σ0.length c (ώ a::ϐ []::ϡ T::(r++KB N (Pg w) (wj c N w) (Xi c w)))):=by
 have f:(σ0++SH σ0.length c (ώ ks::ϐ []::ϡ T::r)).length=N:=by rw[N2];simp;lia
 have mk:=pW _ w b (by rw[f];exact i) hc (jy b).1 (by rw[(jy b).2];lia);rw[f]at mk;have mk:ck 15 5 Wl [Z w,Z 6,PL c,ύ$ (Pg w).map Z] (σ0++SH σ0.length c (ώ ks::ϐ []::ϡ T::r))=Y (O N) (σ0++SH σ0.length c (ώ ks::ϐ []::ϡ T::(r++KB N (Pg w) (wj c N w) (Xi c w)))):=by rw[mk];simp[SH]
 have wd:=zhc (n:=n) (nl (j:=SH σ0.length c$ ώ ks::ϐ []::ϡ T::r) hn) w;have pl:Gc [9,14,16] "pots" (O σ0.length) _=Y _ (σ0++SH σ0.length c (ώ ks::ϐ []::ϡ T::r)):=SF rfl rfl;have d:∀ r,Gc [16] "keepers" (O σ0.length) _=Y (O$ σ0.length+6) (σ0++SH σ0.length c r):=λr=>SF rfl rfl;have d:=d$ ώ ks::ϐ []::ϡ T::(r++KB N (Pg w) (wj c N w) (Xi c w));have m:∀ e,zn e (O N) (O$ σ0.length+6) (Z w) (σ0++SH σ0.length c (ώ ks::ϐ []::ϡ T::(r++KB N (Pg w) _ (Xi c w))))=Y (ϙ e) (σ0++SH σ0.length c (ώ a::ϐ []::ϡ T::(r++KB N (Pg w) (wj c N w) (Xi c w)))):=λe=>by
  rw[Uq (kvs:=ks) (qt 6) l,k,Qy 6];rfl
 generalize σ0++SH σ0.length c (ώ a::ϐ []::ϡ T::(r++KB N (Pg w) (wj c N w) (Xi c w)))=s,σ0++SH σ0.length c (ώ ks::ϐ []::ϡ T::(r++KB N (Pg w) (wj c N w) (Xi c w)))=q,σ0++SH σ0.length c (ώ ks::ϐ []::ϡ T::r)=ό,PL c=o,ύ ((Pg w).map Z)=p at *;simp only[tQ,NL,oH,Rw,Aw,Zr,Sd,yw,EK,pl,eM,Ct,mx,YZ,wd,VI,Ce,mk,ql,jX,d,nV,m]
end
def Ê w:∃ k,Zz [ϔ "word",Z w]=BD k:=TC λd a=>by
 simp at a;rcases a with rfl|rfl
 ·exact aK ..
 ·exact nz ..
def ypn{σ0}{c}{i b1 b2}{T:List TK}(v:T.length<=i / 3)(x:i<60){r} h j l m n o:∃ a,GD [BD$ O σ0.length,h,j,l,m,n,o,BD$ Z i,BD$ Z$ 1+ i % 3] (σ0++SH σ0.length c (ώ [(.inl 1,O b1),(.inl 2,O b2)]::ϐ []::ϡ T::r))=Y (ϙ [BD$ O σ0.length,h,j,l,m,n,o,BD$ Z i,BD$ Z$ 1+ i % 3]) (σ0++SH σ0.length c (ώ [(.inl 1,O b1),(.inl 2,O b2)]::ϐ []::ϡ a::r))/\a.length<=(i+1) / 3:=by
 have g:Gc [16] "keepers" (O σ0.length) _=Y _ (σ0++SH σ0.length c (ώ [(.inl 1,O b1),(.inl 2,O b2)]::ϐ []::ϡ T::r)):=SF rfl rfl;have s:Gc [16] "things" (O σ0.length) _=Y _ (σ0++SH σ0.length c (ώ [(.inl 1,O b1),(.inl 2,O b2)]::ϐ []::ϡ T::r)):=SF rfl rfl;have f:ph (σ0++SH σ0.length c (ώ [(.inl 1,O b1),(.inl 2,O b2)]::ϐ []::ϡ T::r)) (O$ σ0.length+6)=BD [(.inl 1,O b1),(.inl 2,O b2)]:=by unfold ph;dsimp only;rw[qt 6];rfl
 have gt:(σ0++SH σ0.length c (ώ [(.inl 1,O b1),(.inl 2,O b2)]::ϐ []::ϡ T::r))[σ0.length+8]?=BD (ϡ T):=qt 8;have t:∀ a,(σ0++SH σ0.length c (ώ [(.inl 1,O b1),_]::ϐ []::ϡ T::r)).set (σ0.length+8) (ϡ a)=σ0++SH σ0.length c (ώ [(.inl 1,O b1),(.inl 2,O b2)]::ϐ []::ϡ a::r):=λa=>by rw[Qy 8];rfl
 have b:(1+(i:Int) % 3=1\/1+(i:Int) % 3=2)\/(1+(i:Int) % 3=3/\i % 3=2):=by omega
 generalize (1+(i:Int) % 3)=w at *;generalize p:σ0++SH σ0.length c (ώ [(.inl 1,O b1),(.inl 2,O b2)]::ϐ []::ϡ T::r)=ό at *;rcases b with b|⟨rfl,y⟩
 ·have d:zp (Z w) (O$ σ0.length+6) ό=Y (ϒ İ) ό:=by
   unfold zp;simp only[Ai,f];rcases b with rfl|rfl<;>rfl
  refine⟨T,?_,by omega⟩;rw[p];simp[g,d]
 ·have d:zp (Z 3) (O$ σ0.length+6) ό=Y (ϒ G6) ό:=by
   unfold zp;simp only[Ai,f];rfl
  obtain⟨k,q⟩:=Ê i;have st:∀ e,Ux e (O$ σ0.length+8) (Ϗ [ϔ "word",Z i]) ό=Y (ϙ e) (σ0++SH σ0.length c (ώ [(.inl 1,O b1),(.inl 2,O b2)]::ϐ []::ϡ (Lr T k)::r)):=λe=>by
   unfold Ux;simp only[q,gt];rw[ka (show T.length<lg from(show T.length<1000 by omega)),t]
  refine⟨Lr T k,?_,by have:=pR T k;omega⟩;generalize σ0++SH σ0.length c (ώ [(.inl 1,O b1),(.inl 2,O b2)]::ϐ []::ϡ (Lr T k)::r)=u at *;simp[g,s,d,st]
section
variable{σ0:Ha}{c:Nat->Int}{n:Nat}(hn:σ0[n]?=BD (ώ$ wn 60))
include hn
theorem ü{b1 b2}{r} a b d f g:∃ T h j,Uw (Aa 5) (xp (Ws$ Aa 5) (xk 2$ yg (ud 7)$ yg (ud 8) Tk) GD) [BD$ O σ0.length,a,b,d,f,BD$ O n,g,Α,Α] (σ0++SH σ0.length c (ώ [(.inl 1,O b1),(.inl 2,O b2)]::ϐ []::ϡ []::r))=Y (ϙ [BD$ O σ0.length,a,b,d,f,BD$ O n,g,h,j]) (σ0++SH σ0.length c (ώ [(.inl 1,O b1),(.inl 2,O b2)]::ϐ []::ϡ T::r))/\T.length<=20:=by
 have k:=OI (nx:=oo _) (tg:=xk 2$ yg (ud 7)$ yg (ud 8) Tk) (body:=GD) (N:=60) (λi t l=>∃ T h j,t=[BD$ O (σ0.set n$ ϧ$ wn 60).length,a,b,d,f,BD$ O n,g,h,j]/\l=σ0.set n _++SH (σ0.set n _).length c (ώ [(.inl 1,O b1),_]::ϐ []::ϡ T::r)/\T.length<=i / 3) (λi t l s v=>by
  obtain⟨T,h,j,rfl,rfl,q⟩:=v;obtain⟨u,e,m⟩:=ypn (σ0:=σ0.set n$ ϧ$ wn 60) (c:=c) (b1:=b1) (b2:=b2) q s (r:=r) a b d f (BD$ O n) g;refine⟨_,_,_,_,(RK ⋯ _).trans (by rw[List.getElem?_range s];rfl),rfl,e,u,_,_,rfl,rfl,m⟩) (λl=>(RK (ya _) l).trans ⋯) 1001 0 [BD$ O σ0.length,a,b,d,f,BD$ O n,g,Α,Α] (σ0.set n _++SH (σ0.set n$ ϧ$ wn 60).length c (ώ [(.inl 1,O b1),(.inl 2,O b2)]::ϐ []::ϡ []::r)) ⋯ ⋯ ⟨[],Α,Α,by simp,rfl,by simp⟩
 obtain⟨w,x,k,T,h,j,rfl,rfl,q⟩:=k;simp only[dw]at k;refine⟨T,h,j,?_,by lia⟩;have p:∀ r,(σ0++r)[n]?=BD _:=λr=>nl hn;have o:Aa 5 [BD$ O σ0.length,a,b,d,f,BD$ O n,g,Α,Α] (σ0++SH σ0.length c (ώ [(.inl 1,O b1),(.inl 2,O b2)]::ϐ []::ϡ []::r))=Y (O n) (σ0++SH σ0.length c (ώ [(.inl 1,O b1),(.inl 2,O b2)]::ϐ []::ϡ []::r)):=by simp
 have Vg:xp (Ws$ Aa 5) (xk 2$ yg (ud 7)$ yg (ud 8) Tk) GD [BD$ O σ0.length,a,b,d,f,BD$ O n,g,Α,Α] (σ0++SH σ0.length c (ώ [(.inl 1,O b1),(.inl 2,O b2)]::ϐ []::ϡ []::r))=Y (ϙ [BD$ O σ0.length,a,b,d,f,BD$ O n,g,h,j]) (σ0.set n (ϧ$ wn 60)++SH σ0.length c (ώ [(.inl 1,O b1),(.inl 2,O b2)]::ϐ []::ϡ T::r)):=by
  rw[Mw,PX o$ p _,ql,jg _ _$ (da.mp hn).1];exact k
 show cu _ _ _ _=_;unfold cu;simp only[o,p,Vg];unfold Sy WH;simp only[af,(YI hn _).1,(YI hn _).2]
end
def KK(b:Nat)(c:Nat->Int):Ha:=KB (b+9) (Pg 1) (wj c (b+9) 1) (Xi c 1)++KB (b+17) (Pg 2) (wj c (b+17) 2) (Xi c 2)
def Hs(b:Nat)(c:Nat->Int)(T:List TK):Ha:=SH b c$ ώ [(.inl 1,O (b+9)),(.inl 2,O (b+17))]::ϐ []::ϡ T::KK b c
def kY{σ0}{c}(l:∀ i,Cn (c i)){n}(m:σ0[n]?=BD (ώ$ wn 60))(t:HD (σ0.length+9)=1)(u:HD (σ0.length+17)=2){ks}(z:ks=[2,1]\/ks=[1,2]):∃ T,ck 16 5 ll [PL c,ύ$ ks.map Z,Z 6,O n] σ0=Y (O σ0.length) (σ0++Hs σ0.length c T)/\T.length<=20:=by
 have bk:=vZ l$ σ0++[ϓ 16 []];have A:=λL a b=>yR l m (w:=1) (ϑ rfl) (ks:=[]) (T:=[]) (r:=[]) (N:=σ0.length+9) ⋯ t rfl ⋯ L a b;have p:=λL a b=>yR l m (w:=2) (ϖ rfl) (ks:=[(.inl 1,O (σ0.length+9))]) (T:=[]) (r:=KB (σ0.length+9) (Pg 1) (wj c (σ0.length+9) 1)$ Xi c 1) (N:=σ0.length+17) (by simp[KB,Xi]) u rfl (show (1:Nat)<1000 by decide) L a b;obtain⟨T,H,I,G,y⟩:=ü m (c:=c) (b1:=σ0.length+9) (b2:=σ0.length+17) (r:=KK σ0.length c) (BD$ PL c) (BD$ ύ$ ks.map Z) (BD$ Z 6) (BD$ O n) (BD$ Z 2);refine⟨T,?_,y⟩;have F:=λj=>ĥ z j;rw[KL];have q:ll [O σ0.length,PL c,ύ$ ks.map Z,Z 6,O n] (σ0++[ϓ 16 []])=Y Ϛ (σ0++Hs σ0.length c T):=by
  unfold ll jQ
  (try dsimp only);rw[vq,aI]
  generalize v:ύ (ks.map Z)=e at *;show eo (Qb _ _ [BD$ O σ0.length,BD$ PL c,BD e,BD$ Z 6,BD$ O n,Α,Α,Α,Α]$ σ0++ϓ 16 []::[])=_;have b1:∀ r,Kn 9 2 ux (Ra (Aa 1) Bb) (BD (O σ0.length)::BD (PL c)::r) (σ0++ϓ 16 []::[])=Y (O$ σ0.length+1) (σ0++ϓ 16 []::BB (σ0.length+1) c):=λr=>by
   simp only[Gb,lb,vg,Zc,Ou,ai]at bk;generalize PL c=L at *;simp only[NL,Rw,Aw,Zr,Sd,yw,Ct,mx];exact bk
  rw[Th,gB (d:=O$ σ0.length+1) (ds':=BB (σ0.length+1) c) rfl rfl$ b1 _,Sd,Yh];show eo (Qb _ _ [BD$ O σ0.length,BD$ PL c,BD e,BD$ Z 6,BD$ O n,Α,Α,Α,Α]$ σ0++ϓ 16 [("public",O (σ0.length+1))]::(BB (σ0.length+1) c++[]))=_;rw[Th,jw (d:=PL c) rfl rfl (by
   have s:Gc [16] "public" (O σ0.length) (σ0++ϓ 16 [("public",O (σ0.length+1))]::(BB (σ0.length+1) c++[]))=Y (O$ σ0.length+1) (σ0++ϓ 16 [("public",O (σ0.length+1))]::(BB (σ0.length+1) c++[])):=lA (Sv (L:=ϓ 16 [("public",O (σ0.length+1))]::(BB (σ0.length+1) c++[]))) rfl rfl;have C:=Ú (σ0:=σ0) (c:=c) (h:=[("public",O (σ0.length+1))]) (r:=[]);have E:∀ g,Qi [(9,lB)] 1 "made_of" g (O$ σ0.length+1) (σ0++ϓ 16 [("public",O (σ0.length+1))]::(BB (σ0.length+1) c++[]))=(g$ σ0++ϓ 16 [("public",O (σ0.length+1))]::(BB (σ0.length+1) c++[])).bind (Gi 1 lB$ O$ σ0.length+1):=λg=>Ym (Yw$ qt 1) rfl rfl;simp only[OW,EK,Zr,Sd,s,E,Ct,g5,C]),Sd,Yh]
  rw[Th,jw (d:=Z 6) rfl rfl (by simp only[Aw,Zr]),Sd,Yh];rw[Th,az (k:=6) rfl rfl rfl,Sd,Yh];have B:∀ (x:Ob) (r:Ha) (f:Ev),r.length=6->nv Bb f (σ0++x::r)=Y (O$ σ0.length+7) (σ0++x::(r++[ϐ []])):=λx r f o=>by
   simp only[jU,Ct,Sd];show (Y (O (σ0++x::r).length) ((σ0++x::r)++[ϐ []]):dh D)=_;rw[show (σ0++x::r).length=σ0.length+7 by simp[o]];simp
  have lt:∀ (x:Ob) (r:Ha) (f:Ev),r.length=7->PM f (σ0++x::r)=Y (O$ σ0.length+8) (σ0++x::(r++[ϡ []])):=λx r f o=>by
   show (Y (O (σ0++x::r).length) ((σ0++x::r)++[ϡ []]):dh D)=_;rw[show (σ0++x::r).length=σ0.length+8 by simp[o]];simp
  rw[Th,gB (d:=O$ σ0.length+7) rfl rfl$ B _ _ _ rfl,Sd,Yh];rw[Th,gB (d:=O$ σ0.length+8) rfl rfl$ lt _ _ _ rfl,Sd,Yh];show eo (Qb _ _ [BD$ O σ0.length,BD$ PL c,BD e,BD$ Z 6,BD$ O n,Α,Α,Α,Α]$ σ0++SH σ0.length c [ώ [],ϐ [],ϡ []])=_;have ow:∀ ό,wu (eT$ qb Ko (Aa 4)$ eC Ϛ) (eC$ ϩ [] []) (Aa 4) [BD$ O σ0.length,BD$ PL c,BD e,BD$ Z 6,BD$ O n,Α,Α,Α,Α] ό=Y (O n) ό:=λό=>by
   have i:∀ j,Ko (O n) Ϛ j=Y (ϒ İ) j:=λj=>nr rfl;generalize PL c=L at *;simp[i]
  rw[Th,RN,ow,ql,Ŗ,Sd,Yh];show eo (Qb _ _ [BD$ O σ0.length,BD$ PL c,BD e,BD$ Z 6,BD$ O n,BD$ O n,Α,Α,Α]$ σ0++SH σ0.length c [ώ [],ϐ [],ϡ []])=_;rw[Th,XD,NA,Jq,EK];simp only[Aw,Zr,Sd,F,Sz,ql,eJ];rw[iq];simp only[Ab,Vb];rw[A,Sd,il,iq];simp only[Ab,Vb];have p:∀ a b,DM [BD$ O σ0.length,BD$ PL c,BD e,BD$ Z 6,BD$ O n,BD$ O n,BD$ Z 2,a,b] (σ0++SH σ0.length c (ώ (Ni [] (.inl 1)$ O$ σ0.length+9)::ϐ []::ϡ []::([]++KB (σ0.length+9) (Pg 1) (wj c (σ0.length+9) 1) (Xi c 1))))=Y (ϙ [BD$ O σ0.length,BD$ PL c,BD e,BD$ Z 6,BD$ O n,BD$ O n,BD$ Z 2,a,b]) (σ0++SH σ0.length c (ώ [(.inl 1,O (σ0.length+9)),(.inl 2,O (σ0.length+17))]::ϐ []::ϡ []::KK σ0.length c)):=λa b=>p _ a b;rw[p,Sd,il,nF,Sd,Yh,G,mK];rfl
 show kw σ0.length (ll [O σ0.length,PL c,ύ$ ks.map Z,Z 6,O n]$ σ0++[ϓ 16 []])=_;rw[q,xA]
noncomputable def cC(a:gV)(k:Nat):Int:=VM a k % 1000000000001
def ũ a k:Cn$ cC a k:=by unfold Cn cC;omega
noncomputable def CL(c:Nat->Int):D:=ύ [Z$ c 0,Z$ c 1,Z$ c 2,Z$ c 3]
def ů a:u1 [BD$ ϯ a,Α,Α,Α,Α,Α,Α,Α,Α,Α,Α,Α] []=Y (ϙ [BD$ ϯ a,BD$ CL$ cC a,Α,Α,Α,Α,Α,Α,Α,Α,Α,Α]) []:=by
 have d:∀ b,Yu (Z 4) b=Y (.seq$ (List.range 4).map λ(i:Nat)=>Z i) b:=λb=>by rw[NF ⋯ ⋯];rfl
 have l:=ev (xs:=List.range 4) (s:=.seq _) (src:=Zs$ eC$ Z 4) (ix:=[0]) (fe:=qb Fi (og 2 iG []$ Ra (Aa 2)$ Ra (Aa 0) Bb)$ qb Wj (qb Ap (eC$ Z 10)$ eC$ Z 12)$ eC$ Z 1) (ρ:=[BD _,Α,Α,Α,Α,Α,Α,Α,Α,Α,Α,Α]) (σ:=[]) (λ(i:Nat)=>Z i) (λ(i:Nat)=>Z$ cC a i) (by simp[d]) (λi e=>Cb BD$ Bq _ _ i) ⋯ (λi e j=>by
  show qb Fi _ _ [BD _,Α,BD$ ϯ a] _=_;simp[(λc=>Ē a i _ c),jM,cC]) (λe e=>rfl)
 have l:rj _ [BD _,Α,Α,Α,Α,Α,Α,Α,Α,Α,Α,Α] []=Y (CL _) []:=l;unfold u1;generalize CL (cC a)=C at *;simp[l,-Jq]
def ô c S a:u2 [S,BD$ CL c,Α,Α,Α,Α,Α,Α,Α,Α,Α,Α] a=Y (ϙ [S,BD$ CL c,BD$ PL c,Α,Α,Α,Α,Α,Α,Α,Α,Α]) a:=by
 unfold u2 PL ye CL;simp
def j4 S C P:∃ y,u4 [S,C,P,BD$ O 0,Α,Α,Α,Α,Α,Α,Α,Α] [ώ []]=Y (ϙ [S,C,P,BD$ O 0,y,Α,Α,Α,Α,Α,Α,Α]) [ώ$ wn 60]:=by
 have j:∀ a,Yu (Z 60) a=Y (.seq$ (List.range 60).map λ(i:Nat)=>Z i) a:=λa=>by rw[NF ⋯ ⋯];rfl
 obtain⟨l,m,e,y,rfl,rfl⟩:=MD (S:=.seq _) (xs:=(List.range 60).map λ(i:Nat)=>Z i) (tg:=ud 4) (body:=wT) (ρ:=[S,C,P,BD$ O 0,Α,Α,Α,Α,Α,Α,Α,Α]) (σ:=[ώ []]) (λi ρ a=>∃ y,ρ=[S,C,P,BD$ O 0,y,Α,Α,Α,Α,Α,Α,Α]/\a=[ώ$ wn i]) ⋯ (ϑ rfl) (λi d ρ a c f=>by
  obtain⟨y,rfl,rfl⟩:=f;rw[Ja]at c;obtain⟨k,h,rfl⟩:=Ga.mp c;obtain⟨g,b⟩:=da.mp h;rw[List.getElem_range]at b;subst b;simp only[Me]at g;refine⟨_,[S,C,P,BD$ O 0,BD$ Z i,Α,Α,Α,Α,Α,Α,Α],_,rfl,?_,_,rfl,rfl⟩;have st:∀ ρ,zn ρ (Z _) (O 0) (Z i) [ώ$ wn i]=Y (ϙ ρ) [ώ$ wn$ i+1]:=λρ=>by
   rw[Uq (kvs:=wn i) rfl (by unfold wn;simp;omega),yj2];rfl
  simp[st]) ⟨Α,rfl,rfl⟩
 refine⟨y,?_⟩;rw[Ia,Me]at e;unfold u4;rw[XD];simp only[V8,xC,Sd,j,ql];exact e
def Č{c}(b:∀ i,Cn (c i)) S C y:∃ T,u5 [S,C,BD$ PL c,BD$ O 0,y,Α,Α,Α,Α,Α,Α,Α] [ώ$ wn 60]=Y (ϙ [S,C,BD$ PL c,BD$ O 0,y,BD$ O 1,Α,Α,Α,Α,Α,Α]) ([ώ$ wn 60]++Hs 1 c T)/\T.length<=20:=by
 obtain⟨T,e,a⟩:=kY (σ0:=[ώ _]) b (n:=0) rfl rfl rfl (ϑ rfl);refine⟨T,?_,a⟩;have e:ck 16 5 ll [PL c,ύ [Z 2,Z 1],Z 6,O 0] [ώ _]=Y _ _:=e;simp[e,oH,VI]
def N4 b c T:(Hs b c T).length=26:=by simp[Hs,SH,BB,KK,KB,Xi]
def ş{c}(d:∀ i,Cn (c i)) S C y a:∃ T,u6 [S,C,BD$ PL c,BD$ O 0,y,BD$ O 1,Α,Α,Α,Α,Α,Α] ([ώ$ wn 60]++Hs 1 c a)=Y (ϙ [S,C,BD$ PL c,BD$ O 0,y,BD$ O 1,BD$ O 27,Α,Α,Α,Α,Α]) ([ώ$ wn 60]++Hs 1 c a++Hs 27 c T)/\T.length<=20:=by
 have L:([ώ$ wn 60]++Hs 1 c a).length=27:=by rw[Gb,N4];rfl
 obtain⟨T,e,b⟩:=kY (σ0:=[ώ _]++Hs 1 c a) d (n:=0) rfl (by rw[L];rfl) (by rw[L];rfl) (ks:=[1,2]) (ϖ rfl);refine⟨T,?_,b⟩;rw[L]at e;have e:ck 16 5 ll [PL c,ύ [Z 1,Z 2],Z 6,O 0] ([ώ _]++Hs 1 c a)=Y (O 27) ([ώ$ wn 60]++Hs 1 c a++Hs 27 c T):=e;unfold u6;generalize PL c=P,[ώ$ wn 60]++Hs 1 c a++Hs 27 c T=ϊ,[ώ$ wn 60]++Hs 1 c a=ό at *;simp[e,oH,VI]
theorem OT:∀ {n i:Nat},i<n->qi (wn n) (.inl (i:Int))=BD (Z$ 1+(i:Int) % 3)
 |0,i,h=>by lia
 |n+1,i,h=>by
  have e:wn (n+1)=wn n++[(.inl (n:Int),Z (1+(n:Int) % 3))]:=by unfold wn;rw[ew,wc];rfl
  rw[e];unfold qi;rw[List.find?_append];by_cases c:i<n
  ·have b:=OT c;unfold qi at b;obtain⟨p,a,f⟩:=Ga.mp b;rw[a];simp[f]
  ·have:i=n:=by lia
   subst this;have k:(wn i).find? (λg=>decide$ g.1=(Sum.inl (i:Int):Bd))=Α:=Kg.mpr λp a=>by
    unfold wn at a;obtain⟨j,d,rfl⟩:=wa.mp a;have:=qe.mp d;simp;omega
   rw[k];simp
theorem O0{a}(d:a[0]?=BD (ώ$ wn 60)) h S C P y A B t:rj (xj (zm$ Zs$ eC$ Z 60) [8,3] (ud 0) (eT$ qb wh (qb Lh (Aa 3)$ Aa 0)$ Aa 2)$ Aa 0) [S,C,P,BD$ O 0,y,A,B,t,BD$ Z h,Α,Α,Α] a=Y (ύ$ (Pg h).map Z) a:=by
 have e:∀ b,Yu (Z 60) b=Y (.seq$ (List.range 60).map λ(i:Nat)=>Z i) b:=λb=>by rw[NF ⋯ ⋯];rfl
 have l:=JD (xs:=List.range 60) (s:=.seq _) (src:=Zs$ eC$ Z 60) (ix:=[8,3]) (fi:=eT$ qb wh (qb Lh (Aa 3)$ Aa 0)$ Aa 2) (fe:=Aa 0) (ρ:=[S,C,P,BD$ O 0,y,A,B,t,BD$ Z h,Α,Α,Α]) (σ:=a) (λ(i:Nat)=>Z i) (λ(i:Nat)=>Z i) (λ(i:Nat)=>(1+(i:Int) % 3 == h)) (by simp[e]) (λi f=>Cb BD$ Bq _ _ i) ⋯ (λi c j=>by
  exact⟨by simp[(Qv (nl (j:=j) d)$ OT$ qe.mp c)],λf=>by simp⟩) (λf f f=>rfl)
 rw[l];unfold Pg;rw[Ta];rfl
def CP{σ6}{c}(h:∀ i,Cn (c i))(f:σ6[0]?=BD (ώ$ wn 60)){w}(b:w=1\/w=2){ks a}{r}{N}(q:σ6.length+1+r.length=N)(g:HD N=w)(k:Ni ks (.inl w) (O N)=a)(l:ks.length<1000) S C y A B:AJ [S,C,BD$ PL c,BD$ O 0,y,A,B,BD$ O σ6.length,BD$ Z w,Α,Α,Α] (σ6++ώ ks::r)=Y (ϙ [S,C,BD$ PL c,BD$ O 0,y,A,B,BD$ O σ6.length,BD$ Z w,Α,Α,Α]) (σ6++ώ a::(r++KB N (Pg w) (wj c N w) (Xi c w))):=by
 have e:(σ6++ώ ks::r).length=N:=by simp;lia
 have mk:=pW _ w b (by rw[e];exact g) h (jy b).1 (by rw[(jy b).2];omega);rw[e]at mk;have mk:ck 15 5 Wl [Z w,Z 6,PL c,ύ$ (Pg w).map Z] (σ6++ώ ks::r)=Y (O N) (σ6++ώ ks::(r++KB N (Pg w) (wj c N w) (Xi c w))):=by rw[mk];simp
 have wd:=O0 (nl (j:=ώ ks::r) f) w S C (BD$ PL c) y A B$ BD$ O σ6.length;have st:∀ d,zn d _ (O σ6.length) (Z w) (σ6++ώ ks::(r++KB N (Pg w) (wj c N w) (Xi c w)))=Y (ϙ d) (σ6++ώ a::(r++KB N (Pg w) (wj c N w) (Xi c w))):=λd=>by
  rw[Uq (kvs:=ks) Sv l,k,sN];rfl
 generalize σ6++ώ a::(r++KB N (Pg w) (wj c N w) (Xi c w))=p,σ6++ώ ks::(r++KB N (Pg w) (wj c N w) (Xi c w))=o,σ6++ώ ks::r=ό,PL c=m,ύ ((Pg w).map Z)=n at *;simp only[tQ,NL,oH,Rw,Aw,Zr,xC,Sd,yw,Ct,mx,wd,VI,Ce,mk,ql,jX,nV,st]
def S6(c:Nat->Int)(a b:List TK):Ha:=[ώ$ wn 60]++Hs 1 c a++Hs 27 c b
theorem kN c a b:(S6 c a b).length=53:=by rfl
def S8(c:Nat->Int)(a b:List TK):Ha:=S6 c a b++ώ [(.inl 1,O 54),(.inl 2,O 62)]::(KB 54 (Pg 1) (wj c 54 1) (Xi c 1)++KB 62 (Pg 2) (wj c 62 2) (Xi c 2))
def ĝ{c}(f:∀ i,Cn (c i)) a b S C y A B:u8 [S,C,BD$ PL c,BD$ O 0,y,A,B,BD$ O 53,Α,Α,Α,Α] (S6 c a b++[ώ []])=Y (ϙ [S,C,BD$ PL c,BD$ O 0,y,A,B,BD$ O 53,BD$ Z 2,Α,Α,Α]) (S8 c a b):=by
 have L:=kN c a b;have g:=CP f (σ6:=S6 c a b) rfl (w:=1) (ϑ rfl) (ks:=[]) (r:=[]) (N:=54) (by rw[L];rfl) rfl rfl ⋯ S C y A B;have d:=CP f (σ6:=S6 c a b) rfl (w:=2) (ϖ rfl) (ks:=[(.inl 1,O 54)]) (r:=KB 54 (Pg 1) (wj c 54 1)$ Xi c 1) (N:=62) (by rw[L];rfl) rfl rfl (show (1:Nat)<1000 by decide) S C y A B;rw[L]at g d;have h:∀ e,Av [Z 1,Z 2] e=Y _ e:=λe=>z8 rfl;unfold u8;rw[XD];simp only[NA,Ŀ,Rw,xC,Sd,yw,Ct,mx,h,Sz,ql,eJ];rw[iq];simp only[Ab,Vb];rw[g,Sd,il,iq];simp only[Ab,Vb];have d:AJ [S,C,BD _,BD$ O 0,y,A,B,BD$ O 53,BD$ Z 2,Α,Α,Α] (S6 c a b++ώ (Ni [] (.inl 1)$ O 54)::([]++KB 54 (Pg 1) (wj c 54 1) (Xi c 1)))=Y (ϙ [S,C,BD$ PL c,BD$ O 0,y,A,B,BD$ O 53,BD$ Z 2,Α,Α,Α]) (S8 c a b):=d;rw[d,Sd,il,nF]
noncomputable def aL(c:Nat->Int)(h:Int):List Ac:=if h=1 then [fA 0 0 (c 0)$ c 1]else [fA 0 1 (c 0)$ c 1,fA 1 0 (c 2)$ c 3]
noncomputable def kS(c:Nat->Int)(h:Int):Ks:=⟨0,Pg h,aL c h,[]⟩
theorem eK{p q u v}(a:0<=p/\p<=2)(b:q=0\/q=1):(fA p q u v).Ok:=jq a b rfl rfl
def jN{p q u v}(c:q=0\/q=1) z(e:z=((fA p q u v).q,(fA p q u v).y)):(z.1=0\/z.1=1)/\(0<z.2.length/\z.2.length<=2)/\(∀ s∈z.2,(s.ts.map Ti.w).Nodup/\s.ts.length<=9)/\∀ s∈z.2,∀ t∈s.ts,0<=t.a:=by
 subst e;refine⟨c,by simp[fA,Wb],λs b=>?_,λs b t d=>?_⟩
 ·have:s=cS u v:=by simpa [fA,Wb]using b
  subst this;simp[cS]
 ·have:s=cS u v:=by simpa [fA,Wb]using b
  subst this;simp[cS]at d
theorem eB{l}{b}{c}{h}(j:h=1\/h=2)(f:∀ i,i<9->((KB b (Pg h) (wj c b h)$ Xi c h)[i]?).isSome=G6->l[b+i]?=(KB b (Pg h) (wj c b h)$ Xi c h)[i]?):Dh b (kS c h) l:=by
 refine⟨⟨6,0,Pg h,wj c b h,[]⟩,⟨⟨f 0 ⋯ rfl,f 1 ⋯ rfl,f 3 ⋯ rfl,f 4 ⋯ rfl⟩,f 2 ⋯ rfl,f 5 ⋯ rfl,?_,?_,?_,by rw[(jy j).2];lia,?_,by simp⟩,rfl,?_⟩
 ·rcases j with rfl|rfl
  ·intro x k;have:x=(b+7,fA 0 0 _ _):=jb.mp k;subst this;exact⟨f 7 ⋯ rfl,eK ⋯$ ϑ rfl⟩
  ·intro x k;have k:x∈[(b+7,fA 0 1 _ (c 1)),(b+8,fA 1 0 (c 2) _)]:=k;simp only[Ea,kc,Qg]at k;rcases k with rfl|rfl
   ·exact⟨f 7 ⋯ rfl,eK ⋯$ ϖ rfl⟩
   ·exact⟨f 8 ⋯ rfl,eK ⋯$ ϑ rfl⟩
 ·rcases j with rfl|rfl
  ·show ([(0:Int)]:gV).Nodup;decide
  ·show ([(0:Int),1]:gV).Nodup;decide
 ·rcases j with rfl|rfl
  ·exact(by decide:(1:Nat)<=3)
  ·exact(by decide:(2:Nat)<=3)
 ·have g:∀ z∈(wj c b h).map pv,(z.1=0\/z.1=1)/\(0<z.2.length/\z.2.length<=2)/\(∀ s∈z.2,(s.ts.map Ti.w).Nodup/\s.ts.length<=9)/\∀ s∈z.2,∀ t∈s.ts,0<=t.a:=λz d=>by
   rcases j with rfl|rfl
   ·have d:z∈[pv _]:=d;exact jN (p:=0) (u:=c 0) (v:=c 1) (ϑ rfl) z$ jb.mp d
   ·have d:z∈[pv (b+7,fA 0 1 (c 0) (c 1)),pv (b+8,fA 1 0 (c 2) (c 3))]:=d;simp only[Ea,kc,Qg]at d;rcases d with e|e
    ·exact jN (p:=0) (u:=c 0) (v:=c 1) (ϖ rfl) z e
    ·exact jN (p:=1) (u:=c 2) (v:=c 3) (ϑ rfl) z e
  refine⟨?_,λz d=>(g z d).1,λz d=>(g z d).2.1,λz d=>(g z d).2.2.1,λz d=>(g z d).2.2.2⟩;rw[Ia];rcases j with rfl|rfl
  ·exact(by decide:(1:Nat)<=3)
  ·exact(by decide:(2:Nat)<=3)
 ·rcases j with rfl|rfl<;>rfl
noncomputable def wK(i:Nat):Nat:=[10,18,54,62,36,44].getD i 0
noncomputable def Iv(i:Nat):Nat:=[1,7,8,9,53,71,27,33,34,35].getD i 0
def Ý:Ly wK Iv:=⟨by decide,by decide,by decide⟩
noncomputable def BH(c:Nat->Int)(i:Nat):Ks:=if i % 2=0 then kS c 1 else kS c 2
noncomputable def VQ(c:Nat->Int)(a b:List TK)(i:Nat):Ob:=[ϓ 16$ Gv 1 7 8 9$ PL c,ώ [(.inl 1,O 10),(.inl 2,O 18)],ϐ [],ϡ a,ώ [(.inl 1,O 54),(.inl 2,O 62)],ϐ [],ϓ 16$ Gv 27 33 34 35$ PL c,ώ [(.inl 1,O 36),(.inl 2,O 44)],ϐ [],ϡ b].getD i$ ϐ []
def Õ c e f:Wd wK Iv (BH c) (VQ c e f)$ S8 c e f++[ϐ []]:=by
 refine⟨λi d=>?_,λi d=>?_⟩
 ·rcases i with _|_|_|_|_|_|i
  ·exact eB (b:=10) (h:=1) (ϑ rfl) λi d a=>by rcases i with _|_|_|_|_|_|_|_|_|i<;>first|rfl|(cases a;done)|lia
  ·exact eB (b:=18) (h:=2) (ϖ rfl) λi d a=>by rcases i with _|_|_|_|_|_|_|_|_|i<;>first|rfl|(cases a;done)|lia
  ·exact eB (b:=54) (h:=1) (ϑ rfl) λi d a=>by rcases i with _|_|_|_|_|_|_|_|_|i<;>first|rfl|(cases a;done)|lia
  ·exact eB (b:=62) (h:=2) (ϖ rfl) λi d a=>by rcases i with _|_|_|_|_|_|_|_|_|i<;>first|rfl|(cases a;done)|lia
  ·exact eB (b:=36) (h:=1) (ϑ rfl) λi d a=>by rcases i with _|_|_|_|_|_|_|_|_|i<;>first|rfl|(cases a;done)|lia
  ·exact eB (b:=44) (h:=2) (ϖ rfl) λi d a=>by rcases i with _|_|_|_|_|_|_|_|_|i<;>first|rfl|(cases a;done)|lia
  ·lia
 ·rcases i with _|_|_|_|_|_|_|_|_|_|i;all_goals first|rfl|lia
noncomputable def TL(c:Nat->Int)(p:Int):Int:=if p=0 then c 0+c 1 else c 2+c 3
def JJ{c}(a:∀ i,Cn (c i)){q}(d:q=0\/q=1):AI (TL c) 0 (fA 0 q (c 0)$ c 1)/\AI (TL c) 0 (fA 1 q (c 2)$ c 3):=⟨.Wb ⋯ d (aU (a 0)$ a 1) (zr _) rfl (λz b=>(kc b).elim)$ ya _,.Wb ⋯ d (aU (a 2)$ a 3) (zr _) rfl (λz b=>(kc b).elim)$ ya _⟩
def Ε{c}(f:∀ i,Cn (c i)){e}(j:e.length<=20) g:St (TL c) 0 c wK Iv (BH c) (VQ c e g) []:=by
 refine⟨⟨λa d=>?_,ϑ ⟨rfl,rfl⟩,?_,(λz b=>by cases b),⟨by simp[BH,kS],(λz b=>by cases b)⟩⟩,⟨λa d=>?_,ϖ ⟨rfl,rfl⟩,?_,(λz b=>by cases b),⟨by simp[BH,kS],(λz b=>by cases b)⟩⟩,rfl,rfl,rfl,rfl,rfl,⟨e,rfl,by omega⟩,rfl,rfl,λy h=>(kc h).elim,qg _⟩
 ·have:a=fA 0 0 _ _:=jb.mp d;subst this;exact(JJ f$ ϑ rfl).1
 ·exact Bk (jy$ ϑ rfl).2
 ·have d:a∈[fA 0 1 _ _,fA 1 0 _ _]:=d;simp at d;rcases d with rfl|rfl
  ·exact(JJ f$ ϖ rfl).1
  ·exact(JJ f$ ϑ rfl).2
 ·exact Bk (jy$ ϖ rfl).2
def F7 c:Wk (kS c 1).K (kS c 1).A=c 0:=by
 show c 0+0+0+0=c 0
 lia
def Ī c:Wk (kS c 2).K (kS c 2).A=c 1+c 2:=by
 show c 1+0+(c 2+0+0)+0=c 1+c 2
 lia
theorem Us ns(_:ns.length<=63):∃ j,vm [ϯ ns] []=Y (ϒ G6) j:=by
 have d:=ũ ns;have l:=ů ns;generalize cC ns=c at *;have m:=ô c (BD$ ϯ ns) [];obtain⟨y,o⟩:=j4 _ (BD$ CL c) (BD$ PL c);obtain⟨b,q,v⟩:=Č d (BD$ ϯ ns) (BD$ CL c) y;obtain⟨a,r,x⟩:=ş d (BD$ ϯ ns) (BD$ CL c) y b;have t:=ĝ d b a (BD$ ϯ ns) (BD$ CL c) y (BD$ O 1)$ BD$ O 27;have C:∀ p,TL c p<=2000000000000:=λp=>by
  have E:=(d 0).2;have F:=(d 1).2;have G:=(d 2).2;have H:=(d 3).2;unfold TL;split<;>omega
 obtain⟨N,I,J,rd,j,f,i,w,s,e,B⟩:=z7 C Ý (ns:=ns) (BD$ CL c) (BD$ PL c) (BD$ O 0) y (BD$ O 27) (BD$ Z 2) Α (Õ c b a) (Ε d v a);obtain⟨g,Mf⟩:=Μ (tb:=20) w s B (e.2 6$ by omega) (e.2 7$ by lia) (e.2 8$ by omega) ⟨a,e.2 9 ⋯,x⟩ ((Cb (λz:Ks=>Wk z.K z.A)$ e.1 4$ by omega).trans$ F7 c) ((Cb (λz:Ks=>Wk z.K z.A)$ e.1 5$ by omega).trans$ Ī c) ns (c 3) (BD$ PL c) (BD$ O 0) y (BD$ Z 2) f;refine⟨g,?_⟩;unfold vm iR;rw[aI];show eo (Qb u1 _ [BD$ ϯ ns,Α,Α,Α,Α,Α,Α,Α,Α,Α,Α,Α] [])=_;rw[Th,l,Sd,Yh,Th,m,Sd,Yh,Th];have n:u3 [BD$ ϯ ns,BD$ CL c,BD$ PL c,Α,Α,Α,Α,Α,Α,Α,Α,Α] []=Y (ϙ [BD$ ϯ ns,BD$ CL c,BD$ PL c,BD$ O 0,Α,Α,Α,Α,Α,Α,Α,Α]) [ώ []]:=rfl;rw[n,Sd,Yh,Th,o,Sd,Yh,Th,q,Sd,Yh,Th,r,Sd,Yh,Th];have h:u7 [BD$ ϯ ns,BD$ CL c,BD$ PL c,BD$ O 0,y,BD$ O 1,BD$ O 27,Α,Α,Α,Α,Α] (S6 c b a)=Y (ϙ [BD$ ϯ ns,BD$ CL c,BD$ PL c,BD$ O 0,y,BD$ O 1,BD$ O 27,BD$ O 53,Α,Α,Α,Α]) (S6 c b a++[ώ []]):=by
  unfold u7;rw[RN,WJ,kN];rfl
 have h:u7 [BD$ ϯ ns,BD$ CL c,BD$ PL c,BD$ O 0,y,BD$ O 1,BD$ O 27,Α,Α,Α,Α,Α] ([ώ$ wn 60]++Hs 1 c b++Hs 27 c a)=_:=h;have k:(S8 c b a).length=71:=by unfold S8;rw[Gb,kN];rfl
 have u:u9 [BD$ ϯ ns,BD$ CL c,BD$ PL c,BD$ O 0,y,BD$ O 1,BD$ O 27,BD$ O 53,BD$ Z 2,Α,Α,Α] (S8 c b a)=Y (ϙ$ lF ns (BD$ CL c) (BD$ PL c) (BD$ O 0) y (Iv 0) (BD$ O 27) (Iv 4) (BD$ Z 2) (Iv 5) Α Α) (S8 c b a++[ϐ []]):=by
  unfold u9;rw[RN,jU];simp only[Ct,Sd];show vk _ _ (Y (O (S8 c b a).length) (S8 c b a++[ϐ []]):dh D)=_;rw[k];rfl
 rw[h,Sd,Yh,Th,t,Sd,Yh,Th,u,Sd,Yh,Th,i,Sd,Yh];have Mf:(Qb wF$ Qb hG$ Qb tG mI) (lF ns (BD$ CL c) (BD$ PL c) (BD$ O 0) y (Iv 0) (BD$ O 27) (Iv 4) (BD$ Z 2) (Iv 5) f Α) j=Y (ϭ$ ϒ G6) g:=Mf;rw[Mf];rfl
end K51
end
open PySem PySem.W PyProof.Rows
set_option maxRecDepth 100000 in
set_option maxHeartbeats 0 in
theorem PySem.Challenge.cw_sidebook_k51_the_road_holds : PySem.Challenge.rw_sidebook_k51_the_road.Holds := by
 w_on;refine hd ?_
 k_fill
 refine L4.Ď (l:=PySem.Challenge.rw_sidebook_k51_the_road) (k:=17) (x:="_law_script") (fn:=K51.vm) ["least_fate","paper"] rfl rfl ⟨rfl,by decide,by decide⟩ (λw h ό=>km2_in ό) ?hK ?hrec ?F K51.Us;case hK=>intro w;kernel_rfl
 case hrec=>kernel_rfl
 case F=>
  intro w mg h KX G TT;refine⟨λn=>([0,114,126,0,0,318,353,400,440,591,668,696,722,748,780,1114,1292,315,0,0,0,0,0,0,0,0,0,0,0,0,489,0,0,0,0,0,0,0,0,0,0,0,0,0,588,651,658,665,686,693,712,719,738,745,777,952,959,966,973,0,987,994,1001,1008,1015,0,1029,1036,1043,1050,1057,1064,1071,1078,0,0,0,0,0,1138,0,1152,1159,0,0,0,0,0,1201,1208,1215,1222,1229,1237,1244]:List Addr).getD n 0,(K51.tx$ L2.GW KX).Pm,K51.ι _,K51.S9 ?_⟩;constructor;all_goals (try (repeat' (first|exact K51.Al.n|with_reducible refine' K51.Al.c ?_ ?_)))
  all_goals (try dsimp only[L2.GW,List.getD]);all_goals (try dsimp only[List.getElem?_cons_succ,List.getElem?_cons_zero,Option.getD]);all_goals (first
   |(refine' K51.Q1 ?p ?q$ L4.GL KX G (λ_ _ _ _ _ _ us hl=>?z) ?a ?l ?c ?k;(case p=>conv=>lhs;whnf);(case q=>dsimp only[K51.fX,L2.Qk,List.map]);(case a|l=>k_is);(case z=>exact K51.QF.ap _ us hl (by(repeat intro _);exact rfl));(case c|k=>k_is))
   |(refine' K51.M8 ?p ?q$ L4.CU (λ_ _ _ _ _ _ us hl=>?z) ?l ?c ?k;(case p=>conv=>lhs;whnf);(case q=>dsimp only[K51.fX,L2.Qk,List.map]);(case l=>k_is);(case z=>exact K51.QF.ap _ us hl (by(repeat intro _);exact rfl));(case c|k=>k_is))
   |(refine' L4.GL KX G (λ_ _ _ _ _ _ us hl=>?z) ?a ?l ?c ?k;(case z=>exact K51.QF.ap _ us hl (by(repeat intro _);exact rfl));(case a|l|c|k=>k_is))
   |(refine' L4.CU (λ_ _ _ _ _ _ us hl=>?z) ?l ?c ?k;(case z=>exact K51.QF.ap _ us hl (by(repeat intro _);exact rfl));(case l|c|k=>k_is))
   |(refine' L4.B7 KX G K51.ő ?a ?l ?c ?k ?d;(case a|l|c|k|d=>k_is))
   |(refine' L4.rM K51.T2 ?l ?c ?d;(case l|c|d=>k_is))
   |(refine' L4.rM K51.TZ ?l ?c ?d;(case l|c|d=>k_is))
   |(refine' L4.rM K51.O1 ?l ?c ?d;(case l|c|d=>k_is))
   |(refine' L4.â KX G ?a ?b;(case a=>k_is);(case b=>kernel_rfl))
   |(refine' L4.PZ KX G ?a;(case a=>k_is))
   |(refine' mg_of KX G ?a;(case a=>k_is))
   |(refine' mg_none_of KX G ?a;(case a=>k_is))
   |(refine' ⟨⟨?a,?b,?c,?d⟩,?e,?f,?g,?h⟩;(case a|b|c|d|e|f|g|h=>k_is))
   |(refine' ⟨?a,?b,?c,?d⟩;(case a|b|c|d=>k_is))
   |(refine' ⟨?a,?b,?c⟩;(case a|b|c=>k_is))
   |(refine' ⟨?a,?b⟩;(case a|b=>k_is))
   |exact λt h t' h' _=>(jb.mp h').trans (jb.mp h).symm
   |(refine' L4.X4 KX G (L4.GL KX G (λ_ _ _ _ _ _ us hl=>?z) ?a ?l ?c ?k) TT ?d;(case z=>exact K51.QF.ap _ us hl (by(repeat intro _);exact rfl));(case a|l|c|k=>k_is);(case d=>decide))
   |(refine' (mg_of KX G ?a).trans (mg_of KX G ?b).symm;(case a|b=>k_is))
   |exact TT
   |exact mg_of KX G TT.bm
   |(refine' L4.NY ?a;(case a=>kernel_rfl))
   |decide
   |k_is
   |k_exc
   |rfl)
