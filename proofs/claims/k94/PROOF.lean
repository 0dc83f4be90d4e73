import PyProof.Rows.All
import OpenK.KLine
import OpenK.KOwn
import KE.KNestM
import KE.KDictOf
import Wide.FinOn
import Lean
import PyProof.EqAt
import PyProof.EqKinds
import PyProof.TupleCall
import PyProof.NeKinds
import PyProof.NsDelKeeps
import KE.KTryMore
import PyProof.WalksMore
import PyProof.Rows.SetFrom
import KE.KEqDict
import PyProof.ToksMono
import PyProof.StrCalls6
import PyProof.StrBlock2
import PyProof.SliceStr2
import PyProof.StrLawsTight
import PyProof.InstStoreFacts
import PyProof.Rows.FStr
import PyProof.FactsAll.set
import KE.KDictLaws
import KE.KIntText
import PyProof.Rows.StrWeight2
import PyProof.StrWalks
import PyProof.StrBlockH
import PyProof.WalksEnum
import PyProof.ZipIter
import PyProof.EnumMake
import PyProof.FitsReplace
import PyProof.StrLawsIn
import PyProof.Rows.SortWalk
import PyProof.DictUpdate
import KE.KDictList
import KE.KDictSum
import KE.KPairComp
import PyProof.FactsAll.dict
import KE.KMinKey
import KE.KLam
import PyProof.DictWalks
import PyProof.DictValues
import PySem.Challenge.RW_sidebook_k94_whole_amid_a_payment
set_option Elab.async false
set_option linter.all false
set_option maxRecDepth 100000
namespace PySem.W.Fast
def te13052408679150730464:=Nat
def tw9418632834714805258:=Nat
def tw14354775162992728033:=Nat
def tw16332982944463774628:=Nat
def tw17873800892166551001:=Nat
def tw3976522050191846178:=Nat
def tw2476372970258384440:=Nat
def tw3871640935787631651:=Nat
def tw861502493610598483:=Nat
def tw17230300992337976088:=Nat
def tw16619267235495865221:=Nat
def tw14761691873820075506:=Nat
def tw3542984721355170951:=Nat
def tw5741263409437251658:=Nat
def tw1677231408768103498:=Nat
def tw4934116040678700208:=Nat
def tw46047356163711959:=Nat
def tw7774113678449685934:=Nat
def tw13622848540026110595:=Nat
def tw2086605736735036430:=Nat
def tw7772153672920534736:=Nat
def tw12546471409375691253:=Nat
def tw8169806428440432713:=Nat
def tw280917380089993231:=Nat
def tw12382470007097167742:=Nat
def tw10223898402276761379:=Nat
def tw11509211604773734946:=Nat
def tw15609046892058354317:=Nat
def tw5320619654261168702:=Nat
def tw1618395672654517420:=Nat
def tw10142432776947418351:=Nat
def tw13578020157988156910:=Nat
def tw17105322094737777421:=Nat
def tw4139333405863992284:=Nat
def tw7889140689732048356:=Nat
def tw13758190518337804936:=Nat
def tw15359611588545569252:=Nat
def tw11012914648039919020:=Nat
def tw1736008452689052559:=Nat
def tw6344153461787385748:=Nat
def tw6391141836253606557:=Nat
def tw8514659027417952518:=Nat
def tw5188249020564956088:=Nat
def tw17949248998541250905:=Nat
def tw7830361148116998868:=Nat
def tw8997383693586321770:=Nat
def tw1799641797098859658:=Nat
def tw7940444493234123854:=Nat
def tw10787245059668118972:=Nat
def tw14151252239970057569:=Nat
def tw6932675284326534982:=Nat
def tw7970753398140278972:=Nat
def tw8327476086219156565:=Nat
def tw13002473133791111888:=Nat
def tw6784737039638806343:=Nat
def tw938635154573522699:=Nat
def tw10483620692585885732:=Nat
def tw14969413224327110861:=Nat
def tw10374632558016547081:=Nat
def tw14671481471946370582:=Nat
def tw6953138203311097117:=Nat
def tw14344478149125931734:=Nat
end PySem.W.Fast
namespace PySem.W
open PySem PySem.Spec PySem.Calls PyProof.Rows
def gtO (x : Option Obj) : Option Obj := match x with
  | some ⟨_, _, .freed, _⟩ => none
  | o => o
noncomputable def pk (l : List Obj) : Nat → List Addr → List (Option Obj) := @List.rec Obj (fun _ => Nat → List Addr → List (Option Obj)) (fun _ as => as.map fun _ => none) (fun o _ ih i as => @List.rec Addr (fun _ => List (Option Obj)) [] (fun a r _ => @Bool.rec (fun _ => List (Option Obj)) (ih (Nat.succ i) as) (gtO (some o) :: ih (Nat.succ i) r) (Nat.beq a i)) as) l
def rz : Nat → List Addr → Bool
  | _, [] => true
  | i, a :: r => Nat.ble i a && rz (a + 1) r
theorem rz_le : ∀ (as : List Addr) (i : Nat), rz i as = true → ∀ b ∈ as, i ≤ b
  | [], _, _, b, h => by cases h
  | a :: r, i, h, b, hb => by
    unfold rz at h
    rw [Bool.and_eq_true] at h
    have h1 := Nat.le_of_ble_eq_true h.1
    rcases List.mem_cons.mp hb with rfl | hb
    · exact h1
    · have := rz_le r (a + 1) h.2 b hb; omega
theorem rz_up {a i : Nat} {r : List Addr} (h : rz i (a :: r) = true) (n : a ≠ i) : rz (i + 1) (a :: r) = true := by
  unfold rz at *
  rw [Bool.and_eq_true] at *
  have := Nat.le_of_ble_eq_true h.1
  exact ⟨Nat.ble_eq_true_of_le (by omega), h.2⟩
theorem pk_eq : ∀ (l : List Obj) (i : Nat) (as : List Addr), rz i as = true → pk l i as = as.map fun a => gtO l[a - i]?
  | [], i, as, _ => by
    show as.map _ = _
    exact List.map_congr_left fun a _ => by simp [gtO]
  | o :: l, i, [], _ => rfl
  | o :: l, i, a :: r, h => by
    have step : ∀ as : List Addr, rz (i + 1) as = true → (as.map fun a => gtO l[a - (i + 1)]?) = as.map fun a => gtO (o :: l)[a - i]? := fun as h => List.map_congr_left fun b hb => by
      have := rz_le as _ h b hb
      rw [show b - i = (b - (i + 1)) + 1 by omega, List.getElem?_cons_succ]
    show @Bool.rec (fun _ => List (Option Obj)) (pk l (Nat.succ i) (a :: r)) (gtO (some o) :: pk l (Nat.succ i) r) (Nat.beq a i) = _
    cases e : Nat.beq a i with
    | true =>
      obtain rfl := Nat.eq_of_beq_eq_true e
      have h2 : rz (a + 1) r = true := by unfold rz at h; exact (Bool.and_eq_true_iff.mp h).2
      show gtO (some o) :: pk l (a + 1) r = _
      rw [pk_eq l (a + 1) r h2, step r h2, List.map_cons, Nat.sub_self]; rfl
    | false =>
      have h2 := rz_up h (Nat.ne_of_beq_eq_false e)
      show pk l (i + 1) (a :: r) = _
      rw [pk_eq l (i + 1) _ h2, step _ h2]
noncomputable def kmO (as : List Addr) (h : Heap) : List (Option Obj) := @Bool.rec (fun _ => List (Option Obj)) (as.map h.get?) (pk h.objs.toList 0 as) (rz 0 as)
theorem kmO_eq (as : List Addr) (h : Heap) : kmO as h = as.map h.get? := by
  unfold kmO
  cases e : rz 0 as with
  | false => rfl
  | true =>
    show pk h.objs.toList 0 as = _
    rw [pk_eq _ _ _ e]
    exact List.map_congr_left fun a _ => by
      rw [Nat.sub_zero, Array.getElem?_toList]; rfl
noncomputable def kmH2 (K : Params → Frag) (as : List Addr) (e : ∀ P, as = (K P).map (·.1)) (ts : List Addr) : Hook where
  α := List (Option Obj) × List (Option Obj)
  obs := fun s => (kmO as s.heap, ts.map s.heap.get?)
  val := fun w => ((K w.params).map fun p => some p.2, ts.map fun _ => some (tabObj #[]))
  says := fun w h => InK K w h ∧ ∀ P ∈ ts, h.get? P = some (tabObj #[])
  of := fun w s x => (kmHook K as e ts).of w s (show (as.map s.heap.get?, ts.map s.heap.get?) = _ by rw [← kmO_eq]; exact x)
  keeps := (kmHook K as e ts).keeps
theorem km2_in {K : Params → Frag} {as : List Addr} {e : ∀ P, as = (K P).map (·.1)} {ts : List Addr} {w : World} {h : Heap} (Y : (kmH2 K as e ts).says w h) : (K w.params).In h := (show InK K w h ∧ ∀ P ∈ ts, h.get? P = some (tabObj #[]) from Y).1
end PySem.W
section
open PySem PySem.W PyProof.Rows
set_option maxHeartbeats 0
local macro_rules | `(tactic| o_head ($f $a $b $c $d)) => `(tactic| o_head ((kmH2 $a $b $c) $d))
open_top hd for PySem.Challenge.rw_sidebook_k94_whole_amid_a_payment
end
theorem auZq(h:True:=by rfl):True:=h
theorem auZr(h:True:=by decide):True:=h
local macro_rules|`(~~~$p)=>`(autoParam $p auZr._auto_1)
local macro_rules|`($p⁻¹)=>`(autoParam $p auZq._auto_1)
open Option renaming some->W1,none->ŋ
open Bool renaming true->š,false->į
local macro_rules|`(⋯)=>`(by first|lia|omega|(simp;done)|decide|simp_all|grind)
set_option genSizeOf false
set_option tactic.hygienic false
set_option bootstrap.genMatcherCode false
set_option compiler.extract_closed false
def Od:=@beq_eq_false_iff_ne
def Xh:=@beq_iff_eq
def Ke:=@beq_self_eq_true
def eb:=@congrArg
def pb:=@decide_eq_false
def ib:=@decide_eq_true
def Bb:=@decide_eq_true_eq
def oj:=@if_false
def ra:=@if_neg
def ja:=@if_pos
def sg:=@if_true
def ve:=@of_decide_eq_true
def Wt:=@or_false
open Array renaming append_assoc->Us,forIn_toList->Ts,getElem?_eq_getElem->fh,getElem?_eq_some_iff->Rm,getElem?_toList->Je,length_toList->Wb,toArray_toList->Pi
open Bool renaming and_assoc->Jz,and_eq_true->Ca,and_false->Jn,and_self->BB,eq_iff_iff->qg,false_eq_true->sf,false_ne_true->yb,false_or->AB,not_eq_true->qe,or_eq_true->ug,or_false->vB
open Classical renaming choose_spec->zaB
open Int renaming add_zero->Wq,emod_lt_of_pos->Bv,emod_nonneg->Oz
open List renaming all_cons->jf,all_eq_true->Xa,all_map->Ek,any_cons->kf,any_eq_true->Ye,any_map->VD,append_assoc->wv,append_nil->be,drop_eq_getElem_cons->lh,drop_eq_nil_iff->Kr,drop_eq_nil_of_le->aq,ext_getElem?->Dk,filterMap_cons->Dg,filter_cons->Th,filter_eq_self->nt,find?_cons->yc,flatMap_cons->de,foldl_append->vv,foldl_cons->Bm,getD_eq_getElem?_getD->Kn,getElem?_append_left->jb,getElem?_append_right->Gb,getElem?_eq_getElem->Xc,getElem?_eq_none->Hi,getElem?_eq_none_iff->Mb,getElem?_eq_some_iff->aa,getElem?_map->Ta,getElem?_of_mem->Jr,getElem?_replicate->Fp,getElem?_set->Ef,getElem?_set_ne->qb,getElem?_set_self->Ga,getElem?_take_of_lt->So,getElem_inj->Gw,getElem_mem->Kl,getElem_of_mem->dt,length_append->Kb,length_cons->Ua,length_drop->Iw,length_eq_one_iff->Zh,length_filter_le->Uf,length_map->Ja,length_nil->vg,length_set->wg,length_take->Tc,length_zip->wy,lookup_cons->Pb,map_append->Dm,map_cons->db,map_map->Bc,map_nil->Hg,mem_append->si,mem_append_left->Va,mem_append_right->Ra,mem_cons->La,mem_cons_of_mem->la,mem_cons_self->ua,mem_filter->ri,mem_filterMap->Vt,mem_flatMap->Nw,mem_map->Ya,mem_of_getElem?->ya,mem_of_mem_take->Vi,mem_range->Gz,mem_singleton->Qb,nil_append->ui,nodup_cons->rg,nodup_nil->Lz,not_mem_nil->Wf,of_mem_zip->Am,perm_singleton->jt,range_succ_eq_map->Zp,set_append_left->Lr,set_append_right->Le,set_cons_succ->Be,set_cons_zero->uf,set_getElem_self->Xq,set_set->bq,size_toArray->Pa,take_length->Uc,take_succ->Nz
open List.Perm renaming cons_inv->zaD
open Nat renaming add_assoc->Cp,le_of_ble_eq_true->Oi,le_of_eq->XG,le_of_lt->zd,le_refl->va,le_succ->Ch,le_trans->zb,lt_irrefl->Bd,lt_of_le_of_lt->nv,lt_of_lt_of_le->Ma,lt_succ_of_lt->Kc,lt_succ_self->cc,lt_trans->Pq,mul_assoc->Gp,ne_of_gt->ee,ne_of_lt->Aa,not_lt->pv,one_mul->mK,one_ne_zero->Mz,zero_add->bH,zero_le->Bh
open Ne renaming symm->Cd
open Option renaming bind_eq_some_iff->pf,isSome_iff_exists->ce,isSome_map->Nj,map_eq_some_iff->Ka,map_some->Jl
open Option.some renaming inj->Cb
open Prod renaming ext->xZ
open Prod.mk renaming injEq->Wi
open PyProof.Rows renaming AllBare->zh,IntsAre->Fk,callWith_builtin1->bK,callWith_type1->Yc,iadd_int->aK,slot_tuple_getitem->ec,Subscript_->yB,args_list_sort->fQ,args_tuple_getitem->xB,boot_isinstance->cK,boot_max->kQ,entry_list_iadd'->aH,entry_list_sort->gK,entry_proto_collect'->vy,entry_tuple_getitem->Iz,envOfC->dg,firstMet->Cf,firstMet_succ->OZ,firstMet_zero->PZ,get?_update_seq->lK,list_sort_tree->eQ,seqObj->rm,size_push'->DB,slicePart_none->bQ,slot_list_sort->dQ,sortedHeap_at->NZ,sortedHeap_old->gQ,subscriptTail->RZ,subscriptTail_builtinR->iv,tupleItemsOf_->yZ
open PySem renaming Around->Ia,BindsTo->Se,Builtin->bi,CmpOp->Wo,DictEntry->Yt,Drawn->Vo,Env->xg,ExceptHandler->SZ,Expr->Fa,FuncData->gf,GenState->Nh,IsPair->oQ,IsPart->ek,ItemsOf->dq,Keyword->kj,Model->Zm,NameKind->Ee,Operator->dk,OsState->Dv,PassesOwn->Go,PlainAttrs->qm,Pos->Dd,Program->xa,boot_len->uy,mem_of_lookup->je,Result->Ho,Sem->Em,SetTable->fg,Slot->mQ,World->Na,argsOk->Gv,assign->xi,assignEach->Ad,atKey->Yq,attributeBase->Lc,backTo->Zb,backToKw->Ng,behindInMarks->We,behindIsImport->nQ,binaryOp->De,bindC->Xt,bindL->zy,bindSpecialIfBound?->Rz,builtinLookup_eq_fast->Lw,callSpecialIfBound?->Qz,callWith->dn,call_list_seq->MZ,call_meetsIn->Sm,callerA->bn,cellsFrom->fH,checkBuiltinCall->jH,cmpInfo_Eq->EB,codeAny_builtin->Fc,codeAny_call_builtin->ak,codeAny_mono->lf,codeAny_of_tree->jK,compareOp->Nb,concat_meets->bv,entryFor->pQ,entryFor_alias->iQ,eqIsQuiet_byValue->OD,eval->Ib,fits_of_scanBound->aE,foldedSetIterable->pe,getItem->ai,getMethod->Dh,holding->Ld,inplaceOp->dH,intKind->yh,isInstance->IB,isSubtype_type->Sq,isTrue->GB,keywordEach->Me,noFill_tuple_add->Fo,noteFrame->Qi,oneThing_ref->uv,pickOrder->Jo,plainId_quiet->Pd,rawInt->wc,reduceHash->FB,relayAll->jn,release->fE,richCompare->gk,seqIndex_neg->ev,seqIndex_of->sy,seq_tuple_add->Xs,setFlight->iH,setItem->cq,setNext->Hv,sizeLine_eq->qy,sliceBounds->fk,slot_list_getitem->UD,standAt->Ig,starEach->na,storeName->cH,subscripted->Xo,swappedStores->zi,swapsWith->Fg,swapsWithSole->yi,sysModules->ff,tryCompare->JB,typeLookup_type->kK,typeOf->HB,valueAt->gn,wpAny_Call_Name_kw->Re,wpAny_Call_method_late->mv,wpAny_Dict_empty->YG,wpAny_Name->uB,wpAny_askSetting->Eg,wpAny_assign_Name->QD,wpAny_attempt->QZ,wpAny_bind->ba,wpAny_cRoomFor->Vq,wpAny_call->ij,wpAny_callSpecial?_slot->Sf,wpAny_call_entry->gd,wpAny_comprehension_free->kt,wpAny_execs_cons->VG,wpAny_execs_nil->nj,wpAny_field->Zj,wpAny_fieldsOf->jQ,wpAny_forIn_list->UG,wpAny_holding->Xb,wpAny_isInstance->Eo,wpAny_isSame_ref_other->jj,wpAny_isTrue_Compare1->Hw,wpAny_ite_split->Ff,wpAny_letGo->Uo,wpAny_load->om,wpAny_loadName_cell->Hz,wpAny_loadName_local->ny,wpAny_loadPart_at->vd,wpAny_mono->ic,wpAny_newFunctionEnv->ck,wpAny_newList->ft,wpAny_newObj_type->Nc,wpAny_of_eq->xy,wpAny_passesOwn->dh,wpAny_pure->da,wpAny_pyIter_enum->YD,wpAny_pyIter_list->Yh,wpAny_pyIter_slot->bE,wpAny_pyIter_tuple->zB,wpAny_pyIter_zip->ZG,wpAny_rule->lm,wpAny_runValue->Qq,wpAny_seqItems->Yj,wpAny_sequenceKey->RD,wpAny_setEntries_of->ql,wpAny_setField->Tq,wpAny_setState_of->bg,wpAny_specialOf->bh,wpAny_standAt->Vs,wpAny_storeSet_of->ZD,wpAny_truthy_bool->Mc,wpAny_tryCatch->Ce,wpAny_typeOf->gj,wpAny_updateSeq->jh,wp_field_iff->sv,wp_setField_iff->eK
open PySem.Around renaming frames_deeper->Yp
open PySem.Bind renaming checkArgs->Gf
open PySem.BindsTo renaming of_defaults->Hc
open PySem.Builtin.Frozenset renaming newClass->Ay,updateFrom->Cy
open PySem.Builtin.List renaming listExtendWith->pK,listLengthHint->Ej,listSameRef->Gk,listTooLong->yg,listTouch->oK
open PySem.Builtin.Range renaming rangeSize->eH
open PySem.Builtin.Slice renaming sliceAdjust->Oj,sliceApplied->hH,slicePartIndex->gH,slicePlaces->eg
open PySem.Builtin.Tuple renaming tupleExact->ng,tupleHashOf->He,tupleItemsOf->Vf
open PySem.Calls renaming Name_function_global->Qm,callWith_builtin->Vh,call_function_entry->Mn,evalArgs_plain->Oq
open PySem.CmpOp renaming In->lQ,NotIn->dE
open PySem.DictEntry renaming refKey->zaF
open PySem.EntryCells renaming newEntry->Io
open PySem.F renaming args_tuple_add_2->eh,called_set->Oc,entry_min_loop->Lh,entry_tuple_add->vh,plainAttrs_dict->ie,plainAttrs_list->xh,plain_extend_loop->Cm,plain_list_iadd->Ln,plain_min_loop->se,slot_dict_items->wh,slot_dict_setdefault->nl,slot_dict_update->Um,slot_dict_values->Vm,slot_list_append->Xm,slot_set_iter->To,slot_tuple_add->Kh,type_dict_items->Nn,type_list_append->Ym
open PySem.Heap renaming ExtBut->Mr,FlyingW->gE,HeldW->On,SameBut->yd,get?_eq_some->qv,get?_push_of_some->ga,get?_push_size->Ea,get?_update_other->Ae,get?_update_self->Gd,lt_size->wa,size_push->Ed
open PySem.Heap.DictOf renaming new->cQ
open PySem.Heap.IsSliceOf renaming new->SD
open PySem.Heap.IsTuple renaming push->fK
open PySem.Heap.SameBut renaming refl->iK,update->Ec
open PySem.IsL renaming update->zaA
open PySem.Manifest renaming signature?->gg
open PySem.NameKind renaming cell->lc,free->Ab
open PySem.Obj renaming cls_mapFields->Mw,data_mapFields->Jd,isFreed_of_fields->Ni,mapFields->Ip,mapSeq->Fe,putSet->Fv
open PySem.PassesOwn renaming leaving->zaC,looking->zaE
open PySem.Sem renaming wp_bind'->ll,wp_mono->Ys
open PySem.SeqAt renaming EqAt->Dc,RcAt->Og,RcNeAt->Gg,in_listAt->Jw,in_tupleAt->jv
open PySem.SeqAt.EqAt renaming bool_bool->DZ,bool_int->EZ,bool_none->CZ,bool_str->FZ,int_bool->HZ,int_int->IZ,int_none->GZ,int_str->Qo,none_bool->zZ,none_int->AZ,none_str->BZ,same->Mj,str_bool->KZ,str_int->Ro,str_none->JZ,str_str->LZ
open PySem.SeqAt.RcAt renaming tuples->vZ
open PySem.SetTable renaming below->Ll,grown->vf
open PySem.SetTable.below renaming go->iE
open PySem.Shared renaming TypeIs->By
open PySem.Str renaming ofString->Ai
open PySem.Value renaming bool->Dj,int->Mh,isInt->cE,isInt_shape->Ut,isStrOf->Pz,none->Yb,ref->Db,str->Cv,type->Wh
open PySem.W renaming callWith_K->gh,cellsFrom_some->wB,kia_one->Te,kitx_dict->av,kitx_list->wZ,looks_findIn->WG,looks_mroIn->Uq,methodCall_KW->Ui,mg_of->Zs,plainGet_of->Nq
open PySem.W.WData renaming int->nK
open PySem.Walks renaming list->Cj
open PySem.WalksT renaming zip2->CB
open PySem.Within renaming cons->ZJ
open PySem.pickOrder renaming go->zaG
open Sum.inl renaming inj->Dp
open Sum.inr renaming inj->Ep
open PySem PyProof.Rows
abbrev ab:=List PySem.Str
abbrev ac:=List PySem.Addr
abbrev b':=List PySem.Value
abbrev dd:=List Int
abbrev dl:=List Nat
abbrev dN:=List (PySem.Addr × PySem.Obj)
noncomputable section
namespace L2
open Spec
abbrev jc:=Sum Int Str
noncomputable def HC:jc->Value->Bool
 | .inl k,v=>cE k v
 | .inr x,v=>Pz x v
noncomputable def zW1(w:Na):jc->Int
 | .inl k=>hashInt k
 | .inr x=>hashStr w x
theorem Aq:∀ {k:jc} {v:Value},HC k v=š->(∃ i t,k=Sum.inl i/\v=Mh i t)\/(∃ x t,k=Sum.inr x/\v=Cv x t)
 | .inl i,v,h=>by
  obtain⟨t,e⟩:=Ut h;exact .inl ⟨i,t,rfl,e⟩
 | .inr x,v,h=>by
  obtain⟨t,e⟩:=Value.isStrOf_shape (v:=v) h;exact .inr ⟨x,t,rfl,e⟩
def S9 i t:HC (.inl i) (.int i t)=š:=by simp[HC,cE]
def Y5 x t:HC (.inr x) (.str x t)=š:=by simp[HC,Pz]
def X8 a b:decide ((Sum.inl a:jc)=Sum.inl b)=(a == b):=by
 by_cases e:a=b;all_goals simp_all
def P1 a b:decide ((Sum.inr a:jc)=Sum.inr b)=decide (a=b):=by
 simp_all
def U7 a b:decide ((Sum.inl a:jc)=Sum.inr b)=į:=pb (λq=>nomatch q)
def Θ a b:decide ((Sum.inr a:jc)=Sum.inl b)=į:=pb (λq=>nomatch q)
def Hj(c:xa)(w:Na):PySem.KeyKind c w jc where
 is:=HC
 hash:=zW1 w
 inj:=λv a b g f=>by
  rcases Aq g with⟨i,t,rfl,rfl⟩|⟨x,t,rfl,rfl⟩
  ·rcases Aq f with⟨j,u,rfl,e⟩|⟨y,u,rfl,e⟩
   ·injection e with e1 _;rw[e1]
   ·exact nomatch e
  ·rcases Aq f with⟨j,u,rfl,e⟩|⟨y,u,rfl,e⟩
   ·exact nomatch e
   ·injection e with e1 _;rw[e1]
 byValue:=λk v h=>by
  rcases Aq h with⟨i,t,rfl,rfl⟩|⟨x,t,rfl,rfl⟩<;>rfl
 pyHash:=λd h=>by
  rcases Aq d with⟨i,t,rfl,rfl⟩|⟨x,t,rfl,rfl⟩
  ·exact wpAny_pyHash_int h
  ·exact wpAny_pyHash_str h
 eqBool:=λl d h=>by
  rcases Aq l with⟨i,t,rfl,rfl⟩|⟨x,t,rfl,rfl⟩
  ·rcases Aq d with⟨j,u,rfl,rfl⟩|⟨y,u,rfl,rfl⟩
   ·rw[X8]at h;exact wpAny_eqBool_int h
   ·rw[U7]at h;exact Qo i t y u _ _ _ _ h
  ·rcases Aq d with⟨j,u,rfl,rfl⟩|⟨y,u,rfl,rfl⟩
   ·rw[Θ]at h;exact Ro x t j u _ _ _ _ h
   ·rw[P1]at h;exact wpAny_eqBool_str h
 «strs»:=λk x t v h=>by
  rcases Aq h with⟨i,u,rfl,e⟩|⟨y,u,rfl,e⟩
  ·exact nomatch e
  ·injection e with e1 _;subst e1;cases v<;>rfl
def Ů a w i t:(Hj a w).is (.inl i) (.int i t)=š:=S9 i t
def C1 a w x t:(Hj a w).is (.inr x) (.str x t)=š:=Y5 x t
inductive V where
 |Sb|bl (b:Bool)|int (i:Int)|str (x:Str)|nH (b:Array UInt8)|vA (b:UInt64)|ref (a:Addr)|ty (n:String)
 deriving DecidableEq
abbrev em:=List V
def Rc:V->Value->Prop
 | .Sb,u=>u=Yb
 | .bl b,u=>u=Dj b
 | .int i,u=>∃ t,u=Mh i t
 | .str x,u=>∃ t,u=Cv x t
 | .nH b,u=>∃ t,u=Value.bytes b t
 | .vA b,u=>∃ t,u=Value.float b t
 | .ref a,u=>u=Db a
 | .ty n,u=>u=Wh n
abbrev ke:em->b'->Prop:=Paired Rc
def ke.length(r:ke xs a):xs.length=a.length:=Paired.length r
theorem ke.get:∀ {xs:em} {us:b'} {i:Nat} {x:V},ke xs us->xs[i]?=W1 x->∃ u,us[i]?=W1 u/\Rc x u
 |_,_,_,_,.nil,e=>by simp at e
 |_,_,0,_,.cons r _,e=>by simp at e;subst e;exact⟨_,rfl,r⟩
 |_,_,i+1,x,.cons _ t,e=>by
  obtain⟨u,a,b⟩:=ke.get (i:=i) (x:=x) t (by simpa using e);exact⟨u,by simpa using a,b⟩
theorem ke.set(r:Rc x u):∀ {xs:em} {us:b'} (i:Nat),ke xs us->ke (xs.set i x) (us.set i u)
 |_,_,_,.nil=>.nil
 |_,_,0,.cons _ t=>.cons r t
 |_,_,i+1,.cons q t=>.cons q (ke.set r i t)
theorem ke.append{xs a:em}{us ws}(h:ke xs us)(s:ke a ws):ke (xs++a) (us++ws):=by
 induction h with
 |nil=>exact s
 |cons r _ i=>exact .cons r i
theorem ke.take:∀ {xs:em} {us:b'} (n:Nat),ke xs us->ke (xs.take n) (us.take n)
 |_,_,0,_=>.nil
 |_,_,_+1,.nil=>.nil
 |_,_,n+1,.cons r t=>.cons r (ke.take n t)
theorem ke.drop:∀ {xs:em} {us:b'} (n:Nat),ke xs us->ke (xs.drop n) (us.drop n)
 |_,_,0,r=>r
 |_,_,_+1,.nil=>.nil
 |_,_,n+1,.cons _ t=>ke.drop n t
def Po:Option V->Option Value->Prop
 |some v,W1 u=>Rc v u
 |none,ŋ=>True
 |_,_=>False
def KV{a:Type}:List (a × V)->List (a × Value)->Prop:=Paired λ(p:a × V) (q:a × Value)=>p.1=q.1/\Rc p.2 q.2
def kV:jc->V
 | .inl i=>.int i
 | .inr x=>.str x
def NK:Nat->Type
 |0=>jc
 |n+1=>jc ⊕ List (NK n)
instance tU (n:Nat):DecidableEq$ NK n:=λa a=>Classical.propDecidable _
abbrev TK:=List$ NK 4
theorem QO{c a:Type}{R:c->a->Prop}:∀ {xs:List c} {b:List a},Paired R xs b->∀ {j:Nat} {y:a},b[j]?=W1 y->∃ x,xs[j]?=W1 x/\R x y:=by
 intro _ _ h;induction h with
 |nil=>intro _ _ e;simp at e
 |cons r _ i=>
  intro j y e;cases j with
  |zero=>simp at e;subst e;exact⟨_,rfl,r⟩
  |succ j=>obtain⟨x,h⟩:=i (j:=j) (by simpa using e);exact⟨x,by simpa using h⟩
theorem fL{c d:Type}{F G:c->d->Prop}(f:∀ a b,F a b->G a b):∀ {l:List c} {m:List d},Paired F l m->Paired G l m:=by
 intro _ _ h;induction h with
 |nil=>exact .nil
 |cons r _ i=>exact .cons (f _ _ r) i
section
variable(P:xa)(w:Na)
def Jp(h:Heap):(n:Nat)->NK n->Value->Prop
 |0,k,v=>(Hj P w).is k v=š
 |_+1,.inl k,v=>(Hj P w).is k v=š
 |n+1,.inr ks,v=>∃ a b,v=.ref a/\IsTup h a b/\Paired (Jp h n) ks b.toList
def yC:(n:Nat)->NK n->Int
 |0,k=>(Hj P w).hash k
 |_+1,.inl k=>(Hj P w).hash k
 |n+1,.inr ks=>FB (He$ ks.map$ yC n)
def nJ:(n:Nat)->NK n->Nat
 |0,_=>1
 |_+1,.inl _=>1
 |n+1,.inr ks=>(ks.map$ nJ n).sum+1
variable{P w}
theorem rS:∀ (n:Nat) {A:Ia} {E:Value->Shared->Prop} {s:Shared} {k:NK n} {v:Value} {Q:Int->Shared->Prop},Jp P w s.heap n k v->A.units+n<cLine->Q (yC P w n k) { s with toks:=s.toks+nJ n k }->wpAny (model P w) A (pyHash v) Q E s
 |0,_,_,_,_,_,_,e,_,h=>(Hj P w).pyHash e h
 |_+1,_,_,_,.inl _,_,_,e,_,h=>(Hj P w).pyHash e h
 |n+1,A,E,s,.inr ks,v,Q,e,D,h=>by
  obtain⟨a,C,rfl,⟨o,r,u,m,y⟩,B⟩:=e;have f:s.TypeIs (.ref a) "tuple":=⟨o,r,u⟩
  refine ba$ wpAny_cRoomFor_or (.inr$ by lia)$ ba$ bh f F.slot_tuple_hash.lookup$ ba$ bh f F.slot_tuple_hash.lookup$ ba$ wpAny_callSpecialIfBoundUnlessNone?_slot f F.slot_tuple_hash$ gd F.slot_tuple_hash f F.entry_tuple_hash ?_$ F.args_tuple_hash_1 _;show wpAny _ _ (Vf _ >>= _) _ _ s;refine ba$ wpAny_tupleItemsOf r y ?_;refine ba ?_;rw[<-Ts];refine UG _
   (λrest (b:Array Int) q=>∃ c left,ks=c++left/\Paired (Jp P w s.heap n) left rest/\b.toList=c.map (yC P w n)/\q={ s with toks:=s.toks+(c.map$ nJ n).sum })
   _ ?_ ?_ _ _ ⟨[],ks,rfl,B,rfl,rfl⟩
  ·rintro x rest b q ⟨c,left,rfl,j,i,rfl⟩;cases j with
   |@cons p _ d _ t l=>
    refine ba$ rS n t (show A.units+1+n<cLine by lia) ?_;first
     |exact da ⟨c++[p],d,by simp,l,by simp[i],by simp[Cp]⟩
     |exact ba _
  ·rintro b q ⟨c,left,rfl,j,i,rfl⟩;cases j;rw[be]at h;show wpAny _ _ (retInt$ He b.toList) _ _ _;rw[i];refine wpAny_ret_mkInt ?_;have h:Q (FB$ He$ c.map$ yC P w n) { s with toks:=s.toks+((c.map _).sum+1) }:=h;generalize He (c.map$ yC P w n)=z at *;show wpAny _ _ (if (decide (-(2:Int) ^ 63<=z) && decide (z<2 ^ 63))=š then _ else _) Q E _;unfold FB at h;by_cases g:(decide (-(2:Int) ^ 63<=z) && decide (z<2 ^ 63))=š
   ·rw[ja g];rw[ja g]at h;exact da (by simpa [Cp]using h)
   ·rw[ra g];rw[ra g]at h;exact ba$ lm$ da (by simpa [Cp]using h)
theorem wQ:∀ (n m:Nat) {A:Ia} {E:Value->Shared->Prop} {s:Shared} {k:NK n} {v:Value} {Q:Bool->Shared->Prop},n<=m->Jp P w s.heap n k v->Q š s->wpAny (model P w) A (eqIsQuiet m v) Q E s
 |0,_,_,_,_,_,_,_,_,b,h=>by rw[OD _$ (Hj P w).byValue _ _ b];exact da h
 |_+1,_,_,_,_,.inl _,_,_,_,b,h=>by rw[OD _$ (Hj P w).byValue _ _ b];exact da h
 |n+1,0,_,_,_,.inr _,_,_,hm,_,_=>by lia
 |n+1,m+1,A,E,s,.inr ks,v,Q,hm,b,h=>by
  obtain⟨a,d,rfl,⟨o,g,l,q,p⟩,u⟩:=b;have f:s.TypeIs (.ref a) "tuple":=⟨o,g,l⟩
  unfold eqIsQuiet;refine ba$ bh f F.slot_tuple_eq.lookup ?_;refine ba$ Eo f isSubtype_tuple_tuple$ ba$ Yj g p ?_;refine ba ?_;show wpAny _ _ (forIn d _ _) _ _ s;rw[<-Ts];refine UG _ (λrest r e=>r.1=ŋ/\e=s/\∃ ks,Paired (Jp P w s.heap n) ks rest) _ ?_ ?_ _ _ ⟨rfl,rfl,ks,u⟩
  ·rintro v rest r e ⟨i,rfl,x,t⟩;cases t with
   |cons j c=>
    refine ba$ wQ n _ ⋯ j ?_;exact da ⟨rfl,rfl,_,c⟩
  ·rintro ⟨y,z⟩ e ⟨i,rfl,_⟩;subst i;exact da h
def yQ(h:(Hj P w).is k (.ref a)=š):False:=by
 have:=(Hj P w).byValue _ _ h;trivial
def IsTup.uniq(p:IsTup h a x)(q:IsTup h a y):x=y:=by
 obtain⟨o,b,_,n,c⟩:=p;obtain⟨g,d,_,f,e⟩:=q
 simp_all
theorem fN{h:Heap}:∀ (n:Nat) {x y:NK n} {v:Value},Jp P w h n x v->Jp P w h n y v->x=y
 |0,_,_,_,c,d=>(Hj P w).inj _ _ _ c d
 |_+1,.inl _,.inl _,_,c,d=>eb Sum.inl ((Hj P w).inj _ _ _ c d)
 |_+1,.inl _,.inr _,_,c,d=>by obtain⟨a,_,rfl,_⟩:=d;exact(yQ c).elim
 |_+1,.inr _,.inl _,_,c,d=>by obtain⟨a,_,rfl,_⟩:=c;exact(yQ d).elim
 |n+1,.inr xs,.inr f,_,c,d=>by
  obtain⟨a,u,rfl,s,k⟩:=c;obtain⟨b,z,e,t,l⟩:=d;cases e;obtain rfl:=IsTup.uniq s t;have i:∀ {xs f:List _} {g:b'},Paired (Jp P w h n) xs g->Paired (Jp P w h n) f g->xs=f:=by
   intro xs f g p;induction p generalizing f with
   |nil=>intro q;cases q;rfl
   |cons r _ j=>intro q;cases q with|cons m o=>rw[fN n r m,j o]
  exact eb Sum.inr$ i k l
theorem UX{h f:Heap}(g:∀ b o c m,h.get? b=W1 o->o.data=.seq c m->f.get? b=W1 o):∀ (n:Nat) {k:NK n} {v:Value},Jp P w h n k v->Jp P w f n k v
 |0,_,_,d=>d
 |_+1,.inl _,_,d=>d
 |n+1,.inr _,_,d=>by
  obtain⟨a,c,rfl,⟨o,i,j,m,e⟩,p⟩:=d;exact⟨a,c,rfl,⟨o,g _ _ _ _ i e,j,m,e⟩,fL (λl l r=>UX g n r) p⟩
def G2:∀ n {A} {s} {x y} {u v} b,(b=š ↔ x=y)->Jp P w s.heap n x u->Jp P w s.heap n y v->A.units+n<cLine->Dc A s u v b:=by
 have k:∀ {A:Ia} {s:Shared} {x y:jc} {u v:Value} (b:Bool),(b=š ↔ x=y)->(Hj P w).is x u=š->(Hj P w).is y v=š->Dc A s u v b:=fun {A s x y u v} b d f g=>by
  rcases Aq f with⟨i,t,rfl,rfl⟩|⟨i,t,rfl,rfl⟩<;>rcases Aq g with⟨j,r,rfl,rfl⟩|⟨j,r,rfl,rfl⟩
  ·rw[show b=(i == j) by rw[qg,d];simp];exact .int_int _ _ _ _
  ·rw[show b=į by rw[<-qe,d];simp];exact .int_str _ _ _ _
  ·rw[show b=į by rw[<-qe,d];simp];exact .str_int _ _ _ _
  ·rw[show b=(i == j) by rw[qg,d];simp];exact .str_str _ _ _ _
 intro n;induction n with
 |zero=>intro A s x y u v b d f g _;exact k b d f g
 |succ n T=>
  intro A s x y u v b d f g W
  match x,y,d,f,g with
  | .inl x,.inl y,d,f,g=>exact k b (d.trans ⟨Dp,eb _⟩) f g
  | .inl x,.inr F,d,f,g=>
   obtain⟨a,H,rfl,⟨o,l,B,m,C⟩,p⟩:=g;rw[show b=į by rw[<-qe,d];exact λz=>nomatch z];rcases Aq f with⟨i,t,rfl,rfl⟩|⟨i,t,rfl,rfl⟩
   ·exact .int_tuple _ _ ⟨o,l,B,m,C⟩ ⋯
   ·exact .str_tuple _ _ ⟨o,l,B,m,C⟩ ⋯
  | .inr xs,.inl y,d,f,g=>
   obtain⟨a,H,rfl,⟨o,l,B,m,C⟩,p⟩:=f;rw[show b=į by rw[<-qe,d];exact λz=>nomatch z];rcases Aq g with⟨i,t,rfl,rfl⟩|⟨i,t,rfl,rfl⟩
   ·exact .tuple_int _ _ ⟨o,l,B,m,C⟩ ⋯
   ·exact .tuple_str _ _ ⟨o,l,B,m,C⟩ ⋯
  | .inr xs,.inr F,d,f,g=>
   have q:=f;obtain⟨a,D,rfl,ό,ϋ⟩:=f;obtain⟨c,E,rfl,Q,I⟩:=g;by_cases e:a=c
   ·subst e;obtain rfl:=IsTup.uniq ό Q;rw[d.mpr$ fN (n+1) q ⟨a,D,rfl,ό,I⟩];exact .same _
   ·have l1:xs.length=D.size:=by rw[Paired.length ϋ,Wb]
    have l2:F.length=E.size:=by rw[Paired.length I,Wb]
    have r:=vZ (A:=A) (e:=λj=>decide$ xs[j]?=F[j]?) (let ⟨o,K,L,m,M⟩:=ό;⟨o,K,L,m,M⟩) (let ⟨o,K,L,m,M⟩:=Q;⟨o,K,L,m,M⟩) ⋯ λj G N=>by
     obtain⟨x,ex,rx⟩:=QO ϋ (j:=j) (y:=D[j]) (by simp[G]);obtain⟨y,S,ϊ⟩:=QO I (j:=j) (y:=E[j]) (by simp[N]);exact T _ (by rw[Bb,ex,S];exact⟨Cb,eb _⟩) rx ϊ (show A.units+1+n<cLine by lia)
    have R:((List.range$ min D.size E.size).all (λj=>decide$ xs[j]?=F[j]?) && D.size == E.size)=b:=by
     rw[qg,d,Ca,Xa,Xh,<-l1,<-l2];constructor
     ·rintro ⟨G,N⟩;refine eb Sum.inr (Dk λj=>?_);by_cases V:j<xs.length
      ·exact ve$ G j$ Gz.mpr ⋯
      ·rw[Hi ⋯,Hi ⋯]
     ·intro h;cases (Ep h);exact⟨λj J=>by simp,rfl⟩
    rw[R]at r;exact .of_refs e r
def lG(P:xa)(w:Na):HeapKind P w TK where
 is:=λh ks a=>Jp P w h 5 (.inr ks)$ .ref a
 hash:=λks=>yC P w 5$ .inr ks
 draws:=λks=>nJ 5$ .inr ks
 room:=λA=>A.units+5<cLine
 inj:=λf g=>Ep$ fN 5 f g
 keeps:=λx j hd k=>UX (λb n l m e i=>(k.2 b$ λz=>by subst z;rw[j]at e;cases e;rw[hd]at i;exact nomatch i).trans e) 5 x
 pyHash:=λd c h=>rS 5 c d h
 eqBool:=λd f g h=>G2 5 _ (by rw[Bb];exact⟨eb _,Ep⟩) f g d _ _ _ _ h
 quiet:=λc h=>wQ 5 8 ⋯ c h
end
inductive HO where
 |qa (xs:em)
 |Sa (xs:em)
 |dK (kvs:List (jc × V))|dT (kvs:List (TK × V))
 |set (S:Int->Bool) (n:Nat)
 |ub (C dx:Addr) (fs:List (Str × V))
 |own (x:Addr)
 |xd (fs:List (Str × V))
 |met (f x:Addr)
 |TM (lo hi:Int)
 |Ic (o:Obj) (u:HO)
 |zl (ps:Array Value)
 |ext (φ:Heap->Prop)
abbrev Hp:=Addr->Option HO
def NR(H:Hp):(n:Nat)->NK n->V->Prop
 |0,k,v=>v=kV k
 |_+1,.inl k,v=>v=kV k
 |n+1,.inr ks,v=>∃ a b,v=.ref a/\H a=W1 (.Sa b)/\Paired (NR H n) ks b
theorem NR.keeps(d:∀ b xs,H b=W1 (.Sa xs)->c b=W1 (.Sa xs)):∀ (n:Nat) {k:NK n} {v:V},NR H n k v->NR c n k v
 |0,_,_,h=>h
 |_+1,.inl _,_,h=>h
 |n+1,.inr _,_,h=>by obtain⟨a,f,rfl,e,p⟩:=h;exact⟨a,f,rfl,d _ _ e,fL (λg g r=>NR.keeps d n r) p⟩
noncomputable def Qa(H:Hp)(a:Addr)(o:HO):Hp:=λb=>if b=a then W1 o else H b
def rf:Qa H a o a=W1 o:=by unfold Qa;rw[ja rfl]
def Xd(h:b≠a):Qa H a o b=H b:=by unfold Qa;rw[ra h]
def IP{H:Hp}(h:H a=W1 o)(c:H b=W1 u)(d:o≠u):a≠b:=by
 intro e;subst e;rw[h]at c;exact d$ Cb c
def ym{H:Hp}(h:H a=W1 o)(c:H b=ŋ):a≠b:=by
 intro e;subst e;rw[h]at c;cases c
section
variable(P:xa)(w:Na)
inductive bz(h:Heap)(a:Addr)(xs:em):Prop
 |mk (f1:xs.length<=sizeLine) (its:b') (n:Nat) (f2:ke xs its) (f3:h.get? a=W1 { cls:=.type "list",data:=.seq its.toArray n }):bz h a xs
inductive kz(h:Heap)(a:Addr)(xs:em):Prop
 |mk (f1:xs.length<=sizeLine) (its:b') (f2:ke xs its) (f3:IsTup h a its.toArray):kz h a xs
inductive Bz(H:Hp)(h:Heap)(a C dx:Addr)(fs:List (Str × V)):Prop
 |mk (f1:H dx=W1 (.own a)) (f2:fs.length<=1000) (f3:dx≠a) (f4:h.get? a=W1 (W.instObj C dx)) (mA:Str->Option Value) (f5:h.Ns1 dx mA) (f6:(∀ f,Po (fs.lookup f) (mA f))) (f7:PySem.Within mA (fs.map (·.1))):Bz H h a C dx fs
def Uj(H:Hp)(h:Heap)(a:Addr):HO->Prop
 | .qa xs=>bz h a xs
 | .Sa xs=>kz h a xs
 | .dK b=>b.length<=sizeLine/\(a == ff)=į/\∃ j,KV b j/\h.DictOf (Hj P w) a j
 | .dT b=>b.length<=sizeLine/\(a == ff)=į/\∃ xs:List (TK × Addr × Value),
   Paired (λ(p:TK × V) (q:TK × Addr × Value)=>p.1=q.1/\NR H 5 (.inr p.1) (.ref q.2.1)/\Rc p.2 q.2.2) b xs/\
   ∃ o d l,h.get? a=W1 o/\o.ExactDict/\o.data=.dict d l/\d.toList=xs.map (entryOfKey$ lG P w)/\(xs.map (·.1)).Nodup
 | .set S n=>h.SetOf (yh P w) a S n
 | .ub C k c=>Bz H h a C k c
 | .own _=>∃ o,h.get? a=W1 o
 | .xd c=>∃ i,h.Ns1 a i/\∀ f,Po (c.lookup f) (i f)
 | .TM lo m=>∃ t u v,h.get? a=W1 { cls:=.type "range",data:=.fields #[.int lo t,.int m u,.int 1 v] }
 | .Ic o u=>h.get? a=W1 o/\Uj H h a u
 | .zl ps=>h.get? a=W1 { cls:=.none,data:=.fields ps }
 | .met f x=>h.get? a=W1 (W.methodObj (.ref f)$ .ref x)
 | .ext φ=>φ h/\(∃ o,h.get? a=W1 o)/\∀ e g:Heap,φ e->(∀ o,e.get? a=W1 o->g.get? a=W1 o)->φ g
def Qh(H:Hp)(h:Heap):Prop:=∀ a o,H a=W1 o->Uj P w H h a o
end
section
variable{P:xa}{w:Na}{H H':Hp}{h h':Heap}{a:Addr}{o:HO}
def Uj.lt(x:Uj P w H h a o):a<h.objs.size:=by
 cases o with
 |qa xs=>obtain⟨_,_,_,_,e⟩:=x;exact wa e
 |Sa xs=>obtain⟨_,_,_,p⟩:=x;exact p.lt
 |dK b=>obtain⟨_,_,_,_,o,_,_,e,_⟩:=x;exact wa e
 |dT b=>obtain⟨_,_,_,_,o,_,_,e,_⟩:=x;exact wa e
 |set S n=>obtain⟨o,_,_,_,e,_⟩:=x;exact wa e
 |ub C d c=>obtain⟨_,_,_,e,_⟩:=x;exact wa e
 |own y=>obtain⟨_,e⟩:=x;exact wa e
 |xd c=>obtain⟨_,⟨_,_,_,e,_⟩,_⟩:=x;exact wa e
 |TM lo g=>obtain⟨_,_,_,e⟩:=x;exact wa e
 |Ic i u=>obtain⟨e,_⟩:=x;exact wa e
 |zl ps=>exact wa$ x
 |met f y=>exact wa$ x
 |ext j=>obtain⟨_,⟨_,e⟩,_⟩:=x;exact wa e
theorem Paired.qp:∀ {c:List e} {d:List g},Paired F c d->(∀ a b,F a b->G a b)->Paired G c d:=by
 intro _ _ h f;induction h with
 |nil=>exact .nil
 |cons r _ i=>exact .cons (f _ _ r) i
def Uj.Rj(x:Uj P w H h a o)(k:∀ b u,(b=a\/H b=W1 (.own a))->h.get? b=W1 u->h'.get? b=W1 u)
  (D:∀ b,H b=W1 (.own a)->H' b=W1 (.own a)) (E:∀ b xs,H b=W1 (.Sa xs)->H' b=W1 (.Sa xs)):Uj P w H' h' a o:=by
 induction o with
 |qa xs=>obtain⟨z,j,n,r,e⟩:=x;exact⟨z,j,n,r,k _ _ (.inl rfl) e⟩
 |Sa xs=>obtain⟨z,j,r,ob,e,c⟩:=x;exact⟨z,j,r,ob,k _ _ (.inl rfl) e,c⟩
 |dK l=>obtain⟨z,y,I,r,ob,i,g,e,c⟩:=x;exact⟨z,y,I,r,ob,i,g,k _ _ (.inl rfl) e,c⟩
 |dT l=>
  obtain⟨z,y,xs,r,ob,i,g,e,c⟩:=x;exact⟨z,y,xs,Paired.qp r λp q z=>⟨z.1,NR.keeps E 5 z.2.1,z.2.2⟩,ob,i,g,k _ _ (.inl rfl) e,c⟩
 |set S n=>obtain⟨ob,i,g,t,e,c⟩:=x;exact⟨ob,i,g,t,k _ _ (.inl rfl) e,c⟩
 |ub C ό B=>
  obtain⟨d,z,G,e,m,⟨s,i,g,A,c⟩,r,w⟩:=x;exact⟨D _ d,z,G,k _ _ (.inl rfl) e,m,⟨s,i,g,k _ _ (.inr d) A,c⟩,r,w⟩
 |own y=>obtain⟨ob,e⟩:=x;exact⟨ob,k _ _ (.inl rfl) e⟩
 |xd B=>obtain⟨m,⟨s,i,g,e,c⟩,r⟩:=x;exact⟨m,⟨s,i,g,k _ _ (.inl rfl) e,c⟩,r⟩
 |TM lo K=>obtain⟨t,u,v,e⟩:=x;exact⟨t,u,v,k _ _ (.inl rfl) e⟩
 |Ic ob u F=>obtain⟨e,q⟩:=x;exact⟨k _ _ (.inl rfl) e,F q⟩
 |zl ps=>
  have e:=x;exact k a _ (.inl rfl) e
 |met f y=>
  have e:=x;exact k a _ (.inl rfl) e
 |ext L=>obtain⟨p,⟨o,e⟩,st⟩:=x;exact⟨st _ _ p λo q=>k _ _ (.inl rfl) q,⟨o,k _ _ (.inl rfl) e⟩,st⟩
def Qh.lt(x:Qh P w H h)(e:H a=W1 o):a<h.objs.size:=(x a o e).lt
def Qh.fresh(x:Qh P w H h)(e:h.objs.size<=a):H a=ŋ:=by
 cases q:H a with
 |none=>rfl
 |some u=>exact absurd (Ma (x.lt q) e)$ Bd _
def Qh.kept(x:Qh P w H h)(k:∀ b u,h.get? b=W1 u->h'.get? b=W1 u):Qh P w H h':=λa o e=>
 (x a o e).Rj (λb u c q=>k b u q) (λc q=>q) λc c q=>q
def Qh.laid(x:Qh P w H h)(k:∀ b u,h.get? b=W1 u->h'.get? b=W1 u)(i:h.objs.size<=a)(d:Uj P w (Qa H a o) h' a o):Qh P w (Qa H a o) h':=λb u e=>by
 have g:=x.fresh i;by_cases f:b=a
 ·subst f;rw[rf]at e;cases e;exact d
 ·rw[Xd f]at e;exact(x b u e).Rj (λc v j q=>k c v q) (λc q=>by rw[Xd$ ym q g];exact q) λc xs q=>by rw[Xd$ ym q g];exact q
end
def Rd(H:Hp)(a:Addr)(u:HO):Prop:=H a=W1 u\/∃ o,H a=W1 (.Ic o u)
def Rd.ok(r:Rd H a u)(x:Qh P w H h):Uj P w H h a u:=by
 rcases r with r|⟨o,r⟩
 ·exact x a u r
 ·obtain⟨_,q⟩:=x a _ r;exact q
def XF:Option HO->Prop
 |some (.qa _)=>True
 |some (.dK _)=>True
 |some (.dT _)=>True
 |some (.set _ _)=>True
 |some (.ub _ _ _)=>True
 |some (.ext _)=>True
 |_=>False
section
variable{P:xa}{w:Na}{H:Hp}{h h':Heap}{x e:Addr}{o':HO}
def Qh.write(ok:Qh P w H h)(g:XF$ H x)(p:e=x\/H e=W1 (.own x))(k:∀ b u,b≠e->h.get? b=W1 u->h'.get? b=W1 u)(i:∃ u,h'.get? e=W1 u)
  (j:Uj P w (Qa H x o') h' x o'):Qh P w (Qa H x o') h':=λb u q=>by
 have d:∀ c y,H c=W1 (.own y)->c≠x:=λc y r z=>by subst z;rw[r]at g;exact g
 have f:∀ c xs,H c=W1 (.Sa xs)->c≠x:=λc xs r z=>by subst z;rw[r]at g;exact g
 by_cases l:b=x
 ·subst l;rw[rf]at q;cases q;exact j
 ·rw[Xd l]at q;by_cases a:b=e
  ·have n:H b=W1 (.own x):=by
    simp_all
   rw[q]at n;cases n;obtain⟨v,o⟩:=i;exact⟨v,by rw[a];exact o⟩
  ·refine(ok b u q).Rj (λc v m r=>k c v ?_ r) (λc r=>by rw[Xd$ d c b r];exact r) λc xs r=>by rw[Xd$ f c xs r];exact r
   rcases m with rfl|m
   ·exact a
   ·rintro rfl
    simp_all
end
structure Un(fs ex:ac)(H H':Hp)(h h':Heap):Prop where
 keep:∀ b o,h.get? b=W1 o->H b=ŋ->b ∉ fs->b ∉ ex->h'.get? b=W1 o
 slot:∀ b o,h.get? b=W1 o->H b=ŋ->b∈fs->b ∉ ex->∃ sl,h'.get? b=W1 { o with slots:=sl }
 free:∀ b o,h.get? b=W1 o->H b=ŋ->b ∉ ex->H' b=ŋ
 there:∀ b o,h.get? b=W1 o->b ∉ ex->∃ o',h'.get? b=W1 o'
 jm:∀ b xs,H b=W1 (.Sa xs)->H' b=W1 (.Sa xs)
 Yi:∀ b o u,H b=W1 (.Ic o u)->H' b=W1 (.Ic o u)
 Zk:∀ b ps,H b=W1 (.zl ps)->∃ more,H' b=W1 (.zl (ps++more))
section
variable{fs fs' ex ex':ac}{H H1 H2:Hp}{h h1 h2 h':Heap}{a x e:Addr}{o:HO}
def Un.any(u:Un fs ex H H1 h h1){a}(q:h.get? b=W1 a)(n:H b=ŋ)(d:b ∉ ex):∃ e,h1.get? b=W1 { a with slots:=e }:=by
 by_cases c:b∈fs
 ·exact u.slot b a q n c d
 ·exact⟨a.slots,u.keep b a q n c d⟩
def Un.kept(k:∀ b u,h.get? b=W1 u->h'.get? b=W1 u):Un fs ex H H h h':=
 ⟨λb a q c c c=>k b a q,λb a q c c c=>⟨a.slots,k b a q⟩,λc c c n c=>n,λb a q c=>⟨a,k b a q⟩,λc c q=>q,λc c c q=>q,λc ps q=>⟨#[],by rw[q];simp⟩⟩
def Un.refl:Un fs ex H H h h:=Un.kept λa a q=>q
def Un.laid(k:∀ b u,h.get? b=W1 u->h'.get? b=W1 u)(d:h.objs.size<=a)(c:H a=ŋ):Un fs ex H (Qa H a o) h h' where
 keep:=λb u q e e e=>k b u q
 slot:=λb u q e e e=>⟨u.slots,k b u q⟩
 free:=λb u q n e=>by rw[Xd$ Aa$ Ma (wa q) d];exact n
 there:=λb u q e=>⟨u,k b u q⟩
 jm:=λb xs q=>by rw[Xd$ ym q c];exact q
 Yi:=λb u xs q=>by rw[Xd$ ym q c];exact q
 Zk:=λb ps q=>⟨#[],by rw[Xd$ ym q c,q];simp⟩
def Un.write(a:XF$ H x)(j:e=x\/H e=W1 (.own x))(k:∀ b u,b≠e->h.get? b=W1 u->h'.get? b=W1 u)(g:∃ u,h'.get? e=W1 u):Un fs ex H (Qa H x o) h h':=by
 have i:∀ b,H b=ŋ->b≠x:=λb n z=>by subst z;rw[n]at a;exact a
 have d:∀ b,H b=ŋ->b≠e:=λb n z=>by
  simp_all
 have c:∀ b u,H b=W1 u->¬ XF (W1 u)->b≠x:=λb u q nm z=>by subst z;rw[q]at a;exact nm a
 refine⟨λb u q n l l=>k b u (d b n) q,λb u q n l l=>⟨u.slots,k b u (d b n) q⟩,λb u q n l=>by rw[Xd$ i b n];exact n,λb u q l=>?_,
  λb xs q=>by rw[Xd (c b _ q λz=>z)];exact q,λb u xs q=>by rw[Xd (c b _ q λz=>z)];exact q,λb ps q=>⟨#[],by rw[Xd (c b _ q λz=>z),q];simp⟩⟩
 by_cases f:b=e;all_goals simp_all
end
noncomputable def pZ(h:Heap)(H:Hp):ac:=(List.range h.objs.size).filter λa=>(H a).isSome
def Dy(h:Heap)(H:Hp):Heap:=W.hideAll h$ pZ h H
def π h H:(Dy h H).objs.size=h.objs.size:=W.hideAll_size _ _
def ŋz(e:h.get? b=W1 o)(n:H b=ŋ):(Dy h H).get? b=W1 o:=
 W.hideAll_get _ e λa=>by
  have q:=(ri.mp a).2
  simp_all
def šz(e:(Dy h H).get? b=W1 o):h.get? b=W1 o/\H b=ŋ:=by
 have a:=W.of_hideAll _ e;refine⟨a,?_⟩;cases q:H b with
 |none=>rfl
 |some x=>
  have c:b∈pZ h H:=ri.mpr ⟨Gz.mpr$ wa a,by simp[q]⟩;have z:(Dy h H).get? b=ŋ:=W.hideAll_none _ c
  simp_all
noncomputable def įz(g h:Heap)(L:Addr):List$ Addr × Obj:=(List.range h.objs.size).filterMap λa=>if a=L\/(g.get? a).isSome=š then ŋ else (h.get? a).map λo=>(a,o)
def rest(g h:Heap)(L d:Addr):List$ Addr × Obj:=(įz g h L).filter λp=>decide$ p.1≠d
structure Mod(K:W.Frag)(mg:Str->Option Value)(base:Heap):Prop where
 gx:K.In base
 glob:base.Ns mainGlobals mg
 blt:∃ mb,base.Ns builtinsNs mb/\∀ x:Str,x ≠ "__name__"->mb x=bootBuiltins x
 nolimit:base.NoLimit
structure Cx where
 prog:xa
 w:Na
 K:W.Frag
 mg:Str->Option Value
 base:Heap
 A:Ia
 N:ab
 s₀:Shared
 H₀:Hp
 env:xg
 outer:List xg
 stack:List xg
 ex:ac
 fn:Str->Bool
 Fd:Bool
 pn:dN
 xe:Value->Shared->Prop
noncomputable def rk(l:List xg):ac:=l.filterMap (·.frame)
abbrev Cx.fs(X:Cx):ac:=rk X.outer
def QI(sc:Scope)(x:Str):Prop:=sc.names.lookup x=W1 .local\/sc.names.lookup x=W1 .cell\/sc.names.lookup x=W1 .free
def Loc(sc:Scope)(x:Str):Prop:=sc.names.lookup x=W1 .local\/sc.names.lookup x=W1 .cell
def ľ(a:xg)(h:Heap)(m:Str->Option Value)(x:Str)(u:Value):Prop:=
 (a.kindOf x=W1 .local/\m x=W1 u)\/((a.kindOf x=W1 .cell\/a.kindOf x=W1 .free)/\∃ c,a.cells.lookup x=W1 c/\h.IsCell c (W1 u))
structure Cx.Ok(X:Cx):Prop where
 mod:Mod X.K X.mg X.base
 kind:X.env.scope.kind=.function
 glob:X.env.globals=mainGlobals
 blt:X.env.builtins=builtinsNs
 above:X.s₀.heap.objs.size<=X.env.locals
 inj:∀ x y c,X.env.cells.lookup x=W1 c->X.env.cells.lookup y=W1 c->x=y
 has:∀ x,(X.env.kindOf x=W1 .cell\/X.env.kindOf x=W1 .free)->∃ c,X.env.cells.lookup x=W1 c
 qE:∀ x c,X.fn x=š->X.env.cells.lookup x=W1 c->X.s₀.heap.objs.size<=c
 hd:X.Fd=š->X.A.handled=ŋ
 frames:X.A.frames=W1 X.stack
 Mp:X.stack=X.outer\/(X.stack=X.env::X.outer/\X.env.frame=W1 X.env.locals)
 oJ:∀ b∈X.ex,b≠X.env.locals/\∀ x c,X.env.cells.lookup x=W1 c->c≠b
 bs:∀ b o,X.base.get? b=W1 o->X.s₀.heap.get? b=W1 o/\X.H₀ b=ŋ
 Jv:X.base.objs.size<=X.s₀.heap.objs.size
 ju:∀ b o,X.base.get? b=W1 o->b ∉ X.ex
 Ku:∀ b∈X.ex,b ∉ X.fs
 Hk:X.s₀.heap.FunFrames X.base X.outer
 sB:∀ b∈X.fs,X.H₀ b=ŋ
structure gb(X:Cx)(pins:dN)(σ:List (Option V))(H:Hp)(s:Shared):Prop where
 ok:X.Ok
 os:s.os=X.s₀.os
 bare:zh s.gens
 base:Un X.fs X.ex X.H₀ H X.s₀.heap s.heap
 loc:∃ m,s.heap.Ns X.env.locals m/\∀ (i:Nat) (x:Str) (v:V),X.N[i]?=W1 x->σ[i]?=W1 (W1 v)->QI X.env.scope x->∃ u,Rc v u/\ľ X.env s.heap m x u
 cell:∀ x c,X.env.cells.lookup x=W1 c->∃ v,s.heap.IsCell c v
 free:H X.env.locals=ŋ
 uh:∀ x c,X.env.cells.lookup x=W1 c->H c=ŋ
 pin:∀ p∈X.pn++pins,s.heap.get? p.1=W1 p.2/\H p.1=ŋ/\p.1≠X.env.locals/\p.1 ∉ X.fs/\∀ v,p.2.data≠.cell v
 pc:Qh X.prog X.w H s.heap
 len:σ.length=X.N.length
section
variable{X:Cx}{pins:List$ Addr × Obj}{σ:List$ Option V}{H H':Hp}{s:Shared}{h':Heap}
def Cx.Ok.xK(ok:X.Ok)(e:X.base.get? b=W1 o):b ∉ X.fs:=λa=>by
 have:=(ok.Hk.mem a).1
 simp_all
def gb.bs(I:gb X pins σ H s):∀ b o,X.base.get? b=W1 o->s.heap.get? b=W1 o/\H b=ŋ:=λb o e=>
 ⟨I.base.keep b o (I.ok.bs b o e).1 (I.ok.bs b o e).2 (I.ok.xK e)$ I.ok.ju b o e,I.base.free b o (I.ok.bs b o e).1 (I.ok.bs b o e).2$ I.ok.ju b o e⟩
def gb.bk(I:gb X pins σ H s):∀ b o,X.base.get? b=W1 o->s.heap.get? b=W1 o:=λb o e=>(I.bs b o e).1
def gb.mod(I:gb X pins σ H s):Mod X.K X.mg X.base:=I.ok.mod
def gb.Li(I:gb X pins σ H s):X.K.In s.heap:=I.ok.mod.gx.keeps I.bk
def gb.nolimit(I:gb X pins σ H s):s.heap.NoLimit:=I.ok.mod.nolimit.keeps I.bk
def gb.lt(I:gb X pins σ H s):X.env.locals<s.heap.objs.size:=let ⟨_,a,_⟩:=I.loc;a.lt
def gb.sz(I:gb X pins σ H s):X.s₀.heap.objs.size<=s.heap.objs.size:=zb I.ok.above$ zd I.lt
def gb.uG(I:gb X pins σ H s)(h:s.heap.objs.size<=a):a ∉ X.fs:=λb=>by
 obtain⟨_,o,c,_⟩:=I.ok.Hk.mem b;exact absurd (Ma (wa c)$ zb I.sz h)$ Bd _
def gb.zL(I:gb X pins σ H s):∀ x c,X.env.cells.lookup x=W1 c->c≠X.env.locals:=λx c e z=>by
 obtain⟨v,o,g,hd⟩:=I.cell x c e;obtain⟨m,⟨h,f,d,b,a,_⟩,_⟩:=I.loc
 simp_all
def gb.Hk(I:gb X pins σ H s):s.heap.FunFrames X.base X.outer:=by
 have a:∀ l,(∀ b∈rk l,b∈X.fs)->X.s₀.heap.FunFrames X.base l->s.heap.FunFrames X.base l:=by
  intro l;induction l with
  |nil=>intro _ _;trivial
  |cons env r m=>
   rintro g ⟨h,⟨L,o,f,i,j,hd⟩,k⟩;have c:=g L (by unfold rk;rw[Dg,f];exact ua);obtain⟨n,e⟩:=I.base.slot L o j (I.ok.sB L c) c λz=>I.ok.Ku L z c;exact⟨h,⟨L,_,f,i,e,hd⟩,m (λb d=>g b (by unfold rk;rw[Dg,f];exact la _ d)) k⟩
 exact a X.outer (λp d=>d) I.ok.Hk
def gb.stack(I:gb X pins σ H s):s.heap.FunFrames X.base X.stack:=by
 rcases I.ok.Mp with e|⟨e,a⟩
 ·rw[e];exact I.Hk
 ·rw[e];obtain⟨m,b,_⟩:=I.loc;exact .cons (by rw[I.ok.kind];decide) a b (Heap.get?_none_of_le$ zb I.ok.Jv I.ok.above) I.Hk
def gb.vq(I:gb X pins σ H s):∀ b∈rk X.stack,b∈X.env.locals::X.fs:=λb a=>by
 rcases I.ok.Mp with e|⟨e,c⟩
 ·rw[e]at a;exact la _ a
 ·rw[e]at a;unfold rk at a
  rwa [Dg,c]at a
def gb.Hl(I:gb X pins σ H s):∀ b∈rk X.stack,H b=ŋ:=λb a=>by
 rcases La.mp (I.vq b a)with e|a
 ·rw[e];exact I.free
 ·obtain⟨_,o,c,_⟩:=I.ok.Hk.mem a;exact I.base.free b o c (I.ok.sB b a) λz=>I.ok.Ku b z a
def gb.step{ch:ac}(I:gb X pins σ H s)
  (h:∀ b∈ch,(b∈X.ex\/X.s₀.heap.objs.size<=b)/\b≠X.env.locals/\(∀ x c,X.env.cells.lookup x=W1 c->c≠b)/\∀ p∈X.pn++pins,p.1≠b)
  (j:∀ b o,b≠X.env.locals->b ∉ X.fs->b ∉ ch->s.heap.get? b=W1 o->H b=ŋ->h'.get? b=W1 o)
  (B:∀ b o,b≠X.env.locals->b∈X.fs->b ∉ ch->s.heap.get? b=W1 o->H b=ŋ->∃ P,h'.get? b=W1 { o with slots:=P }) (f:∀ b o,b ∉ ch->s.heap.get? b=W1 o->H b=ŋ->H' b=ŋ)
  (D:∀ b o,b ∉ ch->s.heap.get? b=W1 o->∃ L,h'.get? b=W1 L)
  (N:∀ b xs,H b=W1 (.Sa xs)->H' b=W1 (.Sa xs)) (G:∀ b o u,H b=W1 (.Ic o u)->H' b=W1 (.Ic o u)) (M:∀ b ps,H b=W1 (.zl ps)->∃ ό,H' b=W1 (.zl$ ps++ό))
  (ns:∀ m,s.heap.Ns X.env.locals m->h'.Ns X.env.locals m) (ϋ:Qh X.prog X.w H' h') (Y:zh R) :
  gb X pins σ H' { s with heap:=h',gens:=R,drawn:=d',toks:=t' }:=by
 have K:∀ b o,X.s₀.heap.get? b=W1 o->b≠X.env.locals:=λb o e=>Aa$ Ma (wa e) I.ok.above;have A:∀ b o,X.s₀.heap.get? b=W1 o->b ∉ X.ex->b ∉ ch:=λb o e a C=>by
  rcases(h b C).1 with z|z
  ·exact a z
  ·exact absurd (Ma (wa e) z)$ Bd _
 have g:∀ x c,X.env.cells.lookup x=W1 c->∀ v,s.heap.IsCell c v->h'.IsCell c v:=λx c e v ⟨o,E,hd⟩=>by
  have t:c ∉ ch:=λz=>(h c z).2.2.1 x c e rfl;by_cases S:c∈X.fs
  ·obtain⟨P,q⟩:=B c o (I.zL x c e) S t E (I.uh x c e);exact⟨_,q,hd⟩
  ·exact⟨o,j c o (I.zL x c e) S t E$ I.uh x c e,hd⟩
 refine⟨I.ok,I.os,Y,⟨λb o e n C a=>?_,λb o e n C a=>?_,λb o e n a=>?_,λb o e a=>?_,λb xs e=>N b xs$ I.base.jm b xs e,λb o xs e=>G b o xs$ I.base.Yi b o xs e,λb ps e=>?_⟩,?_,λx c e=>?_,?_,λx c e=>?_,λp T=>?_,ϋ,I.len⟩
 ·exact j b o (K b o e) C (A b o e a) (I.base.keep b o e n C a)$ I.base.free b o e n a
 ·obtain⟨P,y⟩:=I.base.slot b o e n C a;obtain⟨Q,F⟩:=B b _ (K b o e) C (A b o e a) y (I.base.free b o e n a);exact⟨Q,F⟩
 ·obtain⟨L,y⟩:=I.base.there b o e a;exact f b L (A b o e a) y$ I.base.free b o e n a
 ·obtain⟨L,y⟩:=I.base.there b o e a;exact D b L (A b o e a) y
 ·obtain⟨m1,y⟩:=I.base.Zk b ps e;obtain⟨m2,F⟩:=M b _ y;exact⟨m1++m2,by rw[F,Us]⟩
 ·obtain⟨m,hn,Z⟩:=I.loc;refine⟨m,ns m hn,λi x v y F W=>?_⟩;obtain⟨u,r,l⟩:=Z i x v y F W;refine⟨u,r,?_⟩;rcases l with l|⟨k,c,e,z⟩
  ·exact .inl l
  ·exact .inr ⟨k,c,e,g x c e _ z⟩
 ·obtain⟨v,z⟩:=I.cell x c e;exact⟨v,g x c e v z⟩
 ·obtain⟨m,⟨o,_,_,E,_⟩,_⟩:=I.loc;exact f _ o (λz=>(h _ z).2.1 rfl) E I.free
 ·obtain⟨v,o,E,hd⟩:=I.cell x c e;exact f c o (λz=>(h c z).2.2.1 x c e rfl) E$ I.uh x c e
 ·obtain⟨e,n,ϊ,V,d⟩:=I.pin p T;have t:p.1 ∉ ch:=λz=>(h p.1 z).2.2.2 p T rfl;exact⟨j p.1 p.2 ϊ V t e n,f p.1 p.2 t e n,ϊ,V,d⟩
def gb.un(I:gb X pins σ H s)(u:Un X.fs [] H H' s.heap h')(g:Qh X.prog X.w H' h'):gb X pins σ H' { s with heap:=h',toks:=t' }:=by
 obtain⟨m,⟨o,p,l,h,r⟩,_⟩:=id I.loc;obtain⟨v,i⟩:=u.any h I.free ⋯;exact I.step (d':=s.drawn) (ch:=[]) (λq z=>nomatch z) (λb o q f q e n=>u.keep b o e n f ⋯) (λb o q f q e n=>u.slot b o e n f ⋯) (λb o q e n=>u.free b o e n ⋯) (λb o q e=>u.there b o e ⋯) u.jm u.Yi u.Zk (λq j=>by
  obtain⟨t,d,c,a,k⟩:=j;rw[h]at a;cases a;exact⟨_,d,c,i,k⟩) g I.bare
def gb.call(I:gb X pins σ H s)(u:Un (rk X.stack) ch H H' s.heap h')(j:Qh X.prog X.w H' h')(t:zh k)
  (d:∀ b∈ch,(b∈X.ex\/X.s₀.heap.objs.size<=b)/\b≠X.env.locals/\(∀ x c,X.env.cells.lookup x=W1 c->c≠b)/\∀ p∈X.pn++pins,p.1≠b) :
  gb X pins σ H' { s with heap:=h',gens:=k,drawn:=d',toks:=t' }:=by
 obtain⟨m,⟨o,B,A,l,r⟩,_⟩:=id I.loc;obtain⟨E,i⟩:=u.any l I.free λz=>(d _ z).2.1 rfl;exact I.step d (λb o i q a e n=>u.keep b o e n (λz=>(La.mp$ I.vq b z).elim i q) a) (λb o C C a e n=>u.any e n a) (λb o a e n=>u.free b o e n a) (λb o a e=>u.there b o e a) u.jm u.Yi u.Zk (λC v=>by
  obtain⟨D,h,g,f,y⟩:=v;rw[l]at f;cases f;exact⟨_,h,g,i,y⟩) j t
def gb.turned(I:gb X pins σ H s)(k:∀ b o,b≠it->s.heap.get? b=W1 o->h'.get? b=W1 o)(y:H it=ŋ)(f:it≠X.env.locals)
  (i:it∈X.ex\/X.s₀.heap.objs.size<=it) (j:∀ x c,X.env.cells.lookup x=W1 c->c≠it) (l:∀ p∈X.pn++pins,p.1≠it):gb X pins σ H { s with heap:=h',toks:=t' }:=by
 have d:∀ b u,H b=W1 u->b≠it:=λb u e z=>by rw[z,y]at e;cases e
 refine I.step (ch:=[it]) (λb t=>?_) (λb o m m a e m=>k b o (λz=>a (by simp[z])) e) (λb o m m a e m=>⟨o.slots,k b o (λz=>a (by simp[z])) e⟩) (λm m m m n=>n)
  (λb o a e=>⟨o,k b o (λz=>a (by simp[z])) e⟩) (λm m e=>e) (λm m m e=>e) (λb ps e=>⟨#[],by rw[e];simp⟩) (λm w=>?_) (λb u e=>?_) I.bare
 ·have e:b=it:=by simpa using t
  subst e;exact⟨i,f,j,l⟩
 ·obtain⟨o,h,g,A,r⟩:=w;exact⟨o,h,g,k _ o (Cd f) A,r⟩
 ·refine(I.pc b u e).Rj (λc v a q=>k c v ?_ q) (λm q=>q) λm m q=>q;rcases a with z|z
  ·rw[z];exact d b u e
  ·exact d c _ z
def gb.tok(I:gb X pins σ H s) t:gb X pins σ H { s with toks:=t }:=I.un Un.refl I.pc
def gb.kept(I:gb X pins σ H s)(k:∀ b u,s.heap.get? b=W1 u->h'.get? b=W1 u):gb X pins σ H { s with heap:=h',toks:=t' }:=I.un (Un.kept k)$ I.pc.kept k
def gb.laid(I:gb X pins σ H s)(k:∀ b u,s.heap.get? b=W1 u->h'.get? b=W1 u)(c:s.heap.objs.size<=a)(d:Uj X.prog X.w (Qa H a o) h' a o) :
  gb X pins σ (Qa H a o) { s with heap:=h',toks:=t' }:=I.un (Un.laid k c$ I.pc.fresh c)$ I.pc.laid k c d
def gb.write(I:gb X pins σ H s)(f:XF$ H x)(d:e=x\/H e=W1 (.own x))(k:∀ b u,b≠e->s.heap.get? b=W1 u->h'.get? b=W1 u)(a:∃ u,h'.get? e=W1 u)
  (c:Uj X.prog X.w (Qa H x o) h' x o):gb X pins σ (Qa H x o) { s with heap:=h',toks:=t' }:=I.un (Un.write f d k a)$ I.pc.write f d k a c
def gb.Bi(I:gb X pins σ H s)(h:∀ p∈a,s.heap.get? p.1=W1 p.2/\H p.1=ŋ/\p.1≠X.env.locals/\p.1 ∉ X.fs/\∀ v,p.2.data≠.cell v):gb X a σ H s:=
 ⟨I.ok,I.os,I.bare,I.base,I.loc,I.cell,I.free,I.uh,λp b=>(si.mp b).elim (λz=>I.pin p$ Va _ z)$ h p,I.pc,I.len⟩
def WR{N:ab}(e:N.Nodup){i j:Nat}(a:N[i]?=W1 x)(b:N[j]?=W1 x):i=j:=by
 obtain⟨f,c⟩:=aa.mp a;obtain⟨g,d⟩:=aa.mp b;exact(Gw e).mp$ c.trans d.symm
def MQ(I:gb X pins σ H s)(hN:X.N.Nodup)(T:X.N[i]?=W1 x)(B:Loc X.env.scope x)(r:Rc v u)
  (h:∀ s',gb X pins (σ.set i$ W1 v) H s'->(∃ a,yd a s.heap s'.heap/\(a=X.env.locals\/X.env.cells.lookup x=W1 a))->Q () s') (hf:X.fn x=š\/X.env.scope.names.lookup x=W1 .local:=by first|exact .inl rfl|exact .inr rfl|assumption):wpAny M A (cH X.env x u) Q E s:=by
 obtain⟨m,hn,hl⟩:=id I.loc;have S:(X.env.scope.kind == .class || (X.env.scope.kind == .module && X.env.locals != X.env.globals))=į:=by rw[I.ok.kind];rfl
 have F:i<σ.length:=by rw[I.len];exact(aa.mp T).1
 have ό:=I.zL;have l:∀ {a:Addr} {h':Heap},(∃ o,s.heap.get? a=W1 o/\H a=ŋ)->yd a s.heap h'->Qh X.prog X.w H h':=fun {a h'} ha f b ob e=>by
  obtain⟨_,_,C⟩:=ha;refine(I.pc b ob e).Rj (λc w' t q=>(f.2 c ?_).trans q) (λJ q=>q) λJ J q=>q;rintro rfl;rcases t with rfl|t
  ·rw[C]at e;cases e
  ·rw[C]at t;cases t
 rcases B with G|G
 ·refine wpAny_storeName_local G hn (λh' a0 f=>?_) S;obtain⟨oL,_,_,a1,_⟩:=id hn;refine h _ ⟨I.ok,I.os,I.bare,⟨λb o e n K B=>?_,λb o e n K B=>?_,I.base.free,λb o e B=>?_,I.base.jm,I.base.Yi,I.base.Zk⟩,⟨_,a0,λj y v' g D e3=>?_⟩,λy c e=>?_,I.free,I.uh,λp hp=>?_,l ⟨oL,a1,I.free⟩ f,by simpa using I.len⟩ ⟨_,f,.inl rfl⟩
  ·exact(f.2 b$ Aa$ Ma (wa e) I.ok.above).trans$ I.base.keep b o e n K B
  ·obtain⟨sl,g⟩:=I.base.slot b o e n K B;exact⟨sl,(f.2 b$ Aa$ Ma (wa e) I.ok.above).trans g⟩
  ·obtain⟨o',g⟩:=I.base.there b o e B;exact⟨o',(f.2 b$ Aa$ Ma (wa e) I.ok.above).trans g⟩
  ·by_cases ϋ:j=i
   ·subst ϋ;rw[T]at g;cases g;rw[Ga F]at D;cases D;exact⟨u,r,.inl ⟨G,by simp⟩⟩
   ·rw[qb$ Cd ϋ]at D;obtain⟨u',r',q⟩:=hl j y v' g D e3;refine⟨u',r',?_⟩;rcases q with⟨k,e⟩|⟨k,c,e,z⟩
    ·refine .inl ⟨k,?_⟩;have:y≠x:=λe=>ϋ$ WR hN g$ e ▸ T;simp[this,e]
    ·exact .inr ⟨k,c,e,z.sameBut f$ ό y c e⟩
  ·obtain⟨w',z⟩:=I.cell y c e;exact⟨w',z.sameBut f$ ό y c e⟩
  ·obtain⟨e,n,Z,nf,d⟩:=I.pin p hp;exact⟨(f.2 p.1 Z).trans e,n,Z,nf,d⟩
 ·have L:X.fn x=š:=by
   rcases hf with z|z
   ·exact z
   ·rw[z]at G;cases G
  obtain⟨c,t⟩:=I.ok.has x (.inl G);obtain⟨w',z⟩:=I.cell x c t;refine wpAny_storeName_cell I.ok.kind G t z (λh' P f=>?_);obtain⟨oc,ϊ,W⟩:=id z;refine h { s with heap:=h' } ⟨I.ok,I.os,I.bare,⟨λb o e n K B=>?_,λb o e n K B=>?_,I.base.free,λb o e B=>?_,I.base.jm,I.base.Yi,I.base.Zk⟩,⟨m,hn.sameBut f$ Cd$ ό x c t,λj y v' g D e3=>?_⟩,λy Y e=>?_,I.free,I.uh,λp hp=>?_,l ⟨oc,ϊ,I.uh x c t⟩ f,by simpa using I.len⟩ ⟨c,f,.inr t⟩
  ·exact(f.2 b$ Aa$ Ma (wa e)$ I.ok.qE x c L t).trans$ I.base.keep b o e n K B
  ·obtain⟨sl,g⟩:=I.base.slot b o e n K B;exact⟨sl,(f.2 b$ Aa$ Ma (wa e)$ I.ok.qE x c L t).trans g⟩
  ·obtain⟨o',g⟩:=I.base.there b o e B;exact⟨o',(f.2 b$ Aa$ Ma (wa e)$ I.ok.qE x c L t).trans g⟩
  ·by_cases ϋ:j=i
   ·subst ϋ;rw[T]at g;cases g;rw[Ga F]at D;cases D;exact⟨u,r,.inr ⟨.inl G,c,t,P⟩⟩
   ·rw[qb$ Cd ϋ]at D;obtain⟨u',r',q⟩:=hl j y v' g D e3;refine⟨u',r',?_⟩;rcases q with q|⟨k,Y,e,z'⟩
    ·exact .inl q
    ·refine .inr ⟨k,Y,e,z'.sameBut f ?_⟩;rintro rfl;exact ϋ$ WR hN g$ I.ok.inj _ _ _ e t ▸ T
  ·by_cases R:Y=c
   ·subst R;exact⟨_,P⟩
   ·obtain⟨w2,z2⟩:=I.cell y Y e;exact⟨w2,z2.sameBut f R⟩
  ·obtain⟨e,n,Z,nf,d⟩:=I.pin p hp;refine⟨(f.2 p.1 ?_).trans e,n,Z,nf,d⟩;intro q;rw[q,ϊ]at e;have q':oc=p.2:=Cb e;exact d w' (by rw[<-q'];exact W)
def QL(I:gb X pins σ H s)(c:X.N.Nodup)(e:X.N[i]?=W1 x)(f:Loc X.env.scope x)(r:Rc v u)
  (h:∀ a,gb X pins (σ.set i$ W1 v) H a->Q () a) (d:X.fn x=š\/X.env.scope.names.lookup x=W1 .local:=by first|exact .inl rfl|exact .inr rfl|assumption):wpAny M A (cH X.env x u) Q E s:=
 MQ I c e f r (λa b g=>h a b) d
def gb.Py(I:gb X pins σ H s)(g:s'.os=s.os)(u:Un (rk X.stack) ch H H' s.heap s'.heap)(d:Qh X.prog X.w H' s'.heap)(f:zh s'.gens)
  (a:∀ b∈ch,(b∈X.ex\/X.s₀.heap.objs.size<=b)/\b≠X.env.locals/\(∀ x c,X.env.cells.lookup x=W1 c->c≠b)/\∀ p∈X.pn++pins,p.1≠b):gb X pins σ H' s':=by
 obtain⟨h',h,d',t',i⟩:=s';have e:=g;subst e;exact I.call u d f a
end
abbrev XK:=Value->Option Addr->Hp->Prop
abbrev St:=List$ Option V
abbrev VK:=V->Hp->Prop
abbrev TE:=St->Hp->VK->Prop
abbrev TT:=St->Hp->(Bool->Hp->Prop)->Prop
abbrev TA:=St->Hp->(em->Hp->Prop)->Prop
structure ao where
 nx:St->Hp->Prop
 rt:VK
 bk:St->Hp->Prop:=λa a=>False
 ct:St->Hp->Prop:=λa a=>False
abbrev TS:=ao->St->Hp->Prop
inductive EP(X:Cx)(pins:dN)(σ:St)(Q:VK)(u:Value)(s':Shared):Prop
 |mk (v:V) (H':Hp) (f1:gb X pins σ H' s') (f2:Rc v u) (f3:Q v H'):EP X pins σ Q u s'
inductive TP(X:Cx)(pins:dN)(σ:St)(Q:Bool->Hp->Prop)(b:Bool)(s':Shared):Prop
 |mk (H':Hp) (f1:gb X pins σ H' s') (f2:Q b H'):TP X pins σ Q b s'
inductive AP(X:Cx)(pins:dN)(σ:St)(Q:em->Hp->Prop)(us:b')(s':Shared):Prop
 |mk (vs:em) (H':Hp) (f1:gb X pins σ H' s') (f2:ke vs us) (f3:Q vs H'):AP X pins σ Q us s'
inductive NP(X:Cx)(pins:dN)(Q:St->Hp->Prop)(s':Shared):Prop
 |mk (σ':St) (H':Hp) (f1:gb X pins σ' H' s') (f2:Q σ' H'):NP X pins Q s'
inductive RP(X:Cx)(pins:dN)(Q:VK)(u:Value)(s':Shared):Prop
 |mk (v:V) (σ':St) (H':Hp) (f1:gb X pins σ' H' s') (f2:Rc v u) (f3:Q v H'):RP X pins Q u s'
def SP(X:Cx)(a:List$ Addr × Obj)(D:ao)(f:Flow)(b:Shared):Prop:=
 match f with
 | .next=>NP X a D.nx b
 | .brk=>NP X a D.bk b
 | .cont=>NP X a D.ct b
 | .ret u=>RP X a D.rt u b
def PE(X:Cx)(e:Fa)(t:TE):Prop:=
 ∀ a s σ H Q,gb X a σ H s->t σ H Q->wpAny (model X.prog X.w) X.A (Ib e X.env) (EP X a σ Q) X.xe s
def PT(X:Cx)(e:Fa)(t:TT):Prop:=
 ∀ a s σ H Q,gb X a σ H s->t σ H Q->wpAny (model X.prog X.w) X.A (GB e X.env$ Ib e X.env) (TP X a σ Q) X.xe s
def PW(X:Cx)(e:Fa)(t:TT):Prop:=
 ∀ a pins s σ H Q,gb X pins σ H s->t σ H Q->wpAny (model X.prog X.w) X.A (GB e X.env a) (TP X pins σ Q) X.xe s
def PW.pt(h:PW X e t):PT X e t:=h _
def PA(X:Cx)(b:List Fa)(t:TA):Prop:=
 ∀ a pins s σ H Q,gb X pins σ H s->t σ H Q->wpAny (model X.prog X.w) X.A (spliced$ Zb a$ na b X.env) (AP X pins σ Q) X.xe s
def PS(X:Cx)(st:Stmt)(t:TS):Prop:=
 ∀ a s σ H D,gb X a σ H s->t D σ H->wpAny (model X.prog X.w) X.A (exec st X.env) (SP X a D) X.xe s
def Uv(X:Cx)(st:List Stmt)(t:TS):Prop:=
 ∀ a s σ H D,gb X a σ H s->t D σ H->wpAny (model X.prog X.w) X.A (execs st X.env) (SP X a D) X.xe s
def Zc{t:Em c}{Q b}(h:wpAny M A t Q E s)(d:∀ a s,Q a s->b a s):wpAny M A t b E s:=ic h d λe e x=>x
section
variable{X:Cx}
def bin(p:PE X a k)(q:PE X b l){R:V->V->Hp->Prop}(I:gb X c e H s)(h:k e H λx j=>l e j λy d=>R x y d) {Q} {f:Value->Value->Em m}
  (r:∀ v u s2 x y d,gb X c e d s2->Rc x v->Rc y u->R x y d->wpAny (model X.prog X.w) X.A (f v u) Q X.xe s2) :
  wpAny (model X.prog X.w) X.A (Ib a X.env) (λv g=>wpAny (model X.prog X.w) X.A (Ib b X.env) (λu i=>wpAny (model X.prog X.w) X.A (f v u) Q X.xe i) X.xe g) X.xe s:=by
 exact Zc (p c s e H _ I h) λv s1 ⟨x,j,n,B,t⟩=>(Zc (q c s1 e j _ n t) λu s2 ⟨y,d,o,C,z⟩=>(r v u s2 x y d o B C z))
noncomputable def Q7(i:Nat):TE:=λa H Q=>∃ v,a[i]?=W1 (W1 v)/\Q v H
noncomputable def tC(v:V):TE:=λa H Q=>Q v H
def A6(k:X.N[i]?=W1 x)(q:QI X.env.scope x)(hd: ~~~((x == ("__debug__" : Str))=į))(f: ~~~((x == ("__classdict__" : Str))=į)):PE X (.Name x g)$ Q7 i:=by
 intro d s t H Q I h;obtain⟨v,e,h⟩:=h;obtain⟨m,p,n⟩:=I.loc;obtain⟨u,r,l⟩:=n i x v k e q;have Mf:EP X d t Q u s:=⟨v,H,I,r,h⟩
 rcases l with⟨b,o⟩|⟨b,c,j,a⟩
 ·exact uB (ny I.ok.kind b p o Mf) hd
 ·rcases b with b|b
  ·exact uB (Hz I.ok.kind b j a Mf) hd
  ·exact uB (wpAny_loadName_free I.ok.kind b j a Mf f) hd
def X9{i j pos}:PE X (.Constant (.int i) j pos)$ tC$ .int i:=λa a a H a I h=>wpAny_Constant_int ⟨.int i,H,I.tok _,⟨_,rfl⟩,h⟩
def Α{b j pos}:PE X (.Constant (.bool b) j pos)$ tC$ .bl b:=λa a a H a I h=>Constant_bool ⟨.bl b,H,I,rfl,h⟩
def ygx{j pos}:PE X (.Constant .none j pos)$ tC .Sb:=λa a a H a I h=>Constant_none ⟨.Sb,H,I,rfl,h⟩
def P0{x j pos}:PE X (.Constant (.str x) j pos)$ tC$ .str x:=λa a a H a I h=>Calls.Constant_str ⟨.str x,H,I.tok _,⟨_,rfl⟩,h⟩
def Gl(X:Cx)(x:Str):Prop:=X.env.kindOf x=W1 .globalImplicit
def uF(I:gb X a e H s)(c:Gl X x)(d:X.mg x=W1 u)(h:Q u s)
  (hd: ~~~((x == ("__debug__" : Str))=į)):wpAny (model X.prog X.w) X.A (Ib (.Name x b) X.env) Q E s:=
 Qm I.ok.kind c (Calls.loadGlobal_global (by rw[I.ok.glob];exact I.mod.glob.keeps I.bk) d h) hd
def Sy(I:gb X a j H s)(e:Gl X x)(f:X.mg x=ŋ)(i:bootBuiltins x=W1 u)(h:Q u s)
  (g: ~~~(x ≠ "__name__")) (hd: ~~~((x == ("__debug__" : Str))=į)):wpAny (model X.prog X.w) X.A (Ib (.Name x b) X.env) Q E s:=by
 obtain⟨k,c,d⟩:=I.mod.blt;exact Qm I.ok.kind e (Calls.loadGlobal_builtin (by rw[I.ok.glob];exact I.mod.glob.keeps I.bk) f (by rw[I.ok.blt];exact c.keeps I.bk) ((d x g).trans i) h) hd
def rH(b:Gl X x)(c:X.mg x=W1 u)(r:Rc v u)(hd: ~~~((x == ("__debug__" : Str))=į)):PE X (.Name x a)$ tC v:=
 λd d d H d I h=>uF I b c ⟨v,H,I,r,h⟩ hd
def ŉ(b:Gl X x)(c:X.mg x=ŋ)(e:bootBuiltins x=W1 u)(r:Rc v u)(d: ~~~(x ≠ "__name__"))(hd: ~~~((x == ("__debug__" : Str))=į)):PE X (.Name x a)$ tC v:=
 λf f f H f I h=>Sy I b c e ⟨v,H,I,r,h⟩ d hd
variable{a b:Fa}{ta tb:TE}{pos:Dd}
def PC(X:Cx)(f:Wo)(a b:Fa)(t:TE):Prop:=
 ∀ c s σ H Q,gb X c σ H s->t σ H Q->
  wpAny (model X.prog X.w) X.A (Ib a X.env) (λv d=>wpAny (model X.prog X.w) X.A (Ib b X.env) (λu e=>wpAny (model X.prog X.w) X.A (Nb f v u) (EP X c σ Q) X.xe e) X.xe d) X.xe s
theorem OY b{a}(h:a≠.In)(e:a≠.NotIn):We a b=į:=by
 have c:(a == lQ)=į:=by cases a<;>first|rfl|exact absurd rfl h
 have d:(a == dE)=į:=by cases a<;>first|rfl|exact absurd rfl e
 cases b with
 |Set elts k pos=>show (k == 0 && (a == lQ || a == dE) && _)=į;rw[c,d,vB,Jn];rfl
 |_=>rfl
noncomputable def tB(t:TE):TT:=λb H Q=>t b H λx a=>∃ c,x=.bl c/\Q c a
def yhj(h:PC X g a b t)(f:We g b=į:=by first|exact OY _ ⋯ ⋯|rfl):PT X (.Compare a [g] [b] pos)$ tB t:=by
 intro e s σ H Q I k;refine Hw (Zc (h e s σ H _ I k) λv s1 f=>Zc f λu s2 j=>Zc j λc s3 ſ=>?_) f;obtain⟨x,H1,i,m,l⟩:=ſ;obtain⟨d,rfl,q⟩:=l;cases m;exact Mc ⟨H1,i,q⟩
def VZ(h:PE X e t)(f:∀ a,GB e X.env a=(do let v <-a;Ig e.pos;Ld [v] (truthy v)):=by intro _;rfl):PT X e$ tB t:=by
 intro b s σ H Q I g;refine isTrue_plain (Zc (h b s σ H _ I g) λv s1 ⟨x,H1,c,j,i⟩=>?_)$ f _;obtain⟨d,rfl,q⟩:=i;cases j;exact Mc ⟨H1,c,q⟩
variable{tA tB':TT}{rest:List Fa}
noncomputable def j9(t u:TT):TT:=λb H Q=>t b H λc a=>if c=š then u b a Q else Q į a
noncomputable def ł(t u:TT):TT:=λb H Q=>t b H λc a=>if c=š then Q š a else u b a Q
noncomputable def M5(t:TT):TT:=λb H Q=>t b H λc a=>Q (!c) a
def r8(d:PT X a tA):PW X (.BoolOp .And [a] pos) tA:=by
 intro g b s f H Q I h;refine isTrue_and (Zc (d b s f H Q I h) λc s1 e=>?_);cases c with
 |true=>exact isTrue_and_nil e
 |false=>exact e
def p7(d:PT X a tA):PW X (.BoolOp .Or [a] pos) tA:=by
 intro g b s f H Q I h;refine isTrue_or (Zc (d b s f H Q I h) λc s1 e=>?_);cases c with
 |false=>exact isTrue_or_nil e
 |true=>exact e
def Ŗ(i:PT X a tA)(j:PW X (.BoolOp .And (b::rest) pos) tB'):PW X (.BoolOp .And (a::b::rest) pos)$ j9 tA tB':=by
 intro k d s g H Q I h;refine isTrue_and (Zc (i d s g H _ I h) λc s1 ſ=>?_);obtain⟨H1,e,f⟩:=ſ;cases c with
 |true=>exact j k d s1 g H1 Q e f
 |false=>exact⟨H1,e,f⟩
def J1(i:PT X a tA)(j:PW X (.BoolOp .Or (b::rest) pos) tB'):PW X (.BoolOp .Or (a::b::rest) pos)$ ł tA tB':=by
 intro k d s g H Q I h;refine isTrue_or (Zc (i d s g H _ I h) λc s1 ſ=>?_);obtain⟨H1,e,f⟩:=ſ;cases c with
 |true=>exact⟨H1,e,f⟩
 |false=>exact j k d s1 g H1 Q e f
def ĉ(e:PT X a tA):PT X (.UnaryOp .Not a pos)$ M5 tA:=by
 intro b s f H Q I h;exact isTrue_not (Zc (e b s f H (λc d=>Q (!c) d) I h) λ_ _ ⟨d,i,q⟩=>⟨d,i,q⟩)
noncomputable def Ω(ta tb:TE):TE:=λb H Q=>ta b H λx a=>∃ c,x=.bl c/\if c=š then tb b a Q else Q (.bl į) a
noncomputable def yys(ta tb:TE):TE:=λb H Q=>ta b H λx a=>∃ c,x=.bl c/\if c=š then Q (.bl š) a else tb b a Q
noncomputable def TZ(ta:TE):TE:=λb H Q=>ta b H λx a=>∃ c,x=.bl c/\Q (.bl$ !c) a
def YZ{op}(h:PE X a t):PE X (.BoolOp op [a] pos) t:=λb s d H Q I c=>BoolOp_one$ h b s d H Q I c
def F8(i:PE X a ta)(j:PE X (.BoolOp .And (b::rest) pos) tb):PE X (.BoolOp .And (a::b::rest) pos)$ Ω ta tb:=by
 intro d s g H Q I h;refine BoolOp_and (Zc (i d s g H _ I h) λv s1 ſ=>?_);obtain⟨x,H1,f,k,e⟩:=ſ;obtain⟨c,rfl,e⟩:=e;cases k;refine Mc ?_;cases c with
 |true=>exact j d s1 g H1 Q f e
 |false=>exact⟨.bl į,H1,f,rfl,e⟩
def ė(i:PE X a ta)(j:PE X (.BoolOp .Or (b::rest) pos) tb):PE X (.BoolOp .Or (a::b::rest) pos)$ yys ta tb:=by
 intro d s g H Q I h;refine BoolOp_or (Zc (i d s g H _ I h) λv s1 ſ=>?_);obtain⟨x,H1,f,k,e⟩:=ſ;obtain⟨c,rfl,e⟩:=e;cases k;refine Mc ?_;cases c with
 |false=>exact j d s1 g H1 Q f e
 |true=>exact⟨.bl š,H1,f,rfl,e⟩
def P9(f:PE X a ta):PE X (.UnaryOp .Not a pos)$ TZ ta:=by
 intro b s i H Q I h;refine UnaryOp_ (Zc (f b s i H _ I h) λv s1 ſ=>?_);obtain⟨x,H1,e,g,d⟩:=ſ;obtain⟨c,rfl,d⟩:=d;cases g;exact not_of$ Mc ⟨.bl$ !c,H1,e,rfl,d⟩
noncomputable def æ(t:TT)(ta tb:TE):TE:=λa H Q=>t a H λc b=>if c=š then ta a b Q else tb a b Q
def Ű(l:PT X c tA)(j:PE X a ta)(k:PE X b tb):PE X (.IfExp c a b pos)$ æ tA ta tb:=by
 intro e s f H Q I h;refine wpAny_IfExp (Zc (l e s f H _ I h) λd s1 ſ=>?_);obtain⟨H1,g,i⟩:=ſ;cases d with
 |true=>exact j e s1 f H1 Q g i
 |false=>exact k e s1 f H1 Q g i
end
def Xe(K:W.Frag)(H:Hp)(a:Addr)(xs:em):Prop:=
 Rd H a (.qa xs)\/
  ∃ (o:Obj) (b:Array Value) (n:Nat),K.lookup a=W1 o/\o.cls=.type "list"/\o.dict=ŋ/\o.data=.seq b n/\b.size<=sizeLine/\ke xs b.toList
def Yg(K:W.Frag)(H:Hp)(a:Addr)(xs:em):Prop:=
 Rd H a (.Sa xs)\/
  ∃ (o:Obj) (b:Array Value) (n:Nat),K.lookup a=W1 o/\o.cls=.type "tuple"/\o.data=.seq b n/\b.size<=sizeLine/\ke xs b.toList
noncomputable def œ:Value->Option V
 | .none=>W1 .Sb
 | .bool b=>W1 (.bl b)
 | .int i _=>W1 (.int i)
 | .str x _=>W1 (.str x)
 | .bytes b _=>W1 (.nH b)
 | .float b _=>W1 (.vA b)
 | .ref a=>W1 (.ref a)
 | .type n=>W1 (.ty n)
 |_=>ŋ
theorem Rc.abs(r:Rc x u):œ u=W1 x:=by
 cases x with
 |Sb=>cases r;rfl
 |bl _=>cases r;rfl
 |int _=>obtain⟨t,rfl⟩:=r;rfl
 |str _=>obtain⟨t,rfl⟩:=r;rfl
 |nH _=>obtain⟨t,rfl⟩:=r;rfl
 |vA _=>obtain⟨t,rfl⟩:=r;rfl
 |ref _=>cases r;rfl
 |ty _=>cases r;rfl
def Rc.inj(r:Rc x u)(q:Rc y u):x=y:=Cb$ r.abs.symm.trans q.abs
theorem ke.inj{xs a:em}{us}(h:ke xs us)(g:ke a us):xs=a:=by
 induction h generalizing a with
 |nil=>cases g;rfl
 |cons r t i=>cases g with|cons b c=>rw[r.inj b,i c]
section
variable{X:Cx}{pins:List$ Addr × Obj}{σ:St}{H:Hp}{s:Shared}{a:Addr}{xs ys:em}
def Xe.of{K}(h:H a=W1 (.qa xs)):Xe K H a xs:=.inl$ .inl h
def Yg.of{K}(h:H a=W1 (.Sa xs)):Yg K H a xs:=.inl$ .inl h
def gb.list(I:gb X pins σ H s)(h:Xe X.K H a xs):∃ b:b',ke xs b/\PlainL s.heap a b.toArray/\xs.length<=sizeLine:=by
 rcases h with h|⟨o,b,n,d,c,hd,f,g,r⟩
 ·obtain⟨z,b,n,r,e⟩:=h.ok I.pc;exact⟨b,r,⟨_,n,e,rfl,rfl,rfl⟩,z⟩
 ·refine⟨b.toList,r,⟨o,n,I.Li a o d,c,hd,by simpa using f⟩,?_⟩;have e:=r.length;simp at e
  lia
def gb.tuple(I:gb X pins σ H s)(h:Yg X.K H a xs):∃ b:b',ke xs b/\IsTup s.heap a b.toArray/\xs.length<=sizeLine:=by
 rcases h with h|⟨o,b,n,d,c,f,g,r⟩
 ·obtain⟨z,b,r,p⟩:=h.ok I.pc;exact⟨b,r,p,z⟩
 ·refine⟨b.toList,r,⟨o,I.Li a o d,c,n,by simpa using f⟩,?_⟩;have e:=r.length
  simp_all
def gb.xj(I:gb X pins σ H s)(h:Xe X.K H a xs)(h':Xe X.K H a ys):xs=ys:=by
 obtain⟨b,r,⟨o,n,e,_,_,d⟩,_⟩:=I.list h;obtain⟨its',f,⟨i,g,c,_,_,d'⟩,_⟩:=I.list h';rw[e]at c;cases c;rw[d]at d';injection d' with d1 _;have:b=its':=by simpa using eb Array.toList d1
 subst this;exact r.inj f
def gb.Ks(I:gb X pins σ H s)(h:Yg X.K H a xs)(h':Yg X.K H a ys):xs=ys:=by
 obtain⟨b,r,⟨o,e,_,n,d⟩,_⟩:=I.tuple h;obtain⟨its',f,⟨i,c,_,g,d'⟩,_⟩:=I.tuple h';rw[e]at c;cases c;rw[d]at d';injection d' with d1 _;have:b=its':=by simpa using eb Array.toList d1
 subst this;exact r.inj f
end
section
variable{X:Cx}{st:Stmt}{rest:List Stmt}{t u:TS}{e:Fa}{te:TE}{pos:Dd}
noncomputable def Ō:TS:=λD a H=>D.nx a H
noncomputable def E8(t u:TS):TS:=λD a H=>t { D with nx:=u D } a H
def rT:Uv X [] Ō:=λb b a H b I h=>nj ⟨a,H,I,h⟩
def tX(e:PS X st t)(g:Uv X rest u):Uv X (st::rest)$ E8 t u:=by
 intro a s i H D I h;refine VG (Zc (e a s i H { D with nx:=u D } I h) λf s1 q=>?_);cases f with
 |next=>
  obtain⟨b,c,d,q⟩:=q;exact g a s1 b c D d q
 |ret v=>exact q
 |brk=>exact q
 |cont=>exact q
def Þ(b:PS X st t):Uv X [st] t:=by
 intro a s c H D I h;refine VG (Zc (b a s c H D I h) λf s1 q=>?_);cases f with
 |next=>exact nj q
 |ret v=>exact q
 |brk=>exact q
 |cont=>exact q
def gb.quiet(I:gb X a b H s):interactive X.env=į:=by simp[interactive,I.ok.kind]
noncomputable def Φ(te:TE):TS:=λD a H=>te a H λc b=>D.nx a b
def O9(d:PE X e te)(f:(Fg e ŋ pos.line X.env=pure į)⁻¹):PS X (.Expr e pos)$ Φ te:=by
 intro a s b H D I h;exact wpAny_Expr_any (Zc (d a s b H _ I h) λv s1 ⟨x,H1,c,i,g⟩=>⟨b,H1,c,g⟩) I.quiet f
noncomputable def F4(te:TE):TS:=λD a H=>te a H D.rt
def Y9(d:PE X e te):PS X (.Return (W1 e) pos)$ F4 te:=by
 intro a s b H D I h;exact wpAny_Return_some (Zc (d a s b H _ I h) λv s1 ⟨x,H1,c,g,f⟩=>⟨x,b,H1,c,g,f⟩)
noncomputable def ū(c:TT)(t u:TS):TS:=λD a H=>c a H λb d=>if b=š then t D a d else u D a d
def yS(m:PT X c j)(k:Uv X a t)(l:Uv X b u):PS X (.If c a b pos)$ ū j t u:=by
 intro e s f H D I h;refine wpAny_If (Zc (m e s f H _ I h) λd s1 ſ=>?_);obtain⟨H1,g,i⟩:=ſ;cases d with
 |true=>exact k e s1 f H1 D g i
 |false=>exact l e s1 f H1 D g i
end
abbrev TG:=V->St->Hp->(St->Hp->Prop)->Prop
abbrev iz:=em->St->Hp->(St->Hp->Prop)->Prop
def PG(X:Cx)(a:Fa)(t:TG):Prop:=
 ∀ b s σ H v u Q,gb X b σ H s->Rc v u->t v σ H Q->
  wpAny (model X.prog X.w) X.A (xi a X.env u) (λd c=>NP X b Q c) X.xe s
def yG(X:Cx)(d:List Fa)(t:iz):Prop:=
 ∀ a s σ H b us Q,gb X a σ H s->ke b us->t b σ H Q->
  wpAny (model X.prog X.w) X.A (assignInOrder ((Ad d X.env).map (·.2)) us) (λe c=>NP X a Q c) X.xe s
abbrev EH:=V->V->V->Hp->(Hp->Prop)->Prop
def GN(X:Cx)(t:EH):Prop:=
 ∀ a s σ H o i v d c u Q,gb X a σ H s->Rc o d->Rc i c->Rc v u->t o i v H Q->
  wpAny (model X.prog X.w) X.A (cq d c u) (λf e=>∃ b,gb X a σ b e/\Q b) X.xe s
abbrev WH:=V->V->Hp->VK->Prop
def qK(X:Cx)(b:dk)(t:WH):Prop:=
 ∀ a s σ H x y v u Q,gb X a σ H s->Rc x v->Rc y u->t x y H Q->
  wpAny (model X.prog X.w) X.A (dH b v u) (EP X a σ Q) X.xe s
section
variable{X:Cx}{pos:Dd}
noncomputable def lU(i:Nat):TG:=λv a H Q=>Q (a.set i$ W1 v) H
def h9(c:X.N.Nodup)(e:X.N[i]?=W1 x)(f:Loc X.env.scope x)(d:X.fn x=š\/X.env.scope.names.lookup x=W1 .local:=by first|exact .inl rfl|exact .inr rfl|assumption):PG X (.Name x pos)$ lU i:=by
 intro a s j H v u Q I r h;exact QD$ QL I c e f r (λg b=>⟨_,H,b,h⟩) d
noncomputable def Ģ:iz:=λa b H Q=>a=[]/\Q b H
noncomputable def ymg(t:TG)(u:iz):iz:=λc d H Q=>∃ v r,c=v::r/\t v d H λa b=>u r a b Q
def zxz:yG X [] Ģ:=by
 intro a s b H d c Q I r h;obtain⟨rfl,h⟩:=h;cases r;exact assignInOrder_nil ⟨b,H,I,h⟩
def Z8(f:PG X e t)(g:yG X b u)
  (i:((Ad (e::b) X.env).map (·.2)=xi e X.env::(Ad b X.env).map (·.2))⁻¹):yG X (e::b)$ ymg t u:=by
 intro a s l H o m Q I r h;obtain⟨v,n,rfl,h⟩:=h;cases r with
 |cons r k=>
  rw[i];exact assignInOrder_cons (Zc (f a s l H _ _ _ I r h) λ_ s1 ⟨c,H1,d,j⟩=>(g a s1 c H1 _ _ Q d k j))
noncomputable def ù(K:W.Frag)(n:Nat)(t:iz):TG:=λv b H Q=>∃ a xs,v=.ref a/\Yg K H a xs/\xs.length=n/\t xs b H Q
def E7(l:X.Fd=š)(h:yG X d t)
  (p:((Ad d X.env).length=n)⁻¹) (f:((Ad d X.env).findIdx? (·.1)=ŋ)⁻¹):PG X (.Tuple d k pos)$ ù X.K n t:=by
 intro c s i H v u Q I r g;obtain⟨a,xs,rfl,q,m,g⟩:=g;cases r;obtain⟨y,z,w,A⟩:=I.tuple q;refine assign_Tuple_tuple (I.ok.hd l) w (by simp[p,<-m,z.length]) f λh' x=>?_;have j:gb X c i H { s with heap:=h' }:=I.kept λb o e=>x b o (Aa$ wa e) e;exact h c _ i H xs _ Q j ⋯ g
noncomputable def Ŷ(f e:TE)(t:EH):TG:=λv a H Q=>f a H λo b=>e a b λi c=>t o i v c λd=>Q a d
def uK(q:PE X o f)(p:PE X i e)(w:GN X t)
  (n:∀ v,xi (.Subscript o i pos) X.env v=(do
   let b <-Ld [v] (Ib o X.env);let c <-Ld [v,b] (Ib i X.env)
   Ig pos
   Ld [v,b,c] (cq b c v)
   fE [v,b,c] []):=by intro _;rfl):PG X (.Subscript o i pos)$ Ŷ f e t:=by
 intro a s d H v u Q I r h;rw[n];exact ba$ Xb (Zc (q a s d H _ I h) λb s1 ⟨x,H1,k,C,z⟩=>(ba$ Xb$ Zc (p a s1 d H1 _ k z) λc s2 ⟨y,g,l,D,A⟩=>(ba$ Vs$ ba$ Xb$ Zc (w a s2 d g x y v b c u _ l C D r A) λ_ s3 ⟨j,m,B⟩=>(wpAny_release ⟨d,j,m,B⟩))))
noncomputable def VR(c:TE)(g:TG):TS:=λD a H=>c a H λx b=>g x a b D.nx
def LI(i:PE X e b)(j:PG X tg g)(k:(yi [tg] e pos.line X.env=pure į)⁻¹)(l:(zi [tg] e X.env=pure ŋ)⁻¹)
  (f:((Ad [tg] X.env).map (·.2)=[xi tg X.env])⁻¹):PS X (.Assign [tg] e pos)$ VR b g:=by
 intro a s c H D I h;refine wpAny_Assign_stores (Zc (i a s c H _ I h) λv s1 ſ=>?_) k l;obtain⟨x,H1,d,n,m⟩:=ſ;rw[f];exact Zc (j a s1 c H1 x v _ d n m) λo s2 q=>q
def M9(g:X.N.Nodup)(l:X.N[i]?=W1 x)(n:Loc X.env.scope x)(j:PE X e c)(m:(Fg e (W1$ .Name x a) pos.line X.env=pure į)⁻¹)(k:X.fn x=š\/X.env.scope.names.lookup x=W1 .local:=by first|exact .inl rfl|exact .inr rfl|assumption) :
  PS X (.Assign [.Name x a] e pos)$ VR c$ lU i:=by
 intro b s q H D I h;exact wpAny_Assign_Name (Zc (j b s q H _ I h) λv s1 ⟨y,H1,d,p,o⟩=>(QL d g l n p (λs2 f=>⟨_,H1,f,o⟩) k)) m
noncomputable def yyk(i:Nat)(d:TE)(e:WH):TS:=λD a H=>∃ x,a[i]?=W1 (W1 x)/\d a H λy b=>e x y b λz c=>D.nx (a.set i$ W1 z) c
def Ţ(M:X.N.Nodup)(t:X.N[i]?=W1 x)(n:Loc X.env.scope x)(P:PE X e B)(ϊ:qK X o C)(Q:X.fn x=š\/X.env.scope.names.lookup x=W1 .local:=by first|exact .inl rfl|exact .inr rfl|assumption) :
  PS X (.AugAssign (.Name x f) o e pos)$ yyk i B C:=by
 intro a s E H D I h;obtain⟨v,L,h⟩:=h;obtain⟨m,T,R⟩:=I.loc;have p:QI X.env.scope x:=by rcases n with k|k;exact .inl k;exact .inr$ .inl k
 obtain⟨u,r,l⟩:=R i x v t L p;refine wpAny_AugAssign_Name ?_;have q:wpAny (model X.prog X.w) X.A (Ib e X.env) (λw g=>wpAny (model X.prog X.w) X.A (dH o u w) (λr j=>wpAny (model X.prog X.w) X.A (cH X.env x r) (λz=>SP X a D .next) X.xe j) X.xe g) X.xe s:=by
  exact Zc (P a s E H _ I h) λw s1 ⟨y,H1,G,Y,V⟩=>(Zc (ϊ a s1 E H1 v y u w _ G r Y V) λz s2 ⟨zv,F,ό,Z,W⟩=>(QL ό M t n Z (λs3 K=>⟨_,F,K,W⟩) Q))
 rcases l with⟨b,S⟩|⟨b,c,ϋ,d⟩
 ·exact ny I.ok.kind b T S q
 ·rcases b with b|b
  ·exact Hz I.ok.kind b ϋ d q
  ·rcases n with k|k
   ·have:X.env.scope.names.lookup x=W1 .free:=b;rw[k]at this;cases this
   ·have:X.env.scope.names.lookup x=W1 .free:=b
    simp_all
noncomputable def jT(f:Int->Int->Int):WH:=λx y H Q=>∃ i j,x=.int i/\y=.int j/\Q (.int$ f i j) H
def JY:qK X .Add (jT λi j=>i+j):=by
 rintro a s f H x y v u Q I d e ⟨i,j,b,c,q⟩;subst b;subst c;obtain⟨t,rfl⟩:=d;obtain⟨t',rfl⟩:=e;exact iadd_int ⟨.int _,H,I.tok _,⟨_,rfl⟩,q⟩
end
structure It where
 go:Nat->Hp->Prop
 YB:Nat->Hp->V->Hp->Prop
 stop:Nat->Hp->Prop
def Wk(X:Cx)(a:List$ Addr × Obj)(H:Hp)(b:Addr):Prop:=
 H b=ŋ/\b≠X.env.locals/\b ∉ X.fs/\(b∈X.ex\/X.s₀.heap.objs.size<=b)/\(∀ x c,X.env.cells.lookup x=W1 c->c≠b)/\∀ p∈X.pn++a,p.1≠b
def gb.Km(I:gb X a i H s)(d:s.heap.objs.size<=b)(g:f b=ŋ):Wk X a f b:=by
 refine⟨g,ee$ Ma I.lt d,I.uG d,.inr$ zb I.sz d,λx c e z=>?_,λp h z=>?_⟩
 ·obtain⟨v,q⟩:=I.cell x c e;exact absurd (Ma q.lt$ by simp_all)$ Bd _
 ·exact absurd (Ma (wa (I.pin p h).1)$ by simp_all)$ Bd _
structure Jm(P:xa)(w:Na)(K:W.Frag)(tg:Fa)(ό:It)(fp:ac)(it:Addr)(tn:Nat->Heap->Prop):Prop where
 mem:it∈fp
 obj:∀ i h,tn i h->∀ b∈fp,∃ o,h.get? b=W1 o/\∀ v,o.data≠.cell v
 keep:∀ i h h',tn i h->(∀ b∈fp,∀ o,h.get? b=W1 o->h'.get? b=W1 o)->tn i h'
 item:∀ (X:Cx),X.prog=P->X.w=w->X.K=K->X.Fd=š->∀ (i:Nat) (pins:dN) (s:Shared) (σ:St) (H:Hp) (E:Value->Shared->Prop),gb X pins σ H s->(∀ b∈fp,Wk X pins H b)->tn i s.heap->ό.go i H->
  wpAny (model P w) X.A (pyNext (.ref it)) (λr s1=>∃ u,r=W1 u/\
   wpAny (model P w) X.A (letOwnedTupleGo tg (.ref it) u) (λa s2=>∃ x H',gb X pins σ H' s2/\Rc x u/\ό.YB i H x H'/\tn (i+1) s2.heap/\∀ b∈fp,H' b=ŋ) E s1) E s
 done:∀ (X:Cx),X.prog=P->X.w=w->X.K=K->X.Fd=š->∀ (i:Nat) (pins:dN) (s:Shared) (σ:St) (H:Hp) (E:Value->Shared->Prop),gb X pins σ H s->(∀ b∈fp,Wk X pins H b)->tn i s.heap->ό.stop i H->
  wpAny (model P w) X.A (pyNext (.ref it)) (λr s1=>r=ŋ/\gb X pins σ H s1) E s
 self:∀ (A:Ia) (i:Nat) (s:Shared) (Q:Value->Shared->Prop) (E:Value->Shared->Prop),tn i s.heap->Q (.ref it) s->wpAny (model P w) A (pyIter (.ref it)) Q E s
abbrev TI:=St->Hp->(It->Hp->Prop)->Prop
def QR(X:Cx)(a:List$ Addr × Obj)(i:St)(h:Fa)(R:It->Hp->Prop)(d:Value)(s2:Shared):Prop:=
 ∃ (f:Addr) (e:ac) (g:Nat->Heap->Prop) (ό:It) (c:Hp),d=.ref f/\gb X a i c s2/\Jm X.prog X.w X.K h ό e f g/\g 0 s2.heap/\(∀ b∈e,Wk X a c b)/\R ό c
def PI(X:Cx)(c b:Fa)(d:TI):Prop:=
 ∀ a s σ H R,gb X a σ H s->d σ H R->
  wpAny (model X.prog X.w) X.A (Ib b X.env) (λv s1=>wpAny (model X.prog X.w) X.A (pyIter v) (QR X a σ c R) X.xe s1) X.xe s
def wF (f : s.heap.get? b = W1 o) (e : o.cls = .type n) (hd : o.data = .fields d)
    (g : ["enumerate","zip","dict_itemiterator","dict_reverseitemiterator","odict_iterator","itertools.zip_longest","itertools.pairwise"].contains n = į) (a : Q () s) : wpAny M A (letOwnedTupleGo c (.ref b) u) Q E s := by
  cases c <;> first
    | exact da a
    | (cases u <;> first
        | exact da a
        | (refine ba$ om f ?_
           rw [e, hd];show wpAny M A (if (["enumerate","zip","dict_itemiterator","dict_reverseitemiterator","odict_iterator","itertools.zip_longest","itertools.pairwise"].contains n && d[0]? == W1 _) = š then _ else _) Q E s;rw [ra ⋯];exact da a))
noncomputable def mL(K:W.Frag)(a:Addr):It:=
 ⟨λi H=>∃ xs x,Xe K H a xs/\xs[i]?=W1 x,λi H x b=>b=H/\∀ xs,Xe K H a xs->xs[i]?=W1 x,λi H=>∃ xs,Xe K H a xs/\xs.length<=i⟩
noncomputable def WL(K:W.Frag)(a:Addr):It:=
 ⟨λi H=>∃ xs x,Yg K H a xs/\xs[i]?=W1 x,λi H x b=>b=H/\∀ xs,Yg K H a xs->xs[i]?=W1 x,λi H=>∃ xs,Yg K H a xs/\xs.length<=i⟩
noncomputable def iI(lo:Int)(n:Nat):It:=⟨λi b=>i<n,λi H x a=>a=H/\x=.int (lo+i),λi b=>n<=i⟩
def zjw{P:xa}{w:Na}{K:W.Frag}{tg:Fa}(a j:Addr):Jm P w K tg (mL K a) [j] j (λi h=>h.IsListIter j a i) where
 mem:=by simp
 obj:=λi h st b g=>by
  have e:b=j:=by simpa using g
  subst e;obtain⟨o,e,c,d⟩:=st
  grind
 keep:=λi h h' st k=>st.at λo e=>k j ⋯ o e
 item:=by
  intro X A C z ό i f s σ H E I m st B;subst A C z;obtain⟨xs,x,n,D⟩:=B;obtain⟨F,G,p,R⟩:=I.list n;obtain⟨u,ϋ,S⟩:=G.get D;obtain⟨q,r,N,t,v,y⟩:=m j ⋯;refine wpAny_pyNext_list_item st p.isList (x:=u) (by simpa using ϋ) λh' l sb=>?_;have L:gb X f σ H { s with heap:=h' }:=I.turned (t':=s.toks) (λb o g e=>(sb.2 b g).trans e) q r t v y;obtain⟨o,e,c,d⟩:=id l;exact⟨u,rfl,wF (s:={ s with heap:=h' }) e c d ⋯ ⟨x,H,L,S,⟨rfl,λϊ Q=>by rw[I.xj Q n];exact D⟩,l,λb g=>(m b g).1⟩⟩
 done:=by
  intro X A C z ό i f s σ H E I m st B;subst A C z;obtain⟨xs,n,D⟩:=B;obtain⟨F,G,p,R⟩:=I.list n;obtain⟨q,r,N,t,v,y⟩:=m j ⋯;have T:=G.length;exact wpAny_pyNext_list_end (I.ok.hd ό) st p.isList (by simp;lia) λh' M=>⟨rfl,I.turned (t':=s.toks) (λb o g e=>M b o g e) q r t v y⟩
 self:=λJ J J J J st h=>wpAny_pyIter_listiter st h
def J5{P:xa}{w:Na}{K:W.Frag}{tg:Fa}(a j:Addr):Jm P w K tg (WL K a) [j] j (λi h=>h.IsTupleIter j a i) where
 mem:=by simp
 obj:=λi h st b g=>by
  have e:b=j:=by simpa using g
  subst e;obtain⟨o,e,c,d⟩:=st
  simp_all
 keep:=λi h h' st k=>st.at λo e=>k j ⋯ o e
 item:=by
  intro X B D A ό i f s σ H E I n st C;subst B D A;obtain⟨xs,x,q,F⟩:=C;obtain⟨l,G,p,Q⟩:=I.tuple q;obtain⟨u,T,R⟩:=G.get F;obtain⟨r,t,N,v,y,z⟩:=n j ⋯;refine wpAny_pyNext_tuple_item st (show s.heap.IsTuple a l.toArray from p) (x:=u) ⋯ λh' m sb=>?_;have L:gb X f σ H { s with heap:=h' }:=I.turned (λb o g e=>(sb.2 b g).trans e) r t v y z;obtain⟨o,e,c,d⟩:=id m;exact⟨u,rfl,wF e c d ⋯ ⟨x,H,L,R,⟨rfl,λϊ ϋ=>by rw[I.Ks ϋ q];exact F⟩,m,λb g=>(n b g).1⟩⟩
 done:=by
  intro X B D A ό i f s σ H E I n st C;subst B D A;obtain⟨xs,q,F⟩:=C;obtain⟨l,G,p,Q⟩:=I.tuple q;obtain⟨r,t,N,v,y,z⟩:=n j ⋯;have S:=G.length;exact wpAny_pyNext_tuple_end (I.ok.hd ό) st (show s.heap.IsTuple a l.toArray from p) (by simp;lia) λh' M=>⟨rfl,I.turned (t':=s.toks) (λb o g e=>M b o g e) r t v y z⟩
 self:=λJ J J J J st h=>wpAny_pyIter_tupleiter st h
def P2{P:xa}{w:Na}{K:W.Frag}{tg:Fa}(c:Addr)(lo:Int)(n:Nat):Jm P w K tg (iI lo n) [c] c (λi h=>IsRangeIter h c (lo+(i:Nat) * 1) ((n:Int) - (i:Nat)) 1) where
 mem:=by simp
 obj:=λi h st b d=>by
  simp_all
 keep:=λi h h' st k=>k c ⋯ _ st
 item:=by
  intro X u z r x i a s A H E I g st y;subst u z r;obtain⟨j,l,D,m,p,q⟩:=g c ⋯;refine(Walks.range (I.ok.hd x) c lo 1 n).item i s _ _ y st λv h' tk F f G=>?_;obtain⟨t,rfl⟩:=F;have B:gb X a A H { s with heap:=h',toks:=tk }:=I.turned (λb o d e=>G b o ⋯ e) j l m p q;refine⟨_,rfl,wF (s:={ s with heap:=h',toks:=tk }) (n:="range_iterator") f rfl rfl ⋯ ⟨.int _,H,B,⟨t,?_⟩,⟨rfl,rfl⟩,f,λb d=>(g b d).1⟩⟩;simp
 done:=by
  intro X u z r x i a s A H E I g st y;subst u z r;obtain⟨j,l,D,m,p,q⟩:=g c ⋯;exact wpAny_pyNext_range_end (I.ok.hd x) st (by have:n<=i:=y;lia) λh' C=>⟨rfl,I.turned (t':=s.toks) (λb o d e=>C b o d e) j l m p q⟩
 self:=λv v v v v st h=>wpAny_pyIter_rangeiter st h
section
variable{X:Cx}{tg:Fa}
def VS{lo a}(I:gb X c f H s)(i:-(2 ^ 62)<=lo)(j:lo<2 ^ 62)(k:-(2 ^ 62)<=a)(l:a<2 ^ 62)
  (q:R (iI lo (a - lo).toNat) H):wpAny (model X.prog X.w) X.A (pyIter$ .ref s.heap.objs.size) (QR X c f tg R) E { s with heap:=s.heap.push { cls:=.type "range",data:=.fields #[.int lo t,.int a u,.int 1 v] },toks:=tk }:=by
 refine wpAny_pyIter_range (IsRange.new ..) (small_one i j k l) ?_;have d:gb X c f H { s with heap:=s.heap.push { cls:=.type "range",data:=.fields #[.int lo t,.int a u,.int 1 v] },toks:=tk }:=I.kept λb o e=>ga _ e;refine⟨(s.heap.push { cls:=.type "range",data:=.fields #[.int lo t,.int a u,.int 1 v] }).objs.size,[(s.heap.push { cls:=.type "range",data:=.fields #[.int lo t,.int a u,.int 1 v] }).objs.size],_,_,H,rfl,
  d.kept λb o e=>ga _ e,P2 _ lo (a - lo).toNat,?_,λb m=>?_,q⟩
 ·have g:lo+((0:Nat):Int) * 1=lo:=by simp
  have h:(((a - lo).toNat:Nat):Int) - ((0:Nat):Int)=eH lo a 1:=by rw[rangeSize_one];split<;>lia
  show IsRangeIter _ _ _ _ 1;rw[g,h];exact Ea _ rfl
 ·have e:b=(s.heap.push { cls:=.type "range",data:=.fields #[.int lo t,.int a u,.int 1 v] }).objs.size:=by simpa using m
  subst e;exact d.Km (va _)$ d.pc.fresh$ va _
def Ã(b:TA):TI:=λd H R=>b d H λc a=>∃ j:Int,c=[.int j]/\-(2 ^ 62)<=j/\j<2 ^ 62/\R (iI 0 j.toNat) a
def Ğ(b:TA):TI:=λd H R=>b d H λc a=>∃ i j:Int,c=[.int i,.int j]/\(-(2 ^ 62)<=i/\i<2 ^ 62/\-(2 ^ 62)<=j/\j<2 ^ 62)/\R (iI i (j - i).toNat) a
def Ŭ(k:Gl X "range")(l:X.mg "range" = ŋ)(i:PA X [a] f)(m:(na [a] X.env=[(į,Ib a X.env)])⁻¹):PI X tg (.Call (.Name "range" p) [a] [] c)$ Ã f:=by
 intro b s v H R I h;refine Call_$ Sy I k l boot_range$ Yc (Zc (i c b s v H _ I h) λus s1 ſ=>?_) m rfl;obtain⟨w,H1,g,o,d⟩:=ſ;obtain⟨j,e,d,n,q⟩:=d;subst e;cases o with
 |cons r u=>
  cases u;obtain⟨t,rfl⟩:=r;exact call_range_1$ VS g ⋯ ⋯ d n (by simpa using q)
def g9(o:Gl X "range")(u:X.mg "range" = ŋ)(n:PA X [a,b] l)(v:(na [a,b] X.env=[(į,Ib a X.env),(į,Ib b X.env)])⁻¹)(c:(na [b] X.env=[(į,Ib b X.env)])⁻¹) :
  PI X tg (.Call (.Name "range" p) [a,b] [] f)$ Ğ l:=by
 intro d s B H R I h;refine Call_$ Sy I o u boot_range$ Yc (Zc (n f d s B H _ I h) λus s1 ⟨C,H1,m,A,g⟩=>?_) (by rw[v,c]) (by rw[c];rfl);obtain⟨i,j,e,⟨g,w,x,y⟩,q⟩:=g;subst e;cases A with
 |cons r k=>
  cases k with
  |cons z k=>
   cases k;obtain⟨t,rfl⟩:=r;obtain⟨t',rfl⟩:=z;exact call_range_2$ VS m g w x y q
noncomputable def yyn(k:TI)(g:TG)(j:TS):TS:=λD a H=>k a H λό f=>∃ W:Nat->Nat->St->Hp->Prop,(∃ m,W 0 m a f)/\∀ i m a H,W i m a H->
 (ό.stop i H/\D.nx a H)\/(ό.go i H/\∃ N:St->Hp->Prop,(∀ c b,N c b->∃ e,e<m/\W (i+1) e c b)/\∀ x b,ό.YB i H x b->g x a b λd h=>j { D with nx:=N,ct:=N,bk:=D.nx } d h)
noncomputable def LJ(a:ac)(h:Heap):List$ Addr × Obj:=a.filterMap λb=>(h.get? b).map λo=>(b,o)
def eI(c:b∈a)(e:h.get? b=W1 o):(b,o)∈LJ a h:=Vt.mpr ⟨b,c,by rw[e];rfl⟩
def ziu(d:p∈LJ a h):p.1∈a/\h.get? p.1=W1 p.2:=by
 obtain⟨b,f,e⟩:=Vt.mp d;cases q:h.get? b with
 |none=>simp_all
 |some o=>
  rw[q]at e;have c:=Cb e;subst c
  simp_all
def gb.pinned(I:gb X a σ H s)(g:∀ b∈c,Wk X a H b)(h:∀ b∈c,∃ o,s.heap.get? b=W1 o/\∀ v,o.data≠.cell v):gb X (a++LJ c s.heap) σ H s:=
 I.Bi λp i=>(si.mp i).elim (λz=>I.pin p$ Ra _ z) λz=>by
  obtain⟨f,e⟩:=ziu z;obtain⟨k,l,m,_⟩:=g p.1 f;obtain⟨o,j,d⟩:=h p.1 f
  simp_all
def gb.uj(I:gb X (a++pl) b H s):gb X a b H s:=I.Bi λp c=>I.pin p$ Ra _$ Va _ c
def eW{V}(G:Go (model X.prog X.w) X.A X.env X.xe)(hc:X.Fd=š)(hi:PI X tg q wi)(hg:PG X tg g)(p:Uv X body tb)
  (hs:∀ x,pe q X.env x=pure x:=by intro _;rfl):PS X (.For tg q body [] V)$ yyn wi g tb:=by
 intro c s σ H D I h;refine wpAny_For (Zc (hi c s σ H _ I h) λv s1 h1=>Zc h1 λa1 s2 h2=>?_) hs;obtain⟨it,R,tn,ό,H2,e,I2,T,Z,f2,W,⟨m0,w0⟩,P⟩:=h2;subst e;have t:∀ {B:Hp},(∀ b∈R,B b=ŋ)->∀ b∈R,Wk X c B b:=λhn b p=>⟨hn b p,(f2 b p).2⟩
 refine codeAny_forLoop_any (λn s'=>∃ i y B,gb X c y B s'/\tn i s'.heap/\(∀ b∈R,B b=ŋ)/\W i n y B) ?_ m0 ⟨0,σ,H2,I2,Z,λb p=>(f2 b p).1,w0⟩;rintro n s3 ⟨i,z,Q,I3,L,F,w3⟩;rcases P i n z Q w3 with⟨ϋ,qn⟩|⟨go,N,hN,M⟩
 ·refine dh G (Zc (T.done X rfl rfl rfl hc i c s3 z Q X.xe I3 (t F) L ϋ) λr s4 ⟨ϊ,I4⟩=>?_);subst ϊ;exact nj ⟨z,Q,I4,qn⟩
 ·refine dh G (Zc (T.item X rfl rfl rfl hc i c s3 z Q X.xe I3 (t F) L go) λr s4 ſ=>?_);obtain⟨u,ϊ,h4⟩:=ſ;subst ϊ;refine dh G (Zc h4 λr s5 ſ=>?_);obtain⟨x,H5,I5,r5,y5,E,S⟩:=ſ;refine dh G (Zc (hg _ s5 z H5 x u _ (I5.pinned (t S)$ T.obj _ _ E) r5$ M x H5 y5) λr s6 ſ=>?_);obtain⟨a0,H6,I6,q6⟩:=ſ;refine dh G (Zc (p _ s6 a0 H6 _ I6 q6) λf Y C=>?_);have l:∀ {a:St} {j:Hp},gb X _ a j Y->N a j->∃ m,m<n/\∃ i y B,gb X c y B Y/\tn i Y.heap/\(∀ b∈R,B b=ŋ)/\W i m y B:=fun {a j} k K=>by
   obtain⟨m',hm,w7⟩:=hN a j K;refine⟨m',hm,i+1,a,j,k.uj,T.keep _ _ _ E λb p o e=>(k.pin (b,o)$ Ra _$ Ra _$ eI p e).1,λb p=>?_,w7⟩;obtain⟨o,e,d⟩:=T.obj _ _ E b p;exact(k.pin (b,o)$ Ra _$ Ra _$ eI p e).2.1
  cases f with
  |next=>obtain⟨a,j,k,K⟩:=C;exact l k K
  |cont=>obtain⟨a,j,k,K⟩:=C;exact l k K
  |brk=>obtain⟨a,j,k,C⟩:=C;exact⟨a,j,k.uj,C⟩
  |ret v=>obtain⟨x7,a,j,k,r7,C⟩:=C;exact⟨x7,a,j,k.uj,r7,C⟩
end
abbrev R2:=V->V->Hp->VK->Prop
def Ph(X:Cx)(f:Value->Value->Em Value)(r:R2):Prop:=
 ∀ a s σ H x y v u Q,gb X a σ H s->Rc x v->Rc y u->r x y H Q->
  wpAny (model X.prog X.w) X.A (f v u) (EP X a σ Q) X.xe s
def uH(X:Cx)(f:Value->Em Value)(r:V->Hp->VK->Prop):Prop:=
 ∀ a s σ H x v Q,gb X a σ H s->Rc x v->r x H Q->
  wpAny (model X.prog X.w) X.A (f v) (EP X a σ Q) X.xe s
def xn(X:Cx)(f:Value)(r:em->Hp->VK->Prop):Prop:=
 ∀ a s σ H xs us Q,gb X a σ H s->ke xs us->r xs H Q->
  wpAny (model X.prog X.w) X.A (call f us) (EP X a σ Q) X.xe s
noncomputable def yD(r:R2)(d e:TE):TE:=λa H Q=>d a H λx b=>e a b λy c=>r x y c Q
def R9(r:V->Hp->VK->Prop)(b:TE):TE:=λc H Q=>b c H λx a=>r x a Q
def rI(C:Int->Int->Prop)(g:Int->Int->V):R2:=λx y H Q=>∃ i j,x=.int i/\y=.int j/\C i j/\Q (g i j) H
noncomputable def Hq(g:Int->Int->V):R2:=λx y H Q=>∃ i j,x=.int i/\y=.int j/\Q (g i j) H
def rU(g:Int->V):V->Hp->VK->Prop:=λx H Q=>∃ i,x=.int i/\Q (g i) H
section
variable{X:Cx}{a b c:Fa}{ta tb tc:TE}{pos:Dd}
def oO(m:PE X a ta)(n:PE X b tb){c}{R:V->V->Hp->Prop}(I:gb X c e H s)
  (h:ta e H λx j=>tb e j λy d=>R x y d) {f:Value->Value->Em Value}
  (o:∀ v u s2 x y d,gb X c e d s2->Rc x v->Rc y u->R x y d->wpAny (model X.prog X.w) X.A (f v u) Q X.xe s2) :
  wpAny (model X.prog X.w) X.A (Ib a X.env) (λv g=>wpAny (model X.prog X.w) X.A (Ib b X.env) (λu i=>wpAny (model X.prog X.w) X.A (f v u) Q X.xe i) X.xe g) X.xe s:=by
 exact Zc (m c s e H _ I h) λv s1 ⟨x,j,k,r,p⟩=>(Zc (n c s1 e j _ k p) λu s2 ⟨y,d,l,t,q⟩=>(o v u s2 x y d l r t q))
def ĸ(j:Ph X (De d) r)(g:PE X a ta)(i:PE X b tb):PE X (.BinOp a d b pos)$ yD r ta tb:=by
 intro c s l H Q I h;exact wpAny_BinOp (oO g i I h λv u s2 x y e f rx k q=>j c s2 l e x y v u Q f rx k q)
def û{c}(g:uH X (unaryOp c) r)(f:PE X a ta):PE X (.UnaryOp c a pos)$ R9 r ta:=by
 intro b s d H Q I h;exact UnaryOp_ (Zc (f b s d H _ I h) λv s1 ⟨x,H1,e,j,i⟩=>g b s1 d H1 x v Q e j i)
def MK{g:Int->Int->Int}
  (a:∀ i j t u s Q E,C i j->Q (.int (g i j) s.toks) { s with toks:=s.toks+1 }->wpAny (model X.prog X.w) X.A (f (.int i t)$ .int j u) Q E s) :
  Ph X f (rI C λi j=>.int$ g i j):=by
 rintro b s e H x y v u Q I rx d ⟨i,j,rfl,rfl,c,q⟩;obtain⟨t,rfl⟩:=rx;obtain⟨t',rfl⟩:=d;exact a i j t t' s _ _ c ⟨.int _,H,I.tok _,⟨_,rfl⟩,q⟩
def sX{g:Int->Int->Int}
  (a:∀ i j t u s Q E,Q (.int (g i j) s.toks) { s with toks:=s.toks+1 }->wpAny (model X.prog X.w) X.A (f (.int i t)$ .int j u) Q E s) :
  Ph X f (Hq λi j=>.int$ g i j):=by
 rintro b s d H x y v u Q I rx c ⟨i,j,rfl,rfl,q⟩;obtain⟨t,rfl⟩:=rx;obtain⟨t',rfl⟩:=c;exact a i j t t' s _ _ ⟨.int _,H,I.tok _,⟨_,rfl⟩,q⟩
def qI{g:Int->Int->Bool}
  (a:∀ i j t u s Q E,Q (.bool$ g i j) s->wpAny (model X.prog X.w) X.A (f (.int i t)$ .int j u) Q E s) :
  Ph X f (Hq λi j=>.bl$ g i j):=by
 rintro b s d H x y v u Q I rx c ⟨i,j,rfl,rfl,q⟩;obtain⟨t,rfl⟩:=rx;obtain⟨t',rfl⟩:=c;exact a i j t t' s _ _ ⟨.bl _,H,I,rfl,q⟩
def NW(i j:Int):Prop:=0<j/\j<1073741824
def RY(i j:Int):Prop:=0<=j/\j<=1000000/\i.natAbs<2 ^ 64
def ß:Ph X (De .Add) (Hq λi j=>.int$ i+j):=sX λa a a a a a a q=>add_int q
def Y8:Ph X (De .Sub) (Hq λi j=>.int$ i - j):=sX λa a a a a a a q=>sub_int q
def w4:Ph X (De .FloorDiv) (rI NW λi j=>.int$ i / j):=MK λi j d d d d d a q=>by
 have b:(0:Int)<j:=a.1;have c:j<1073741824:=a.2;exact floordiv_int ⋯ (by rw[Int.fdiv_eq_ediv_of_nonneg i ⋯];exact q)$ .inl$ PyProof.noPylong_small ⋯
def qY:Ph X (De .Mod) (rI (λb j=>0<j) λi j=>.int$ i % j):=MK λi j b b b b b a q=>by
 exact mod_int' ⋯ (by rw[Int.fmod_eq_emod_of_nonneg i ⋯];exact q)
def J8:Ph X (De .Pow) (rI RY λi j=>.int$ i ^ j.toNat):=MK λb b b b b b b a q=>pow_int_small a.1 a.2.1 a.2.2 q
def unI{g:Int->Int}
  (a:∀ i t s Q E,Q (.int (g i) s.toks) { s with toks:=s.toks+1 }->wpAny (model X.prog X.w) X.A (f$ .int i t) Q E s) :
  uH X f (rU λi=>.int$ g i):=by
 rintro b s c H x v Q I rx ⟨i,rfl,q⟩;obtain⟨t,rfl⟩:=rx;exact a i t s _ _ ⟨.int _,H,I.tok _,⟨_,rfl⟩,q⟩
def yji:uH X (unaryOp .USub) (rU λi=>.int$ -i):=unI λd d d d d q=>neg_int q
end
section
variable{X:Cx}{a b c:Fa}{ta tb tc:TE}{pos:Dd}
def GY{a}{c}{k b}(I:gb X a c H s)(q:Q (.bl k) H)(e:k=b):EP X a c Q (.bool b) s:=by
 subst e;exact⟨.bl k,H,I,rfl,q⟩
def IJ:Ph X (Nb .Lt) (Hq λi j=>.bl$ decide$ i<j):=qI λa a a a a a a q=>lt_int q
def dG:Ph X (Nb .LtE) (Hq λi j=>.bl$ decide$ i<=j):=qI λa a a a a a a q=>le_int q
def cX:Ph X (Nb .Gt) (Hq λi j=>.bl$ decide$ j<i):=qI λa a a a a a a q=>gt_int q
def vN:Ph X (Nb .GtE) (Hq λi j=>.bl$ decide$ j<=i):=qI λa a a a a a a q=>ge_int q
theorem uQ:Ph X (Nb .Is) (λx y H Q=>y=.Sb/\Q (.bl$ decide$ x=.Sb) H):=by
 rintro a s c H x y v u Q I rx b ⟨rfl,q⟩;cases b;refine is_none_gen$ GY I q ?_;cases x<;>first
  |(cases rx;rfl)
  |(obtain⟨t,rfl⟩:=rx;rfl)
theorem BW:Ph X (Nb .IsNot) (λx y H Q=>y=.Sb/\Q (.bl$ !decide (x=.Sb)) H):=by
 rintro a s c H x y v u Q I rx b ⟨rfl,q⟩;cases b;refine isnot_none_gen$ GY I q ?_;cases x<;>first
  |(cases rx;rfl)
  |(obtain⟨t,rfl⟩:=rx;rfl)
def Pn b{a}(h: ~~~(a≠.In))(c: ~~~(a≠.NotIn)):We a b=į:=OY b h c
def χ(k:Ph X (Nb d) r)(g:PE X a ta)(i:PE X b tb)(j:We d b=į):PE X (.Compare a [d] [b] pos)$ yD r ta tb:=by
 intro c s m H Q I h;exact wpAny_Compare1 (oO g i I h λv u s2 x y e f rx l q=>k c s2 m e x y v u Q f rx l q) j
noncomputable def Ž(t:TE):TT:=λb H Q=>t b H λx a=>∃ k,x=.bl k/\Q k a
def KP(t:Ph X (Nb f) r)(o:PE X a ta)(p:PE X b tb)(q:We f b=į):PT X (.Compare a [f] [b] pos)$ Ž$ yD r ta tb:=by
 intro d s g H Q I h;refine Hw (Zc (o d s g H _ I h) λv s1 ⟨x,H1,l,C,w⟩=>Zc (p d s1 g H1 _ l w) λu s2 ⟨y,i,m,D,A⟩=>
  Zc (t d s2 g i x y v u _ m C D A) λc s3 ⟨z,j,n,E,k,e,B⟩=>?_) q
 subst e;cases E;exact Mc ⟨j,n,B⟩
noncomputable def Ò(r f:R2)(ta tb tc:TE):TE:=λa H Q=>ta a H λx c=>tb a c λy d=>r x y d λz b=>∃ k,z=.bl k/\
 (if k=š then tc a b λg e=>f y g e Q else Q (.bl į) b)
def B2(ό:Ph X (Nb l) r)(j:Ph X (Nb g) p)(D:PE X a ta)(E:PE X b tb)(F:PE X c tc)
  (G:lastMarks [l,g] [b,c]=į:=by with_unfolding_all rfl):PE X (.Compare a [l,g] [b,c] pos)$ Ò r p ta tb tc:=by
 intro f s i H Q I h;refine Compare_chain (Zc (D f s i H _ I h) λv s1 ⟨x,H1,A,N,K⟩=>chain_link (Zc (E f s1 i H1 _ A K) λu s2 ⟨y,t,B,q,L⟩=>
  Zc (ό f s2 i t x y v u _ B N q L) λd s3 ⟨z,m,n,ϋ,k,e,o⟩=>?_)) G
 subst e;cases ϋ;refine Mc ?_;cases k with
 |false=>exact ite_ff ⟨.bl į,m,n,rfl,o⟩
 |true=>exact ite_tt$ chain_last (Zc (F f s3 i m _ n o) λR s4 ⟨S,w,C,P,M⟩=>j f s4 i w y S u R Q C q P M)
def zJ: sizeLine <2 ^ 63:=by rw[qy];decide
def U3:Ph X (De .Add) (λx y H Q=>∃ i j,x=.str i/\y=.str j/\i.length+j.length<=sizeLine/\Q (.str$ i++j) H):=by
 rintro a s d H x y v u Q I rx c ⟨i,j,rfl,rfl,b,q⟩;obtain⟨t,rfl⟩:=rx;obtain⟨t',rfl⟩:=c;exact add_str (λt' tk=>⟨.str _,H,I.tok _,⟨_,rfl⟩,q⟩) b
def Nt{a}(r:ke [x] a):∃ u,a=[u]/\Rc x u:=by
 cases r with
 |cons b c=>cases c;exact⟨_,rfl,b⟩
def CI{a}(r:ke [x,y] a):∃ u b,a=[u,b]/\Rc x u/\Rc y b:=by
 cases r with
 |cons c d=>
  cases d with
  |cons e f=>cases f;exact⟨_,_,rfl,c,e⟩
def OO(c:X.Fd=š):xn X (.builtin "max") (λxs H Q=>∃ i j,xs=[.int i,.int j]/\Q (.int$ if j > i then j else i) H):=by
 rintro b s f H xs d Q I r ⟨i,j,rfl,q⟩;obtain⟨u,e,rfl,⟨t,rfl⟩,⟨t',rfl⟩⟩:=CI r;refine max_two_ints (I.ok.hd c) λh' tk k=>⟨_,H,I.kept k,?_,q⟩
 by_cases a:j > i
 ·rw[ja a,ja a];exact⟨_,rfl⟩
 ·rw[ra a,ra a];exact⟨_,rfl⟩
def kZ(c:X.Fd=š):xn X (.builtin "min") (λxs H Q=>∃ i j,xs=[.int i,.int j]/\Q (.int$ if j<i then j else i) H):=by
 rintro b s f H xs d Q I r ⟨i,j,rfl,q⟩;obtain⟨u,e,rfl,⟨t,rfl⟩,⟨t',rfl⟩⟩:=CI r;refine min_two_ints (I.ok.hd c) λh' tk k=>⟨_,H,I.kept k,?_,q⟩
 by_cases a:j<i
 ·rw[ja a,ja a];exact⟨_,rfl⟩
 ·rw[ra a,ra a];exact⟨_,rfl⟩
end
structure lq(h:Heap)(x dx C:Addr)(mA:Str->Option Value):Prop where
 obj:h.get? x=W1 (W.instObj C dx)
 ns:h.Ns1 dx mA
 ne:dx≠x
set_option tactic.hygienic true in
def zia{h:Heap}(n:h.Ns1 d f):∃ g,h.get? d=W1 g/\∀ b,W.lookIn b g=W1 (f b):=by
 obtain⟨o,i,p,l,hd,j,_,k⟩:=n;refine⟨o,l,λb=>?_⟩;have e:=k b;unfold nsFind findBy at e;rw[<-Array.find?_toList]at e;unfold W.lookIn;rw[hd];dsimp only;split
 ·rename_i y q
  simp_all
 ·rename_i q
  rw[q]at e;have a:i.toList.any (·.refKey)=į:=by
   rw[List.any_eq_false];intro y m;obtain⟨z,t,c⟩:=j y (Array.mem_toList_iff.mp m);simp[zaF,c]
  simp_all
def lq.look(I:lq h x c C d):∃ b,W.InstAt h x (W.instObj C c) C (W1 b)/\∀ a,W.lookIn a b=W1 (d a):=
 let ⟨b,f,e⟩:=zia I.ns
 ⟨b,⟨I.obj,rfl,rfl,f⟩,e⟩
section
variable{prog:xa}{w:Na}{A:Ia}{E:Value->Shared->Prop}{s:Shared}{K:W.Frag}{x dx C f:Addr}{mA:Str->Option Value}{name:Str}{v:Value}
def U1(X:K.In s.heap)(I:lq s.heap x dx C mA)(d:W.plainGet K C name=š)(e:W.hasDictIn K C=š)
  (c:W.findIn K (.ref C) name=W1 ŋ) (g:mA name=W1 v) (b:W.handedIn v=š) (h:Q v { s with toks:=s.toks+1 }) :
  wpAny (model prog w) A (getAttr (.ref x) name a) Q E s:=by
 obtain⟨i,ό,f⟩:=I.look;exact W.get_value X ό (Nq d).1 (W.findObj_own e c rfl$ by simp_all) b h
def ο(X:K.In s.heap)(I:lq s.heap x dx C mA)(a:W.plainGet K C name=š)
  (b:W.findIn K (.ref C) name=W1 (W1$ .ref f)) (d:W.isFn K (.ref f)=š) (e:mA name=ŋ) (h:Q (.ref f,[.ref x]) s) :
  wpAny (model prog w) A (Dh (.ref x) name pl) Q E s:=by
 obtain⟨g,ό,c⟩:=I.look;exact W.method_fn X ό (Nq a).1 (Nq a).2 b (Xh.mp d) (by show (W.lookIn name g).map (·.isSome)=W1 į;rw[c,e];rfl) h
def zzd(X:K.In s.heap)(I:lq s.heap x dx C mA)
  (p:W.findIn K (.ref C) "__setattr__" = W1 (W1$ .builtin "object.__setattr__")) (o:W.plainOver K C=š) (t:W.takerIn K C name=W1 ŋ) (n:W.hasDictIn K C=š)
  (u:PySem.Within mA j) (q:j.length<=sizeLine)
  (h:∀ h',lq h' x dx C (λy=>if y=name then W1 v else mA y)->yd dx s.heap h'->Q () { s with heap:=h',toks:=s.toks+2 }) :
  wpAny (model prog w) A (setAttr (.ref x) name v) Q E s:=by
 obtain⟨F,ό,D⟩:=I.look;refine W.set_plain X ό p (W.osa_open (s:={ s with toks:=s.toks+1 }) (r:=ŋ) X ό o t λb=>?_);obtain⟨B,m,f⟩:=W.any_some n;have z:s.heap.get? x=W1 ⟨.ref C,W1 dx,.plain,#[]⟩:=I.obj;refine ba$ da$ ba$ ba$ wpAny_loadPart z$ ba$ W.Looks.here (W.looks_clsIn X m) ?_;rw[f];refine da (a:=W1 dx)$ ba$ da$ ba (wpAny_nsSet1 I.ns λh' c d=>?_);obtain⟨oD,l,k,i,g,e⟩:=c.count (ZJ name v u);refine ba$ wpAny_lookBehind i (by rw[g];exact pastItsLine_dict$ zb e (by rw[Ua];lia)) ?_;exact da$ h _ ⟨(d.2 _$ Cd I.ne).trans I.obj,c,I.ne⟩ d
def G8(X:K.In s.heap)(j:W.makesIn K C=š)
  (i:W.findIn K (.ref C) "__init__" = W1 (W1$ .ref f)) (e:W.typeIn K (.ref f)=W1 (.type "function"))
  (h:codeAny (model prog w) (A.under$ .builtin "type.__call__" ⟨.ref C::c,b⟩) (.call (.ref f) ⟨.ref (s.heap.objs.size+1)::c,b⟩) (W.InitBack (s.heap.objs.size+1) R)
   { s with heap:=(s.heap.push W.emptyDict).push (W.instObj C s.heap.objs.size) }) :
  codeAny (model prog w) A (.call (.ref C) ⟨c,b⟩) R s:=by
 obtain⟨k,g,d,t,l⟩:=s;exact W.make_core (W.makes_of X j) (WG X i) (λa=>W.bind_fn X a e) (.inl rfl) h
end
noncomputable def En(f:Str)(v:V):List (Str × V)->List (Str × V)
 |[]=>[(f,v)]
 |(g,x)::r=>if g=f then (g,v)::r else (g,x)::En f v r
theorem bV(f g:Str)(v:V):∀ c:List$ Str × V,(En f v c).lookup g=if g=f then W1 v else c.lookup g
 |[]=>by
  show List.lookup g [(f,v)]=_;by_cases h:g=f;all_goals simp_all
 |(k,x)::r=>by
  rw[show En f v _=(if k=f then (k,v)::r else (k,x)::En f v r)from rfl];by_cases b:k=f
  ·rw[ja b];by_cases h:g=k
   ·have a:=Xh.mpr h
    simp_all
   ·have a:=Od.mpr h;simp[List.lookup,a,ra (λe:g=f=>h$ e.trans b.symm)]
  ·rw[ra b];by_cases h:g=k
   ·have a:=Xh.mpr h
    simp_all
   ·have a:=Od.mpr h;simp[List.lookup,a];exact(bV f g v r)
theorem nP(f:Str)(v:V):∀ a:List$ Str × V,f∈(En f v a).map (·.1)/\∀ g,g∈a.map (·.1)->g∈(En f v a).map (·.1)
 |[]=>⟨by simp[En],λg h=>by simp at h⟩
 |(k,x)::r=>by
  obtain⟨c,d⟩:=nP f v r;rw[show En f v _=(if k=f then (k,v)::r else (k,x)::En f v r)from rfl];by_cases b:k=f
  ·rw[ja b]
   grind
  ·rw[ra b];refine⟨?_,λg h=>?_⟩
   ·rw[db];exact la _ c
   ·rw[db]at h ⊢;rcases La.mp h with e|e
    ·exact La.mpr$ .inl e
    ·exact la _$ d g e
theorem zW(f:Str)(v:V):∀ a:List$ Str × V,(En f v a).length<=a.length+1
 |[]=>by simp[En]
 |(k,x)::r=>by
  have c:=zW f v r;rw[show En f v _=(if k=f then (k,v)::r else (k,x)::En f v r)from rfl];by_cases b:k=f;all_goals simp_all
def Po.some_of(r:Po (W1 v) o):∃ u,o=W1 u/\Rc v u:=by
 cases o with
 |none=>exact(r).elim
 |some u=>exact⟨u,rfl,r⟩
def Po.none_of(r:Po ŋ o):o=ŋ:=by
 cases o with
 |none=>rfl
 |some u=>exact(r).elim
theorem i8(r:Rc v u):W.handedIn u=š:=by
 cases v with
 |Sb=>cases (r);rfl
 |bl b=>cases (r);rfl
 |int i=>obtain⟨t,e⟩:=(r);cases e;rfl
 |str x=>obtain⟨t,e⟩:=(r);cases e;rfl
 |nH b=>obtain⟨t,e⟩:=(r);cases e;rfl
 |vA b=>obtain⟨t,e⟩:=(r);cases e;rfl
 |ref a=>cases (r);rfl
 |ty n=>cases (r);rfl
section
variable{P:xa}{w:Na}{H H':Hp}{h h':Heap}{a C dx:Addr}{fs fs':List$ Str × V}
def YH(c:Qh P w H h)(e:H a=W1 (.ub C dx fs)):∃ b,lq h a dx C b/\(∀ f,Po (fs.lookup f) (b f))/\PySem.Within b (fs.map (·.1))/\fs.length<=1000/\H dx=W1 (.own a):=by
 obtain⟨d,z,g,ob,b,n,r,q⟩:=(c a _ e)
 exact⟨b,⟨ob,n,g⟩,r,q,z,d⟩
end
structure Iq(K:W.Frag)(C:Addr):Prop where
 pg:W.plainGet K C Str.empty=š
 hd:W.hasDictIn K C=š
 po:W.plainOver K C=š
 sa:W.findIn K (.ref C) "__setattr__" = W1 (W1 (.builtin "object.__setattr__"))
def Iq.get{K}(c:Iq K C) f:W.plainGet K C f=š:=c.pg
def Px(K:W.Frag)(C:Addr)(f:Str):Prop:=W.findIn K (.ref C) f=W1 ŋ
theorem Px.LF{K}(n:Px K C f):W.takerIn K C f=W1 ŋ:=by
 unfold W.takerIn;rw[n];rfl
structure eu(K:W.Frag)(C:Addr)(m:Str)(f:Addr):Prop where
 at_:W.findIn K (.ref C) m=W1 (W1 (.ref f))
 fn:W.isFn K (.ref f)=š
 kp:W.keepIn K (.ref f)=š
section
variable{X:Cx}{pins:List$ Addr × Obj}{σ:St}{H:Hp}{s:Shared}{a C dx:Addr}{fs:List$ Str × V}{f:Str}{v:V}{A:Ia}{E:Value->Shared->Prop}
def DY(I:gb X pins σ H s)(e:H a=W1 (.ub C dx fs))(c:Iq X.K C)(n:Px X.K C f)(l:fs.lookup f=W1 v)
  (h:∀ u g,gb X pins σ H g->Rc v u->Q u g):wpAny (model X.prog X.w) A (getAttr (.ref a) f b) Q E s:=by
 obtain⟨j,ϋ,r,_,_,_⟩:=YH I.pc e;obtain⟨u,i,d⟩:=Po.some_of (by rw[<-l];exact r f);exact U1 I.Li ϋ (c.get f) c.hd n i (i8 d)$ h u _ (I.tok _) d
def vP(I:gb X pins σ H s)(e:H a=W1 (.ub C dx fs))(c:Iq X.K C)(k:eu X.K C m g)(l:fs.lookup m=ŋ)
  (h:Q (.ref g,[.ref a]) s):wpAny (model X.prog X.w) A (Dh (.ref a) m pl) Q E s:=by
 obtain⟨d,ϋ,r,_,_,_⟩:=YH I.pc e;have b:=Po.none_of (by rw[<-l];exact r m);exact ο I.Li ϋ (c.get m) k.at_ k.fn b h
def QT(I:gb X pins σ H s)(e:H a=W1 (.ub C dx fs))(c:Iq X.K C)(n:Px X.K C f)(x:fs.length<1000)(v:Rc y u)
  (h:∀ j,gb X pins σ (Qa H a$ .ub C dx$ En f y fs) j->Q () j):wpAny (model X.prog X.w) A (setAttr (.ref a) f u) Q E s:=by
 obtain⟨B,ϋ,r,k,_,i⟩:=YH I.pc e;have t:(fs.map (·.1)).length<=sizeLine:=by rw[Ja,qy];lia
 refine zzd I.Li ϋ c.sa c.po n.LF c.hd k t λh' d sb=>h _ ?_;have hd:∃ o,h'.get? dx=W1 o:=let ⟨o,_,_,l,_⟩:=d.ns;⟨o,l⟩;refine I.write (e:=dx) (by rw[e];exact True.intro) (.inr i) (λb q m z=>(sb.2 b m).trans z) hd ⟨by rw[Xd ϋ.ne];exact i,?_,ϋ.ne,d.obj,_,d.ns,λg=>?_,λg p=>?_⟩
 ·have:=zW f y fs;lia
 ·show Po _ _;rw[bV];by_cases q:g=f
  ·rw[ja q,ja q];exact v
  grind
 ·by_cases q:g=f
  ·rw[q];exact(nP f y fs).1
  ·refine(nP f y fs).2 g (k g λz=>p ?_)
   simp_all
def gb.made(I:gb X pins σ H s):gb X pins σ (Qa (Qa H s.heap.objs.size$ .own$ s.heap.objs.size+1) (s.heap.objs.size+1)$ .ub C s.heap.objs.size [])
  { s with heap:=(s.heap.push W.emptyDict).push (W.instObj C s.heap.objs.size) }:=by
 have a:(s.heap.push W.emptyDict).get? s.heap.objs.size=W1 W.emptyDict:=Ea s.heap rfl;have d:((s.heap.push W.emptyDict).push$ W.instObj C s.heap.objs.size).get? (s.heap.objs.size+1)=W1 (W.instObj C s.heap.objs.size):=by
  have:=Ea (s.heap.push W.emptyDict) (o:=W.instObj C s.heap.objs.size) rfl
  simp_all
 have f:(s.heap.push W.emptyDict).Ns s.heap.objs.size _:=⟨W.emptyDict,#[],_,a,rfl,(λe g=>absurd g ⋯),λb=>rfl⟩
 refine(I.laid (o:=.own _) (t':=s.toks) (λb u q=>ga _ q) (va _) ⟨_,a⟩).laid (λb u q=>ga _ q) (XG$ Ed _ _) ?_;have c:s.heap.objs.size≠s.heap.objs.size+1:=Aa$ cc _;refine⟨by rw[Xd c,rf],Bh _,c,d,λb=>ŋ,(Heap.Ns1.of_empty f).at λo q=>ga _ q,λb=>True.intro,λy h=>absurd rfl h⟩
def F3{a}(g:Lc e f a (Ib e a)=Ib e a)
  (h:wpAny (model b w) A (Ib e a) (λo c=>wpAny (model b w) A (getAttr o f š) Q E c) E s):wpAny (model b w) A (Ib (.Attribute e f d) a) Q E s:=
 Attribute_any_ h (by rw[arm_eval_Attribute,g])
end
def W3(K:W.Frag)(e:TE)(f:Str):TE:=λg H Q=>e g H λx b=>∃ a C d c v,x=.ref a/\b a=W1 (.ub C d c)/\Iq K C/\Px K C f/\c.lookup f=W1 v/\Q v b
def L6(K:W.Frag)(h i:TE)(f:Str):TS:=λD c H=>i c H λy g=>h c g λx d=>∃ a C e b,x=.ref a/\d a=W1 (.ub C e b)/\Iq K C/\Px K C f/\b.length<1000/\
 D.nx c (Qa d a$ .ub C e$ En f y b)
def qU(X:Cx)(b:dk)(rd:V->V->Hp->VK->Prop):Prop:=
 ∀ a s σ H x y u v Q,gb X a σ H s->Rc x u->Rc y v->rd x y H Q->wpAny (model X.prog X.w) X.A (dH b u v) (EP X a σ Q) X.xe s
def i0(K:W.Frag)(k l:TE)(rd:V->V->Hp->VK->Prop)(f:Str):TS:=λD d H=>k d H λx e=>∃ a C j h v,x=.ref a/\e a=W1 (.ub C j h)/\Iq K C/\Px K C f/\h.lookup f=W1 v/\
 l d e λy i=>rd v y i λz g=>∃ c b,g a=W1 (.ub C c b)/\b.length<1000/\D.nx d (Qa g a$ .ub C c$ En f z b)
section
variable{X:Cx}{o e value:Fa}{f:Str}{pos pos' tpos:Dd}{ta tv:TE}
def γ(k:PE X e ta)(j:Lc e f X.env (Ib e X.env)=Ib e X.env):PE X (.Attribute e f pos)$ W3 X.K ta f:=by
 intro b s o H Q I h;refine F3 j (Zc (k b s o H _ I h) λu s1 ſ=>?_);obtain⟨x,H1,d,rx,a,C,p,r,v,ex,i,c,n,l,q⟩:=ſ;subst ex;obtain rfl:u=Db a:=rx;exact DY d i c n l λt s2 g m=>⟨v,H1,g,m,q⟩
def X7(k:PE X o ta)(p:PE X value tv)(m:Fg value (W1$ .Attribute o f pos') pos.line X.env=pure į):PS X (.Assign [.Attribute o f pos'] value pos)$ L6 X.K ta tv f:=by
 intro b s d H D I h;refine plainObj_wpAny_Assign_Attribute (Zc (p b s d H _ I h) λu s1 ⟨y,H1,e,v,q⟩=>Zc (k b s1 d H1 _ e q) λr s2 ⟨x,w,g,rx,a,C,z,A,ex,j,c,n,l,t⟩=>?_) m;subst ex;obtain rfl:r=Db a:=rx;exact QT g j c n l v λB i=>⟨d,_,i,t⟩
def Ġ(E:PE X o ta)(F:PE X value tv)(g:qU X i rd):PS X (.AugAssign (.Attribute o f tpos) i value pos)$ i0 X.K ta tv rd f:=by
 intro b s d H D I h;refine wpAny_AugAssign_AttributeAny (Zc (E b s d H _ I h) λό s1 ſ=>?_);obtain⟨x,H1,k,rx,a,C,S,T,v,ex,A,c,n,l,q⟩:=ſ;subst ex;obtain rfl:ό=Db a:=rx;exact DY k A c n l λu s2 m N=>Zc (F b s2 d H1 _ m q) λQ s3 ⟨y,j,p,ϋ,L⟩=>Zc (g b s3 d j v y u Q _ p N ϋ L) λW s4 ⟨z,R,r,P,w,B,e,G,M⟩=>(QT r e c n G P λϊ t=>⟨d,_,t,M⟩)
def E4:V->V->Hp->VK->Prop:=λx y H Q=>∃ i j,x=.int i/\y=.int j/\Q (.int$ i+j) H
def m9:qU X .Add E4:=by
 rintro a s c H x y u v Q I rx b ⟨i,j,rfl,rfl,q⟩;obtain⟨t,rfl⟩:=(rx)
 obtain⟨t',rfl⟩:=(b)
 exact aK ⟨.int _,H,I.tok _,⟨_,rfl⟩,q⟩
end
section
variable{X:Cx}{pins:List$ Addr × Obj}{σ:St}{H:Hp}{s:Shared}{A:Ia}{E:Value->Shared->Prop}{Q:Value->Shared->Prop}{c:Value}{b:Bool}
inductive Tj(K:W.Frag)(H:Hp):V->Value->Prop where
 |Sb:Tj K H .Sb (.type "NoneType")
 |bl (x:Bool):Tj K H (.bl x) (.type "bool")
 |int (i:Int):Tj K H (.int i) (.type "int")
 |str (x:Str):Tj K H (.str x) (.type "str")
 |vA (x:UInt64):Tj K H (.vA x) (.type "float")
 |qa {a:Addr} {xs:em} (e:H a=W1 (.qa xs)):Tj K H (.ref a) (.type "list")
 |Ic {a:Addr} {o:Obj} {xs:em} (e:H a=W1 (.Ic o (.qa xs))):Tj K H (.ref a) (.type "list")
 |Sa {a:Addr} {xs:em} (e:H a=W1 (.Sa xs)):Tj K H (.ref a) (.type "tuple")
 |dK {a:Addr} {kvs:List (jc × V)} (e:H a=W1 (.dK kvs)):Tj K H (.ref a) (.type "dict")
 |dT {a:Addr} {kvs:List (TK × V)} (e:H a=W1 (.dT kvs)):Tj K H (.ref a) (.type "dict")
 |ub {a C dx:Addr} {fs:List (Str × V)} (e:H a=W1 (.ub C dx fs)) (cl:Iq K C) (ha:W.findIn K (.ref C) "__class__" = W1 (W1 (.builtin "object.__class__")))
   (hn:W.specialIn K (.builtin "object.__class__") "__get__" = W1 (W1 (.builtin "getset_descriptor.__get__"))) (htk:W.takesIn K (.builtin "object.__class__")=W1 š)
   (hm:W.mroIn K C (.type "object")=W1 š):Tj K H (.ref a) (.ref C)
def EQ(I:gb X pins σ H s)(rx:Rc x u)(ty:Tj X.K H x t)(e:W.kitOne X.K t c=W1 b)(h:∀ tk,Q (.bool b) { s with toks:=tk }) :
  wpAny (model X.prog X.w) A (call (.builtin "isinstance") [u,c]) Q E s:=by
 cases ty with
 |Sb=>cases (rx);exact Te W.kitx_none I.Li True.intro e (λz=>nomatch z) h
 |bl y=>cases (rx);exact Te W.kitx_bool I.Li True.intro e (λz=>nomatch z) h
 |int i=>obtain⟨t,q⟩:=(rx);cases q;exact Te W.kitx_int I.Li True.intro e (λz=>nomatch z) h
 |str y=>obtain⟨t,q⟩:=(rx);cases q;exact Te W.kitx_str I.Li True.intro e (λz=>nomatch z) h
 |vA y=>obtain⟨t,q⟩:=(rx);cases q;exact Te W.kitx_float I.Li True.intro e (λz=>nomatch z) h
 |@qa a xs d=>
  cases (rx);obtain⟨_,_,n,_,f⟩:=(I.pc a _ d)
  exact Te wZ I.Li ⟨_,f,rfl⟩ e (λz=>nomatch z) h
 |@Ic a G xs d=>
  cases (rx);obtain⟨_,_,_,n,_,f⟩:=(I.pc a _ d)
  exact Te wZ I.Li ⟨_,f,rfl⟩ e (λz=>nomatch z) h
 |@Sa a xs d=>
  cases (rx);obtain⟨_,_,_,p⟩:=(I.pc a _ d)
  obtain⟨o,f,g,_⟩:=p;exact Te W.kitx_tuple I.Li ⟨o,f,g⟩ e (λz=>nomatch z) h
 |@dK a k d=>
  cases (rx);obtain⟨_,_,M,_,p⟩:=(show Uj X.prog X.w H s.heap a _ from I.pc a _ d)
  obtain⟨o,m,l,f,g,_⟩:=p;exact Te av I.Li ⟨o,f,g.1⟩ e (λz=>nomatch z) h
 |@dT a k d=>
  cases (rx);obtain⟨_,_,xs,_,o,m,l,f,g,_⟩:=(I.pc a _ d)
  exact Te av I.Li ⟨o,f,g.1⟩ e (λz=>nomatch z) h
 |@ub a C B D d cl r v j hm=>
  cases (show u=Db a from rx);obtain⟨F,ϋ,_⟩:=YH I.pc d;obtain⟨L,ό,_⟩:=ϋ.look;exact Te (W.kitx_own (cl.get _) cl.hd r v j hm) I.Li ό e (λz=>nomatch z) h
end
structure ud(k:Nat)(A:Ia):Prop where
 hd:A.handled=ŋ
 dp:A.depth+3 * k+5<recursionLimit
 un:A.units+16 * k+200<cLine
def ud.mono(r:ud k A)(h:j<=k):ud j A:=⟨r.hd,by have:=r.dp;lia,by have:=r.un;lia⟩
def ud.deeper(r:ud (k+1) A) a:ud k$ A.deeper a:=
 ⟨r.hd,by have:=r.dp;show A.depth+1+3 * k+5<_;lia,by have:=r.un;show A.units+3+16 * k+200<_;lia⟩
def ud.in1(r:ud (k+1) A):ud k A.in1:=
 ⟨r.hd,by have:=r.dp;show A.depth+3 * k+5<_;lia,by have:=r.un;show A.units+1+16 * k+200<_;lia⟩
theorem M4{A:Ia}:(A.under$ .builtin "type.__call__" ⟨.ref C::b,a⟩).depth=A.depth+1:=by
 rfl
theorem ů{A:Ia}:(A.under$ .builtin "type.__call__" ⟨.ref C::b,a⟩).units=A.units+1:=by
 rfl
def ud.make(r:ud (k+1) A) C b a:ud k$ A.under$ .builtin "type.__call__" ⟨.ref C::b,a⟩:=
 ⟨r.hd,by have:=r.dp;rw[M4];lia,by have:=r.un;rw[ů];lia⟩
def ud.depth(r:ud k A):A.depth<recursionLimit:=by have:=r.dp;lia
noncomputable def t3:TA:=λa H Q=>Q [] H
noncomputable def þ(d:TE)(e:TA):TA:=λa H Q=>d a H λx b=>e a b λxs c=>Q (x::xs) c
section
variable{X:Cx}{e:Fa}{es:List Fa}{te:TE}{t:TA}{pos:Dd}
def Tu:PA X [] t3:=λa a a a H Q I h=>Calls.spliced_nil ⟨[],H,I,.nil,h⟩
def qq(g:PE X e te)(i:PA X es t)(j:(na (e::es) X.env=(į,Ib e X.env)::na es X.env)⁻¹):PA X (e::es)$ þ te t:=by
 intro pos a s b H Q I h;rw[j];show wpAny _ _ _ _ _ s;exact Calls.spliced_cons (Zc (g a s b H _ I h) λu s1 ⟨x,H1,d,m,k⟩=>(Zc (i pos a s1 b H1 _ d k) λus s2 ⟨xs,c,f,n,l⟩=>⟨x::xs,c,f,.cons m n,l⟩))
def Ċ(t:TA):TE:=λb H Q=>t b H λxs a=>xs.length<=sizeLine/\∀ p,a p=ŋ->Q (.ref p) (Qa a p$ .Sa xs)
def Â(t:TA):TE:=λb H Q=>t b H λxs a=>xs.length<=sizeLine/\∀ p,a p=ŋ->Q (.ref p) (Qa a p$ .qa xs)
def t6{x1}(h:PA X es t):PE X (.Tuple es x1 pos)$ Ċ t:=by
 intro a s g H Q I f;refine wpAny_Tuple_spliced (Zc (h pos a s g H _ I f) λus s1 ⟨xs,H1,c,r,z,q⟩=>⟨by rw[<-r.length];exact z,?_⟩);have d:=c.pc.fresh$ va _;refine⟨.ref s1.heap.objs.size,Qa H1 s1.heap.objs.size _,c.laid (λb u e=>ga _ e) (va _) ?_,rfl,q _ d⟩;exact⟨z,us,r,⟨_,Ea _ rfl,rfl,_,rfl⟩⟩
def MW(h:PA X es t):PE X (.List es pos)$ Â t:=by
 intro a s g H Q I f;refine wpAny_List_spliced (Zc (h pos a s g H _ I f) λus s1 ⟨xs,H1,c,r,z,q⟩=>⟨by rw[<-r.length];exact z,?_⟩);have d:H1 s1.heap.objs.size=ŋ:=c.pc.fresh$ va _;refine⟨.ref s1.heap.objs.size,Qa H1 s1.heap.objs.size _,c.laid (t':=s1.toks) (λb u e=>ga _ e) (va _) ?_,rfl,q _ d⟩;exact⟨z,us,0,r,Ea _ rfl⟩
end
abbrev Sp:=em->Hp->VK->XK->Prop
abbrev dw:=List xg->Hp->Shared->XK->Value->Shared->Prop
structure Gq(P:xa)(w:Na)(K:W.Frag)(mg:Str->Option Value)(base:Heap)(A:Ia)(outer:List xg)(s:Shared)(H:Hp):Prop where
 frames:A.frames=W1 outer
 mod:Mod K mg base
 bs:∀ b o,base.get? b=W1 o->s.heap.get? b=W1 o/\H b=ŋ
 Jv:base.objs.size<=s.heap.objs.size
 Hk:s.heap.FunFrames base outer
 sB:∀ b∈rk outer,H b=ŋ
 pc:Qh P w H s.heap
 bare:zh s.gens
def CE(a:List xg)(P:xa)(w:Na)(H:Hp)(s:Shared)(Q:VK)(u:Value)(b:Shared):Prop:=
 ∃ v c,b.os=s.os/\zh b.gens/\Un (rk a) [] H c s.heap b.heap/\Qh P w c b.heap/\Rc v u/\Q v c
def CR(c:dw)(a:List xg)(P:xa)(w:Na)(H:Hp)(s:Shared)(Q:VK)(E:XK)(r:Ho)(b:Shared):Prop:=
 match r with
 | .ok (.ret u)=>CE a P w H s Q u b
 | .ok _=>False
 | .error e=>c a H s E e b
structure oh(P:xa)(w:Na)(K:W.Frag)(mg:Str->Option Value)(base:Heap)(CX:dw)(k:Nat)(f:Addr)(fd:gf)(ps:ab)(sp:Sp):Prop where
 len:∀ vs H Q E,sp vs H Q E->vs.length=ps.length
 Xg:∀ (A:Ia) (outer:List xg) (s:Shared) (H:Hp) (args:Args) (us:b') (vs:em) (Q:VK) (E:XK),ud k A->Gq P w K mg base A outer s H->Se s fd args (ps.zip us)->ke vs us->sp vs H Q E->
  codeAny (model P w) A (.call (.ref f) args) (CR CX outer P w H s Q E) s
def oh.mono{K}(F:oh P w K g a d j f e ps i)(h:j<=k) :
  oh P w K g a d k f e ps i:=⟨F.len,λA b s H c m n Q E l=>F.Xg A b s H c m n Q E$ l.mono h⟩
def oh.imp{K}(F:oh P w K i base e k f g ps j)
  (h:∀ b H Q E,d b H Q E->j b H Q E):oh P w K i base e k f g ps d:=
 ⟨λb H Q E q=>F.len b H Q E$ h _ _ _ _ q,λA a s H c r b Q E n m l p o=>F.Xg A a s H c r b Q E n m l p$ h _ _ _ _ o⟩
def Gq.make{K}(e:Gq P w K c b A a s H) C f d :
  Gq P w K c b (A.under$ .builtin "type.__call__" ⟨.ref C::f,d⟩) a s H:=⟨by first|exact e.frames|(simpa using e.frames),e.mod,e.bs,e.Jv,e.Hk,e.sB,e.pc,e.bare⟩
section
variable{X:Cx}{pins:List$ Addr × Obj}{σ:St}{H:Hp}{s s':Shared}
def gb.UE(I:gb X pins σ H s):Gq X.prog X.w X.K X.mg X.base X.A X.stack s H:=
 ⟨I.ok.frames,I.ok.mod,I.bs,zb I.ok.Jv I.sz,I.stack,I.Hl,I.pc,I.bare⟩
def gb.after(I:gb X pins σ H s)(h:CE X.stack X.prog X.w H s Q u s'):EP X pins σ Q u s':=by
 obtain⟨v,f,i,a,j,c,r,q⟩:=h;obtain⟨k,g,d,t,e⟩:=s';obtain rfl:e=s.os:=i;exact⟨v,f,I.call j c a (λb z=>absurd z ⋯),r,q⟩
end
def wr(K:W.Frag)(c:gf)(b:ab)(a:b'):Prop:=
 ∀ s us,K.In s.heap->(us++a).length=b.length->Se s c ⟨us,[]⟩ (b.zip$ us++a)
def wr.all{K}(h:∀ a:b',a.length=ps.length->bindArgs b ⟨a,[]⟩=pure (ps.zip a)):wr K b ps []:=λs a d c=>by
 rw[be]at c ⊢;exact .of_eq$ h a c
section
variable{X:Cx}{CX:dw}{k:Nat}{f C:Addr}{fd:gf}{ps:ab}{sp:Sp}{dvs:em}{ds:b'}{E:XK}{x m:Str}{p pos apos:Dd}{e o:Fa}{es:List Fa}{ta:TE}{t:TA}
structure Mk(K:W.Frag)(C f:Addr):Prop where
 makes:W.makesIn K C=š
 init:W.findIn K (.ref C) "__init__" = W1 (W1 (.ref f))
 fn:W.isFn K (.ref f)=š
 kp:W.keepIn K (.ref C)=š
end
structure gc(N P:ab)(sc:Scope):Prop where
 kind:sc.kind=.function
 co:sc.isCoroutine=į
 gen:sc.isGenerator=į
 nd:N.Nodup
 pre:N.take P.length=P
 par:∀ x∈P,sc.names.lookup x=W1 .local\/sc.names.lookup x=W1 .cell
 kB:∀ y∈sc.names,y.2≠.free
theorem YY{b:Str->Option Ee}{x:Str}:∀ {a:List$ Str × Value} {m:Str->Option Value},(∀ v,(x,v) ∉ a)->zy b a m x=m x
 |[],_,_=>rfl
 |(n,v)::r,m,h=>by
  unfold zy;rw[YY λw c=>h w$ la _ c];split
  ·have:x≠n:=by rintro rfl;exact h v ua
   simp_all
  ·rfl
theorem gW{b:Str->Option Ee}{x:Str}:∀ {a:List$ Str × Value} {m:Str->Option Value},(∀ v,(x,v) ∉ a)->Xt b a m x=m x
 |[],_,_=>rfl
 |(n,v)::r,m,h=>by
  unfold Xt;rw[gW λw c=>h w$ la _ c];split
  ·rfl
  ·have:x≠n:=by rintro rfl;exact h v ua
   simp_all
theorem bR{a:Str->Option Ee}{x:Str}{v:Value}:∀ {P:ab} {b:b'} {i:Nat} {m:Str->Option Value},P.Nodup->P[i]?=W1 x->b[i]?=W1 v->a x=W1 .local->
  zy a (P.zip b) m x=W1 v
 |[],_,_,_,_,h,_,_=>by simp at h
 |_::_,[],_,_,_,_,h,_=>by simp at h
 |p::P,w::b,0,m,f,c,d,e=>by
  simp at c d;subst c;subst d;show zy a ((p,w)::P.zip b) m p=_;unfold zy;rw[YY λv g=>(rg.mp f).1 (Am g).1,ja e];simp
 |p::P,w::b,i+1,m,f,c,d,e=>by
  show zy a ((p,w)::P.zip b) m x=_;exact bR (rg.mp f).2 (by simpa using c) (by simpa using d) e
theorem lZ{a:Str->Option Ee}{x:Str}{v:Value}:∀ {P:ab} {b:b'} {i:Nat} {m:Str->Option Value},P.Nodup->P[i]?=W1 x->b[i]?=W1 v->a x≠W1 .local->
  Xt a (P.zip b) m x=W1 v
 |[],_,_,_,_,h,_,_=>by simp at h
 |_::_,[],_,_,_,_,h,_=>by simp at h
 |p::P,w::b,0,m,f,c,d,e=>by
  simp at c d;subst c;subst d;show Xt a ((p,w)::P.zip b) m p=_;unfold Xt;rw[gW λv g=>(rg.mp f).1 (Am g).1,ra e];simp
 |p::P,w::b,i+1,m,f,c,d,e=>by
  show Xt a _ m x=_;unfold Xt;exact lZ (i:=i) (rg.mp f).2 (by trivial) ⋯ e
noncomputable def Hx(N:ab)(a:em):St:=a.map W1++List.replicate (N.length - a.length) ŋ
noncomputable def Ap(g:dw)(P:xa)(w:Na)(K:W.Frag)(mg:Str->Option Value)(base:Heap)(N:ab)(b:Str)(a:Scope)(f:Addr)(d:Value)(A:Ia)(outer:List xg)(s:Shared)(H:Hp)(E:XK):Cx where
 prog:=P
 w:=w
 K:=K
 mg:=mg
 base:=base
 A:=A.deeper (dg b a s.heap.objs.size f d)
 N:=N
 s₀:=s
 H₀:=H
 env:=dg b a s.heap.objs.size f d
 outer:=outer
 stack:=dg b a s.heap.objs.size f d::outer
 ex:=[]
 Fd:=š
 fn:=λj=>š
 pn:=[]
 xe:=λe i=>wpAny (model P w) (A.deeper$ dg b a s.heap.objs.size f d) (leaving (dg b a s.heap.objs.size f d) e) (λj c=>g outer H s E e c) (λh c=>g outer H s E h c) i
def fW{sc:Scope}(h:sc.names.lookup x=W1 .cell):∃ c,(fH n sc.names []).lookup x=W1 c:=by
 exact ce.mp$ wB sc.names n []$ .inl h
def y8{K}
  (S:gc N ps a) (hd:A.handled=ŋ) (j:Gq P w K I base A d s H) (X:t.length=ps.length) (r:ke t ό)
  (x:InCallC s s.heap.objs.size (zy (dg g a s.heap.objs.size f D).kindOf (ps.zip ό) λJ=>ŋ) (fH (s.heap.objs.size+1) a.names []) (Xt (dg g a s.heap.objs.size f D).kindOf (ps.zip ό) λJ=>ŋ) s1) :
  gb (Ap L P w K I base N g a f D A d s H E) [] (Hx N t) H s1:=by
 have R:ps.length<=N.length:=by have:=eb List.length S.pre;rw[Tc]at this;lia
 obtain⟨F,tk,rfl,M⟩:=x.done;have o:∀ b:Addr,b ∉ (Ap L P w K I base N g a f D A d s H E).ex:=λb z=>absurd (show b∈([]:ac)from z) ⋯;refine⟨⟨j.mod,S.kind,rfl,rfl,va _,λy z c F l=>?_,λy m=>?_,λy c J h=>?_,λJ=>hd,Yp j.frames,.inr ⟨rfl,rfl⟩,λb z=>absurd z$ o b,j.bs,j.Jv,λb J J=>o b,λb z=>absurd z$ o b,j.Hk,j.sB⟩,
  rfl,j.bare,Un.kept M,⟨_,x.toInCall.ns,λi y v F l ϊ=>?_⟩,λy c h=>⟨_,x.cell y c h⟩,j.pc.fresh$ va _,λy c h=>?_,λp B=>absurd (show p∈([]:List _)from B) ⋯,j.pc.kept M,?_⟩
 ·exact name_of_addr x.apart (je F)$ je l
 ·have m:a.names.lookup y=W1 .cell\/a.names.lookup y=W1 .free:=m;rcases m with m|m
  ·exact fW m
  ·exact absurd rfl$ S.kB _$ je m
 ·exact zd$ x.above y c$ je h
 ·have G:i<t.length:=by
   unfold Hx at l;by_cases G:i<t.length
   ·exact G
   ·rw[Gb (by simpa using G)]at l;rw[Fp]at l;split at l<;>cases l
  have Q:t[i]?=W1 v:=by
   unfold Hx at l;rw[jb (by simpa using G),Ta]at l
   grind
  obtain⟨u,ϋ,T⟩:=r.get Q;have B:ps[i]?=W1 y:=by
   rw[<-S.pre,So ⋯];exact F
  have C:ps.Nodup:=by rw[<-S.pre];exact S.nd.sublist$ List.take_sublist _ _
  refine⟨u,T,?_⟩;rcases S.par y (ya B)with k|k
  ·exact .inl ⟨k,bR C B ϋ k⟩
  ·obtain⟨c,e⟩:=fW (n:=s.heap.objs.size+1) k;refine .inr ⟨.inl k,c,e,?_⟩;have q:=x.cell y c e
   rwa [lZ C B ϋ (by show a.names.lookup y≠_;rw[k];decide)]at q
 ·exact j.pc.fresh$ zd$ x.above y c$ je h
 ·unfold Hx;show _=N.length;rw[Kb,Ja,List.length_replicate]
  lia
def Z7{K:W.Frag}{dV kV C pm g ct oc}{an od} (lk:K.lookup f=W1 ⟨oc,od,.func$ W.fnOf l d h body a dV kV C pm an g ct,ϊ⟩) (ϋ:W.codeIn K g d=š) (S:gc N ps a)
  (G:∀ m H Q E,Z m H Q E->m.length=ps.length)
  (p:∀ A c s H m Q E,ud k (A.deeper$ dg d a s.heap.objs.size f g)->Z m H Q E->
   ∃ t,Uv (Ap L P w K M base N d a f g A c s H E) body t/\t { nx:=λJ j=>Q .Sb j,rt:=Q } (Hx N m) H) :
  oh P w K M base L (k+1) f (W.fnOf l d h body a dV kV C pm an g ct) ps Z:=by
 refine⟨G,λA c s H a0 us m Q E R D hb r F=>?_⟩;have KX:K.In s.heap:=D.mod.gx.keeps λb o e=>(D.bs b o e).1;have T:=D.mod.nolimit.keeps λb o e=>(D.bs b o e).1;have z:∀ y∈ps.zip us,a.names.lookup y.1=W1 .local\/(a.names.lookup y.1=W1 .cell/\((fH (s.heap.objs.size+1) a.names []).lookup y.1).isSome=š):=λ⟨n,v⟩ hy=>by
  rcases S.par n (Am hy).1 with q|q
  ·exact .inl q
  ·exact .inr ⟨q,wB _ _ _$ .inl q⟩
 refine codeAny_call_function R.depth (KX _ _ lk) rfl S.co S.gen rfl (W.codeRec_of KX ϋ)$ hb _ _ _ _ ?_;refine wpAny_newFunctionEnv_cells S.kind z λa1 he s1 x=>?_;subst he;refine⟨T.keeps x.toInCall.keep,codeAny_func ?_⟩;obtain⟨t,ht,hq⟩:=p A c s H m Q E (R.deeper _) F;have I:gb (Ap L P w K M base N d a f g A c s H E) [] (Hx N m) H s1:=y8 S R.hd D (G _ _ _ _ F) r x;refine ic (ht [] s1 _ H _ I hq) (λfl Y B=>?_) λe Y B=>B;have Mf:∀ {i:St} {j:Hp} {v:V} {u:Value},gb (Ap L P w K M base N d a f g A c s H E) [] i j Y->Rc v u->Q v j->CE c P w H s Q u Y:=
  fun {i j v u} ό X q=>⟨v,j,ό.os,ό.bare,ό.base,ό.pc,X,q⟩
 cases fl with
 |ret u=>
  obtain⟨v,i,j,ό,X,q⟩:=B;exact Mf ό X q
 |next=>
  obtain⟨i,j,ό,q⟩:=B;exact Mf (v:=V.Sb) (u:=Yb) ό rfl q
 |brk=>
  obtain⟨_,_,_,q⟩:=B;trivial
 |cont=>
  obtain⟨_,_,_,q⟩:=B;exact False.elim q
section
variable{X:Cx}{x:Str}{p pos:Dd}{e:Fa}{es:List Fa}{t:TA}{id T:String}{r:em->Hp->VK->Prop}
def yO(r:em->Hp->VK->Prop)(t:TA):TE:=λc H Q=>t c H λb a=>r b a Q
def rG(i:xn X (.builtin id) r)(k:Gl X x)(l:X.mg x=ŋ)(n:bootBuiltins x=W1 (.builtin id))(g:PA X (e::es) t)(m: ~~~(x ≠ "__name__"))(b: ~~~((x == ("__debug__" : Str))=į))
  (j:(na (e::es) X.env=(į,Ib e X.env)::na es X.env)⁻¹) (c:((Zb pos$ na es X.env).any (·.1)=į)⁻¹):PE X (.Call (.Name x p) (e::es) [] pos)$ yO r t:=by
 intro a s d H Q I h;exact Re$ Sy I k l n (bK (Zc (g pos a s d H _ I h) λus s1 ⟨u,H1,f,q,o⟩=>i a s1 d H1 u us Q f q o) j c) m b
def AM(i:xn X (.type T) r)(k:Gl X x)(l:X.mg x=ŋ)(n:bootBuiltins x=W1 (.type T))(g:PA X (e::es) t)(m: ~~~(x ≠ "__name__"))(b: ~~~((x == ("__debug__" : Str))=į))
  (j:(na (e::es) X.env=(į,Ib e X.env)::na es X.env)⁻¹) (c:((Zb pos$ na es X.env).any (·.1)=į)⁻¹):PE X (.Call (.Name x p) (e::es) [] pos)$ yO r t:=by
 intro a s d H Q I h;exact Re$ Sy I k l n (Yc (Zc (g pos a s d H _ I h) λus s1 ⟨u,H1,f,q,o⟩=>i a s1 d H1 u us Q f q o) j c) m b
end
end L2
namespace HT
section
open PySem.SeqAt
open PySem.AutoSeq1 (wpAny_loadPart')
open PySem.MeetsSeq PySem.MeetsSeq2 PySem.MeetsSeq3
end
section
variable{prog:xa}{w:Na}{A:Ia}{E:Value->Shared->Prop}{s:Shared}
def Yx(x:IsTup s.heap t d.toArray)(u:IsTup s.heap b a.toArray)(y:d≠[])
  (r:a=[]->Q (.ref t) s) (B:a≠[]->Q (.ref s.heap.objs.size) { s with heap:=s.heap.push { cls:=.type "tuple",data:=.seq (d++a).toArray } })
  (v:d.length+a.length<=sizeLine):wpAny (model prog w) A (De .Add (.ref t)$ .ref b) Q E s:=by
 obtain⟨⟨cls,m,data,q⟩,j,o,n,hd⟩:=id x;obtain⟨⟨l,f,k,i⟩,c,g,p,h⟩:=id u;simp only at o hd g h;subst o hd g h;have e:d.toArray++a.toArray=(d++a).toArray:=by simp
 by_cases z:a=[]
 ·exact bv ⟨_,j,rfl⟩ ⟨_,c,rfl⟩ Fo Xs Kh vh (eh _ _)
   (tuple_addW1 t b d.toArray a.toArray n p m f q i (by simpa using y)$ by grind) ⟨j,c,r z⟩
 ·refine bv ⟨_,j,rfl⟩ ⟨_,c,rfl⟩ Fo Xs Kh vh (eh _ _)
   (tuple_addW2 t b d.toArray a.toArray n p m f q i ⋯ ⋯$ by simp_all) ⟨j,c,?_⟩
  grind
noncomputable def Pf(n d:Nat):Option Int->Nat
 |none=>d
 |some v=>if v<0 then (v+(n:Int)).toNat else min v.toNat n
def yhy n d(hd:d<=n) o:Pf n d o<=n:=by
 cases o with
 |none=>exact hd
 |some v=>
  show (if v<0 then (v+(n:Int)).toNat else min v.toNat n)<=n;all_goals grind
def UV v(n d:Nat):(if v<0 then max (v+(n:Int)) 0 else min v n)=((Pf n d (W1 v):Nat):Int):=by
 show (if v<0 then max _ 0 else min v n)=(if v<0 then (v+n).toNat else min v.toNat n)
 grind
def V4 lo a(n:Nat):Oj lo a 1 n =(((Pf n 0 lo:Nat):Int),(Pf n n a:Int)):=by
 refine xZ ?_ ?_
 ·cases lo with
  |none=>rfl
  |some v=>exact UV v n 0
 ·cases a with
  |none=>rfl
  |some v=>exact UV v n n
def P5(i j:Nat):eg i j 1=j - i:=by
 unfold eg;have a:(1:Int) > 0:=by lia
 simp only[a];split<;>lia
def OX(p:ek v o)(h:Q o s):wpAny (model prog w) A (gH v) Q E s:=by
 cases p with
 |none=>exact bQ h
 |int i t=>exact slicePart_int h
def AV{lo c}{n:Nat}(g:s.heap.IsSliceOf d vl e .none)(pl:ek vl lo)(i:ek e c)
  (h:Q (((Pf n 0 lo:Nat):Int),1,Pf n n c - Pf n 0 lo) s):wpAny (model prog w) A (hH (.ref d)$ pure n) Q E s:=by
 obtain⟨j,b,f,a⟩:=id g;refine ba$ ba$ Zj b a rfl$ ba$ Zj b a rfl$ ba$ Zj b a rfl$ da$ ba$ bQ ?_;refine ba$ OX pl$ ba$ OX i$ ba$ da ?_;show wpAny _ _ (match Oj lo c 1 n with|(lo,c)=>pure (lo,_,eg lo c 1)) _ _ s;rw[V4 lo c n];show wpAny _ _ (pure _) _ _ s;rw[P5];exact da h
def ō(xs:Array Value)(i k:Nat):((List.range k).filterMap λ(m:Nat)=>xs[(i +(m:Int) * 1).toNat]?).toArray=((xs.toList.drop i).take k).toArray:=by
 have e:(λ(m:Nat)=>xs[(i+(m:Int) * 1).toNat]?)=λm=>xs[i+m]?:=by
  funext m;have:(i+(m:Int) * 1).toNat=i+m:=by lia
  rw[this]
 have:=pick_run xs i k;have a:((λx=>xs[x]?) ∘ λx=>i+x)=λm=>xs[i+m]?:=rfl
 simp_all
def qj{lo c}(d:IsTup s.heap t a)(k:s.heap.IsSliceOf j vl l .none)(pl:ek vl lo)(u:ek l c)
  (p:¬ (Pf a.size 0 lo=0/\Pf a.size a.size c=a.size))
  (h:Q (.ref s.heap.objs.size) { s with heap:=s.heap.push { cls:=.type "tuple",data:=.seq ((a.toList.drop$ Pf a.size 0 lo).take$ Pf a.size a.size c - Pf a.size 0 lo).toArray } })
  (o:a.size<=sizeLine):wpAny (model prog w) A (ai (.ref t)$ .ref j) Q E s:=by
 have b:sizeOk$ .seq ((a.toList.drop$ Pf a.size 0 lo).take$ Pf a.size a.size c - Pf a.size 0 lo).toArray:=by
  show ((a.toList.drop _).take _).toArray.size<=sizeLine;rw[Pa,Tc,Iw,Wb]
  lia
 have v:Pf a.size a.size c<=a.size:=yhy _ _ (va _) c;obtain⟨r,i,f,n⟩:=id k;have e:s.TypeIs (.ref j) "slice":=⟨r,i,f⟩
 unfold ai;try with_reducible refine Xb ?_
 first|refine ba$ da ?_|skip
 refine ba$ RD d.typeIs ⋯ ?_;refine ba$ Sf (name:=Ai "__getitem__") d.typeIs ec
  (gd ec d.typeIs Iz ?_$ xB _ _)
 show wpAny _ _ (Vf (.ref t) >>= _) _ _ s;refine ba$ yZ d ?_;refine ba$ gj e ?_;rw[ja ⋯];refine ba$ AV k pl u ?_;have g:¬ ((((Pf a.size 0 lo:Nat):Int) == 0 && (1:Int) == 1 && (Pf a.size a.size c - Pf a.size 0 lo) == a.size)=š):=by
  intro q;rw[Ca,Ca]at q;have x:((Pf a.size 0 lo:Nat):Int)=0:=eq_of_beq q.1.1;have y:Pf a.size a.size c - Pf a.size 0 lo=a.size:=eq_of_beq q.2;exact p ⟨by lia,by lia⟩
 show wpAny _ _ (if (((Pf a.size 0 lo:Nat):Int) == 0 && (1:Int) == 1 && (Pf a.size a.size c - Pf a.size 0 lo) == a.size)=š then _ else _) _ _ s;rw[ra g,ō];first
  |exact ba (m:=ng _) _
  |exact ba (m:=ng _)$ Nc (ba$ da$ da ⟨_,rfl,da h⟩) b
  |exact ba$ ba (m:=ng _)$ Nc (da$ da ⟨_,rfl,da h⟩) b
  |exact ba _
end
end HT
namespace L2
open Spec
abbrev TO:=St->Hp->(Option Int->Hp->Prop)->Prop
def PO(X:Cx)(e:Option Fa)(t:TO):Prop:=
 ∀ a s σ H Q,gb X a σ H s->t σ H Q->
  wpAny (model X.prog X.w) X.A (evalPart e X.env) (λu c=>∃ o b,gb X a σ b c/\ek u o/\Q o b) X.xe s
noncomputable def Ĺ:TO:=λa H Q=>Q ŋ H
noncomputable def v6(t:TE):TO:=λb H Q=>t b H λx a=>∃ i,x=.int i/\Q (W1 i) a
def GM:∀ {b},ke (a.map V.int) b->Fk b a:=by
 induction a with
 |nil=>intro b r;rw[Hg]at r;cases r;exact .nil
 |cons n a c=>
  intro b r;cases r with
  |cons d e=>
   obtain⟨t,rfl⟩:=d;exact .cons n t$ c e
section
variable{X:Cx}{e:Fa}{te:TE}{lo hi:Option Fa}{tl th:TO}{pos p2:Dd}
def P6:PO X ŋ Ĺ:=by
 intro a s b H Q I h;exact da ⟨ŋ,H,I,.none,h⟩
def T7(h:PE X e te):PO X (W1 e)$ v6 te:=by
 intro a s g H Q I c;refine Zc (h a s g H _ I c) λu s1 ſ=>?_;obtain⟨x,H1,b,f,d⟩:=ſ;obtain⟨i,rfl,q⟩:=d;obtain⟨t,rfl⟩:=f;exact⟨W1 i,H1,b,.int i t,q⟩
def Rv(X:Cx)(r:V->Option Int->Option Int->Hp->VK->Prop):Prop:=
 ∀ a s σ H x v vl c lo hi b Q,gb X a σ H s->Rc x v->s.heap.IsSliceOf b vl c .none->ek vl lo->ek c hi->r x lo hi H Q->
  ∃ T d,typeLookup (.type T) "__getitem__" = pure (W1$ .builtin d)/\s.TypeIs v T/\wpAny (model X.prog X.w) X.A (ai v$ .ref b) (EP X a σ Q) X.xe s
def Rv.or(h:Rv X r)(h':Rv X d):Rv X (λx lo hi H Q=>r x lo hi H Q\/d x lo hi H Q):=by
 intro a s g H x v vl f lo hi e Q I rx b pl c q;rcases q with q|q
 ·exact h a s g H x v vl f lo hi e Q I rx b pl c q
 ·exact h' a s g H x v vl f lo hi e Q I rx b pl c q
def n7(r:V->Option Int->Option Int->Hp->VK->Prop)(te:TE)(tl th:TO):TE:=λa H Q=>te a H λx b=>tl a b λl c=>th a c λu d=>r x l u d Q
theorem Ë(w:Rv X r)(o:PE X e te)(t:PO X lo tl)(z:PO X hi th):PE X (.Subscript e (.Slice lo hi ŋ p2) pos)$ n7 r te tl th:=by
 intro a s c H Q I h;refine yB (Zc (o a s c H _ I h) λv s1 ⟨x,H1,i,D,A⟩=>(wpAny_Slice$ Zc (t a s1 c H1 _ i A) λvl s2 ⟨l,g,j,pl,B⟩=>Zc (z a s2 c g _ j B) λd s3 ⟨u,f,k,pu,C⟩=>?_));refine da ?_;have m:gb X a c f { s3 with heap:=s3.heap.push { cls:=.type "slice",data:=.fields #[vl,d,.none] } }:=k.kept (t':=s3.toks) λb ob q=>ga _ q;obtain⟨T,E,n,y,p⟩:=w a { s3 with heap:=s3.heap.push { cls:=.type "slice",data:=.fields #[vl,d,.none] } } c f x v vl d l u s3.heap.objs.size Q m D (SD ..) pl pu C;exact tail_any y n p (by with_unfolding_all rfl)
def TB(xs:em)(lo hi:Option Int):em:=(xs.drop$ HT.Pf xs.length 0 lo).take$ HT.Pf xs.length xs.length hi - HT.Pf xs.length 0 lo
def rW xs lo hi:(TB xs lo hi).length<=xs.length:=by
 unfold TB;rw[Tc,Iw]
 lia
def aY(K:W.Frag):V->Option Int->Option Int->Hp->VK->Prop:=λx lo hi H Q=>∃ a xs,x=.ref a/\Yg K H a xs/\
 ¬ (HT.Pf xs.length 0 lo=0/\HT.Pf xs.length xs.length hi=xs.length)/\∀ p,H p=ŋ->Q (.ref p) (Qa H p$ .Sa$ TB xs lo hi)
def yia:Rv X$ aY X.K:=by
 rintro f s n H x v vl m lo hi l Q I rx g pl k ⟨a,xs,rfl,i,h,q⟩;cases rx;obtain⟨d,r,e,j⟩:=I.tuple i;have c:d.toArray.size=xs.length:=by rw[Pa];exact r.length.symm
 refine⟨"tuple",_,ec.lookup,e.typeIs,(HT.qj e g pl k (by rw[c];exact h) ?_$ by simp_all)⟩;rw[c];refine⟨.ref s.heap.objs.size,_,I.laid (λb ob q=>ga _ q) (va _) ?_,rfl,q _$ I.pc.fresh$ va _⟩;exact⟨zb (rW xs lo hi) j,_,(r.drop _).take _,IsTup.new _ _⟩
def Ħ(K:W.Frag):R2:=λx y H Q=>∃ a b xs c,x=.ref a/\y=.ref b/\Yg K H a xs/\Yg K H b c/\xs≠[]/\xs.length+c.length<=sizeLine/\
 (c=[]->Q (.ref a) H)/\(c≠[]->∀ p,H p=ŋ->Q (.ref p) (Qa H p$ .Sa$ xs++c))
def ke.wo(r:ke xs a):a=[] ↔ xs=[]:=by
 cases r with
 |nil=>simp
 |cons _ _=>simp
def t7:Ph X (De .Add)$ Ħ X.K:=by
 rintro g s r H x y v u Q I rx o ⟨a,b,xs,p,rfl,rfl,h,i,j,e,m,n⟩;cases rx;cases o;obtain⟨k,d,l,_⟩:=I.tuple h;obtain⟨f,c,p2,_⟩:=I.tuple i;refine HT.Yx l p2 (λz=>j$ d.wo.mp z) (λz=>⟨.ref a,H,I,rfl,m$ c.wo.mp z⟩) (λz=>⟨.ref s.heap.objs.size,_,I.laid (λb ob q=>ga _ q) (va _) ?_,rfl,n (λw=>z$ c.wo.mpr w) _$ I.pc.fresh$ va _⟩) (by rw[<-d.length,<-c.length];exact e);exact⟨by rw[Kb];exact e,_,d.append c,IsTup.new _ _⟩
end
noncomputable def ot(n:Nat)(i:Int):Option Nat:=if 0<=i then (if i<n then W1 i.toNat else ŋ)else if -(n:Int)<=i then W1 (i+n).toNat else ŋ
def rp{a:Type}(xs:List a)(i:Int):Option a:=(ot xs.length i).bind λj=>xs[j]?
def rY(h:ot n i=W1 j):seqIndex? i n=W1 j/\j<n/\- n <=i/\i<n:=by
 unfold ot at h;by_cases b:0<=i
 ·rw[ja b]at h;by_cases a:i<n
  ·rw[ja a]at h;have e:i.toNat=j:=Cb h;exact⟨by rw[sy b a,e],by lia,by lia,a⟩
  ·rw[ra a]at h;cases h
 ·rw[ra b]at h;by_cases a:-(n:Int)<=i
  ·rw[ja a]at h;have e:(i+n).toNat=j:=Cb h;exact⟨by rw[ev ⋯ a,e],by lia,a,by lia⟩
  all_goals grind
def yU{xs}{v:a}(h:rp xs i=W1 v):∃ j,seqIndex? i xs.length=W1 j/\xs[j]?=W1 v/\j<xs.length/\-(xs.length:Int)<=i/\i<xs.length:=by
 unfold rp at h;cases e:ot xs.length i with
 |none=>simp_all
 |some j=>
  rw[e]at h;obtain⟨b,c,d,f⟩:=rY e;exact⟨j,b,h,c,d,f⟩
def kq{xs}{j:Nat}{v:a}(h:xs[j]?=W1 v):rp xs j =W1 v:=by
 have b:=(aa.mp h).1;have e:ot xs.length j=W1 j:=by
  unfold ot
  simp_all
 unfold rp;rw[e];exact h
def UY(b:Fa):Prop:=∀ o i,Xo b į o i=operate [o,i] (ai o i)
def Zw(X:Cx)(r:R2):Prop:=
 ∀ b a pins s σ H x y v u Q,gb X pins σ H s->Rc x v->Rc y u->r x y H Q->
  Xo a į v u=operate [v,u] (ai v u)->wpAny (model X.prog X.w) X.A (RZ b a v u) (EP X pins σ Q) X.xe s
def Lx(X:Cx)(b:String)(r:V->em->Hp->VK->Prop):Prop:=
 ∀ a s σ H x xs v us Q,gb X a σ H s->Rc x v->ke xs us->r x xs H Q->
  wpAny (model X.prog X.w) X.A (call (.builtin b)$ v::us) (EP X a σ Q) X.xe s
section
variable{X:Cx}{a b:Fa}{ta tb:TE}{pos:Dd}
def Zw.or(h:Zw X r)(h':Zw X e):Zw X (λx y H Q=>r x y H Q\/e x y H Q):=by
 intro b a c s g H x y v u Q I rx f q d;rcases q with q|q
 ·exact h b a c s g H x y v u Q I rx f q d
 ·exact h' b a c s g H x y v u Q I rx f q d
def ê(i:Zw X r)(f:PE X a ta)(g:PE X b tb)(j:UY b):PE X (.Subscript a b pos)$ yD r ta tb:=by
 intro c s l H Q I h;exact yB (oO f g I h λv u s2 x y d e rx k q=>i a b c s2 l d x y v u Q e rx k q$ j _ _)
noncomputable def GO(K:W.Frag):R2:=λx y H Q=>∃ p xs i v,x=.ref p/\y=.int i/\Xe K H p xs/\rp xs i=W1 v/\Q v H
noncomputable def sN(K:W.Frag):R2:=λx y H Q=>∃ p xs i v,x=.ref p/\y=.int i/\Yg K H p xs/\rp xs i=W1 v/\Q v H
def zuw:Zw X$ GO X.K:=by
 intro f e a s m H x y v u Q I rx F h l;obtain⟨p,xs,i,z,rfl,rfl,E,C,q⟩:=h;cases rx;obtain⟨t,rfl⟩:=F;obtain⟨c,r,pl,M⟩:=I.list E;obtain⟨j,b,o,ό,A,B⟩:=yU C;obtain⟨w,n,d⟩:=r.get o;have D:=r.length;have L:=zJ;have Mf:EP X a m Q w s:=⟨z,H,I,d,q⟩
 by_cases g:0<=i
 ·have k:i.toNat=j:=by
   rw[sy g B]at b;exact Cb b
  exact item_listR pl.isList g ⋯ (by rw[k];simpa using n) Mf l
 ·have k:(i+(c.toArray.size:Int)).toNat=j:=by
   rw[ev ⋯ A]at b;rw[Pa,<-D];exact Cb b
  exact iv (x:=w) pl.isList.typeIs UD.lookup
   (wpAny_getItem_list_neg (Q:=λr G=>r=w/\EP X a m Q r G) pl.isList ⋯ ⋯ ⋯ ⋯ ⟨rfl,Mf⟩) l
def k6:Zw X$ sN X.K:=by
 intro d c a s o H x y v u Q I rx n h l;obtain⟨p,xs,i,z,rfl,rfl,k,g,q⟩:=h;cases rx;obtain⟨t,rfl⟩:=n;obtain⟨m,r,pl,F⟩:=I.tuple k;obtain⟨j,e,f,B,C,D⟩:=yU g;obtain⟨w,A,b⟩:=r.get f;have E:=zJ;have Mf:EP X a o Q w s:=⟨z,H,I,b,q⟩
 exact iv pl.typeIs slot_tuple_getitem.lookup
  (getItem_tuple pl ⋯ ⋯ (by rw[Pa,<-r.length];exact e) ⋯ ⟨rfl,Mf⟩) l
def ŵ(a:b') n j u:Fe (·.setIfInBounds j u) { cls:=.type "list",data:=.seq a.toArray n }={ cls:=.type "list",data:=.seq (a.set j u).toArray n }:=by
 simp[Fe]
def gb.qa{b}{c}{H}{s}{p}{xs}(I:gb X b c H s)(h:H p=W1 (.qa xs)) :
  ∃ (a:b') (n:Nat),ke xs a/\s.heap.get? p=W1 { cls:=.type "list",data:=.seq a.toArray n }/\xs.length<=sizeLine:=by
 obtain⟨z,a,n,r,e⟩:=I.pc p _ h;exact⟨a,n,r,e,z⟩
def gb.cA{a}{c its':b'}(I:gb X a j H s)(h:H p=W1 (.qa xs))
  (l:s.heap.get? p=W1 { cls:=.type "list",data:=.seq c.toArray n }) (i:f { cls:=.type "list",data:=.seq c.toArray n }={ cls:=.type "list",data:=.seq its'.toArray d }) (r:ke g its') (m:g.length<=sizeLine) t :
  gb X a j (Qa H p$ .qa g) { s with heap:=s.heap.update p f,toks:=t }:=by
 have e:(s.heap.update p f).get? p=W1 { cls:=.type "list",data:=.seq its'.toArray d }:=by
  rw[Gd f l (by rw[i]<;>rfl),i]
 refine I.write (by rw[h];trivial) (.inl rfl) (λb u k q=>(Ae _ _$ Cd k).trans q) ⟨_,e⟩ ?_;exact⟨m,its',d,r,e⟩
def ó:V->V->V->Hp->(Hp->Prop)->Prop:=λo i v H Q=>∃ p xs k j,o=.ref p/\i=.int k/\H p=W1 (.qa xs)/\ot xs.length k=W1 j/\Q (Qa H p$ .qa$ xs.set j v)
def o6:GN X ó:=by
 rintro h s G H o i v F E u Q I y x z ⟨p,xs,k,j,rfl,rfl,g,w,q⟩;cases y;obtain⟨t,rfl⟩:=x;obtain⟨a,n,r,c,D⟩:=I.qa g;obtain⟨f,A,l,m⟩:=rY w;have B:=r.length;have C:=zJ;have d:=
  I.cA g c (ŵ a n j u) (r.set z j) ⋯ s.toks
 by_cases e:0<=k
 ·have b:k.toNat=j:=by
   rw[sy e m]at f
   simp_all
  exact W.ki_setAt c e ⋯ ⋯ (by rw[b];exact⟨_,d,q⟩)
 ·have b:(k+a.toArray.size).toNat=j:=by
   rw[ev ⋯ l]at f
   simp_all
  exact W.ki_setBack c ⋯ ⋯ ⋯ (by rw[b];exact⟨_,d,q⟩)
def Y7 lo a n:(fk lo a ŋ n).1=((HT.Pf n 0 lo:Nat):Int)/\(fk lo a ŋ n).2.1=((HT.Pf n n a:Nat):Int)/\(fk lo a ŋ n).2.2=1:=by
 refine⟨?_,?_,rfl⟩
 ·cases lo with
  |none=>rfl
  |some i=>
   simp only[fk,HT.Pf,Option.getD_none,show (1:Int) > 0 by decide,sg];by_cases h:i<0
   ·simp only[h,sg]<;>lia
   ·simp only[h,oj]<;>lia
 ·cases a with
  |none=>trivial
  |some i=>
   simp[fk,HT.Pf,show 1 > 0 by decide,sg];by_cases h:i<0
   ·simp only[h,sg]<;>lia
   ·simp only[h,oj]<;>lia
theorem υ(a:b') lo b:slicePick a.toArray lo b ŋ=((a.drop$ HT.Pf a.length 0 lo).take$ HT.Pf a.length a.length b - HT.Pf a.length 0 lo).toArray:=by
 obtain⟨c,d,e⟩:=Y7 lo b a.toArray.size;unfold slicePick;rw[c,d,e];simp only[sliceRange_one,pick_run]<;>rfl
def bX(K:W.Frag):V->Option Int->Option Int->Hp->VK->Prop:=λx lo b H Q=>∃ a xs,x=.ref a/\Xe K H a xs/\∀ p,H p=ŋ->Q (.ref p) (Qa H p$ .qa$ TB xs lo b)
def F1:Rv X$ bX X.K:=by
 rintro e s n H x v vl m lo f l Q I rx g pl k ⟨a,xs,rfl,h,q⟩;cases rx;obtain⟨j,r,d,i⟩:=I.list h;have c:=r.length;refine⟨"list",_,UD.lookup,d.isList.typeIs,(wpAny_getItem_list_slice d.isList g pl k .none ⋯ ?_$ by simp_all)⟩;rw[υ,<-c];refine⟨.ref s.heap.objs.size,_,I.laid (λb ob q=>ga _ q) (va _) ?_,rfl,q _$ I.pc.fresh$ va _⟩;exact⟨zb (rW xs lo f) i,_,0,(r.drop _).take _,Ea _ rfl⟩
noncomputable def xo:V->Bool
 | .Sb=>š
 | .bl _=>š
 | .int _=>š
 | .str _=>š
 |_=>į
noncomputable def uq:V->V->Bool
 | .Sb,.Sb=>š
 | .bl a,.bl b=>a == b
 | .bl a,.int b=>(if a then 1 else 0) == b
 | .int a,.bl b=>a == (if b then 1 else 0)
 | .int a,.int b=>a == b
 | .str a,.str b=>a == b
 |_,_=>į
def rO(e:Rc y u)(rx:Rc x v)(f:xo y=š)(d:xo x=š):Dc A s u v$ uq y x:=by
 cases y with
 |Sb=>
  cases e;cases x with
  |Sb=>cases rx;exact Mj _
  |bl b=>cases rx;exact zZ b
  |int b=>obtain⟨t,rfl⟩:=rx;exact AZ b t
  |str b=>obtain⟨t,rfl⟩:=rx;exact BZ b t
  |_=>exact absurd (show į=š from d) yb
 |bl a=>
  cases e;cases x with
  |Sb=>cases rx;exact CZ a
  |bl b=>cases rx;exact DZ a b
  |int b=>obtain⟨t,rfl⟩:=rx;exact EZ a b t
  |str b=>obtain⟨t,rfl⟩:=rx;exact FZ a b t
  |_=>exact absurd (show į=š from d) yb
 |int a=>
  obtain⟨c,rfl⟩:=e;cases x with
  |Sb=>cases rx;exact GZ a c
  |bl b=>cases rx;exact HZ a c b
  |int b=>obtain⟨t,rfl⟩:=rx;exact IZ a c b t
  |str b=>obtain⟨t,rfl⟩:=rx;exact Qo a c b t
  |_=>exact absurd (show į=š from d) yb
 |str a=>
  obtain⟨c,rfl⟩:=e;cases x with
  |Sb=>cases rx;exact JZ a c
  |bl b=>cases rx;exact KZ a c b
  |int b=>obtain⟨t,rfl⟩:=rx;exact Ro a c b t
  |str b=>obtain⟨t,rfl⟩:=rx;exact LZ a c b t
  |_=>exact absurd (show į=š from d) yb
 |_=>exact absurd (show į=š from f) yb
def FF(x:V)(u:Value):Bool:=match u with
 | .none=>uq .Sb x
 | .bool b=>uq (.bl b) x
 | .int i _=>uq (.int i) x
 | .str z _=>uq (.str z) x
 |_=>į
def GW(r:Rc y u)(f:xo y=š):FF x u=uq y x:=by
 cases y with
 |Sb=>cases r;rfl
 |bl b=>cases r;rfl
 |int i=>obtain⟨t,rfl⟩:=r;rfl
 |str z=>obtain⟨t,rfl⟩:=r;rfl
 |_=>trivial
theorem qL{x:V}:∀ {xs:em} {us:b'},ke xs us->xs.all xo=š->us.any (FF x)=xs.any λy=>uq y x
 |_,_,.nil,_=>rfl
 |y::xs,u::us,.cons r t,f=>by
  rw[jf,Ca]at f;rw[kf,kf,GW r f.1,qL t f.2]
theorem GL{A:Ia}{s:Shared}{x:V}{v:Value}(rx:Rc x v)(b:xo x=š):∀ {xs:em} {us:b'},ke xs us->xs.all xo=š->∀ u∈us,Dc A s u v (FF x u)
 |_,_,.nil,_=>λu a=>by cases a
 |y::xs,u::us,.cons r t,f=>λc a=>by
  rw[jf,Ca]at f;rcases La.mp a with rfl|a
  ·rw[GW r f.1];exact rO r rx f.1 b
  ·exact GL rx b t f.2 c a
def KC(x:V)(xs:em):Bool:=xs.any λy=>uq y x
def ML(K:W.Frag)(a:Bool):R2:=λx y H Q=>∃ p xs,y=.ref p/\(Xe K H p xs\/Yg K H p xs)/\xo x=š/\xs.all xo=š/\Q (.bl$ if a then !KC x xs else KC x xs) H
def IN:Ph X (Nb .In)$ ML X.K į:=by
 rintro f s i H x y v u Q I rx h ⟨p,xs,rfl,b,d,c,q⟩;cases h;rcases b with b|b
 ·obtain⟨a,r,pl,g⟩:=I.list b;refine Jw _ pl.isList (λw e=>GL rx d r c w (by simpa using e)) ⟨.bl _,H,I,rfl,?_⟩;rw[show a.toArray.any _=a.any (FF x) by simp,qL r c];exact q
 ·obtain⟨a,r,pl,g⟩:=I.tuple b;refine jv _ pl (λw e=>GL rx d r c w ⋯) ⟨.bl _,H,I,rfl,?_⟩;rw[show a.toArray.any _=a.any (FF x) by simp,qL r c];exact q
def x5:xn X (.builtin "len") (λxs H Q=>∃ p b,xs=[.ref p]/\(Xe X.K H p b\/Yg X.K H p b)/\Q (.int b.length) H):=by
 rintro f s j H xs i Q I r ⟨p,b,rfl,c,q⟩;obtain⟨u,rfl,rfl⟩:=Nt r;have h:=zJ;rcases c with c|c
 ·obtain⟨d,e,pl,g⟩:=I.list c;have a:=e.length;exact Calls.call_len_list pl.isList (by simp only[Pa]<;>lia) ⟨.int b.length,H,I.tok _,⟨s.toks+1,by rw[Pa,a]⟩,q⟩
 ·obtain⟨d,e,pl,g⟩:=I.tuple c;have a:=e.length;exact len_tuple pl (by simp only[Pa]<;>lia) ⟨.int b.length,H,I.tok _,⟨s.toks+1,by rw[Pa,a]⟩,q⟩
def ş:xn X (.type "list") (λxs H Q=>∃ p f,xs=[.ref p]/\(Xe X.K H p f\/Yg X.K H p f)/\∀ l,H l=ŋ->Q (.ref l) (Qa H l$ .qa f)):=by
 rintro k s x H xs y Q I r ⟨p,f,rfl,h,q⟩;obtain⟨u,rfl,rfl⟩:=Nt r;have Mf:∀ (a:b'),ke f a->f.length<=sizeLine->∀ (h':Heap) c,(∀ b v,s.heap.get? b=W1 v->h'.get? b=W1 v)->
   h'.get? s.heap.objs.size=W1 { cls:=.type "list",dict:=ŋ,data:=.seq a.toArray c,slots:=#[] }->EP X k x Q _ { s with heap:=h' }:=λa d i h' c j e=>
  ⟨.ref s.heap.objs.size,_,I.laid (t':=s.toks) j (va _) (show Uj X.prog X.w _ h' _ (.qa f)from⟨i,a,c,d,e⟩),rfl,q _$ I.pc.fresh$ va _⟩
 rcases h with h|h
 ·obtain⟨a,d,pl,i⟩:=I.list h;have g:=d.length;obtain⟨o,t,m,n,hd⟩:=pl.isList;exact MZ p (.inl rfl) t m hd (λh' c j e=>Mf a d i h' c j e) (by simp<;>lia)
 ·obtain⟨a,d,pl,i⟩:=I.tuple h;have g:=d.length;obtain⟨o,t,m,n,hd⟩:=pl;exact MZ p (.inr rfl) t m hd (λh' c j e=>Mf a d i h' c j e) (by simp<;>lia)
def RS(K:W.Frag)(T:String)(x:V)(H:Hp):Prop:=match x with
 | .str _=>T = "str"
 | .int _=>T = "int"
 | .ref p=>(T = "list"/\∃ xs,Xe K H p xs)\/(T = "tuple"/\∃ o,K.lookup p=W1 o/\o.cls=.type "tuple"/\o.dict=ŋ)\/
   (T = "dict"/\((∃ a,H p=W1 (.dK a))\/∃ a,H p=W1 (.dT a)))\/(T = "set"/\∃ S n,H p=W1 (.set S n))
 |_=>False
def δ(I:gb X d l H s)(r:Rc x v)(ty:RS X.K T x H) :
  s.TypeIs v T/\∀ a,v=.ref a->∃ ob,s.heap.get? a=W1 ob/\ob.dict=ŋ:=by
 cases x with
 |str z=>
  obtain⟨t,rfl⟩:=r;cases (show T = "str" from ty);exact⟨typeIs_str s z t,λm e=>nomatch e⟩
 |int i=>
  obtain⟨t,rfl⟩:=r;cases (show T = "int" from ty);exact⟨typeIs_int s i t,λm e=>nomatch e⟩
 |ref p=>
  cases r;rcases ty with⟨rfl,xs,j⟩|⟨rfl,o,b,h,hd⟩|⟨rfl,b⟩|⟨rfl,S,n,b⟩
  ·obtain⟨k,_,pl,_⟩:=I.list j;refine⟨pl.isList.typeIs,λa e=>?_⟩;cases e;obtain⟨o,n,e,c,hd,_⟩:=pl;exact⟨o,e,hd⟩
  ·refine⟨⟨o,I.Li p o b,h⟩,λa e=>?_⟩;cases e;exact⟨o,I.Li _ o b,hd⟩
  ·have z:∃ o,s.heap.get? p=W1 o/\o.ExactDict:=by
    rcases b with⟨g,b⟩|⟨g,b⟩
    ·obtain⟨_,_,_,_,o,_,_,e,ex,_⟩:=I.pc p _ b;exact⟨o,e,ex⟩
    ·obtain⟨_,_,_,_,o,_,_,e,ex,_⟩:=I.pc p _ b
     simp_all
   obtain⟨o,e,ex⟩:=z;refine⟨⟨o,e,ex.1⟩,λa f=>?_⟩;cases f;exact⟨o,e,ex.2.1⟩
  ·obtain⟨o,_,_,_,e,ex,_⟩:=I.pc p _ b;refine⟨⟨o,e,ex.1⟩,λa f=>?_⟩;cases f;exact⟨o,e,ex.2.1⟩
 |_=>exact False.elim ty
def Ň(K:W.Frag)(T:String)(r:V->em->Hp->VK->Prop)(d:TE)(t:TA):TE:=λb H Q=>d b H λx a=>RS K T x a/\t b a λxs c=>r x xs c Q
variable{o e:Fa}{es:List Fa}{to:TE}{t:TA}{name:Str}{apos cpos:Dd}{T id:String}{r:V->em->Hp->VK->Prop}
def Ĥ(B:qm T)(g:mQ T name id)(i:HB (.builtin id)=pure (.type "method_descriptor"))(y:Lx X id r)(z:PE X o to)(w:PA X (e::es) t)
  (c:(Lc o name X.env (Ib o X.env)=Ib o X.env)⁻¹)
  (f:(((Zb cpos$ na (e::es) X.env).all (λx=>!x.1) && (Ng cpos$ Me [] X.env).all (λx=>x.1.isSome)
   && decide ((e::es).length+([]:List kj).length+(if ([]:List kj).isEmpty then 0 else 1)<30))=š)⁻¹)
  (d:((apos.endLine == cpos.line)=š)⁻¹) (A:(na (e::es) X.env=(į,Ib e X.env)::na es X.env)⁻¹) (b:((Zb cpos$ na es X.env).any (·.1)=į)⁻¹) :
  PE X (.Call (.Attribute o name apos) (e::es) [] cpos)$ Ň X.K T r to t:=by
 intro a s j H Q I h;refine mv c f d rfl (Zc (z a s j H _ I h) λv s1 ſ=>?_);obtain⟨x,H1,k,m,ty,C⟩:=ſ;obtain⟨q,u⟩:=δ k m ty;refine⟨T,id,B,g,i,q,u,?_⟩;have l:=w cpos a s1 j H1 _ k C;rw[A]at l ⊢;exact Vh (by show (į || (Zb cpos$ na es X.env).any (·.1))=į;rw[b]<;>rfl)$ Oq (Zc l λus s2 ⟨F,n,p,E,D⟩=>y a s2 j n x F v us Q p m E D)
end
def GU(X:Cx)(b:String)(r:V->em->Hp->VK->Prop):Prop:=
 ∀ a s σ H x xs v us Q,gb X a σ H s->Rc x v->ke xs us->r x xs H Q->
  wpAny (model X.prog X.w) X.A (call (.builtin b)$ v::us) (EP X a σ Q) X.xe s
theorem ke.one{x:V}{us}(h:ke [x] us):∃ u,us=[u]/\Rc x u:=by
 cases h with|cons r h=>cases h;exact⟨_,rfl,r⟩
theorem ke.two{x y:V}{us}(h:ke [x,y] us):∃ u v,us=[u,v]/\Rc x u/\Rc y v:=by
 cases h with|cons r h=>cases h with|cons q h=>cases h;exact⟨_,_,rfl,r,q⟩
section
variable{X:Cx}{pins:List$ Addr × Obj}{σ:St}{H:Hp}{s:Shared}{l b:Addr}{xs ys zs:em}
def gb.VE{a its':b'}(I:gb X pins σ H s)(b:H l=W1 (.qa xs))
  (e:s.heap.get? l=W1 { cls:=.type "list",data:=.seq a.toArray n }) (d:f a.toArray=its'.toArray) (h:ke ys its') (i:ys.length<=sizeLine) :
  gb X pins σ (Qa H l$ .qa ys) { s with heap:=s.heap.update l (Fe f),toks:=t' }:=by
 have q:=zaA e f;rw[d]at q;refine I.write (by rw[b];exact trivial) (.inl rfl) (λj u c g=>(Ae s.heap _$ Cd c).trans g) ⟨_,q⟩ ?_;exact⟨i,its',_,h,q⟩
def gb.Xz(I:gb X pins σ H s)(b:ke ys a)(c:ys.length<=sizeLine) :
  gb X pins σ (Qa H s.heap.objs.size$ .qa ys) { s with heap:=s.heap.push { cls:=.type "list",data:=.seq a.toArray },toks:=t' }:=
 I.laid (λd d q=>ga _ q) (va _) ⟨c,a,0,b,Ea _ rfl⟩
def gb.fresh(I:gb X pins σ H s):H s.heap.objs.size=ŋ:=I.pc.fresh$ va _
def gb.ku(I:gb X pins σ H s)(b:H l=W1 (.qa xs)):xs.length<=sizeLine/\∃ (a:b') (n:Nat),ke xs a/\xs.length=a.length/\s.heap.get? l=W1 { cls:=.type "list",data:=.seq a.toArray n }:=by
 obtain⟨z,a,n,r,e⟩:=I.pc l _ b;exact⟨z,a,n,r,r.length,e⟩
def Υ(h:n<=sizeLine):yg n=į:=by
 unfold yg
 simp_all
end
section
variable{X:Cx}
def ZP:V->em->Hp->VK->Prop:=λx a H Q=>∃ l xs y,x=.ref l/\a=[y]/\H l=W1 (.qa xs)/\xs.length<sizeLine/\Q .Sb (Qa H l$ .qa$ xs++[y])
def uO:GU X "list.append" ZP:=by
 rintro c s k H x j v i Q I rx f ⟨l,xs,y,rfl,rfl,b,h,q⟩;cases rx;obtain⟨u,rfl,d⟩:=f.one;obtain⟨z,a,n,r,g,e⟩:=I.ku b;refine call_meets F.slot_list_append ⟨_,e,rfl⟩ F.entry_list_append (F.args_list_append_2 _ _) (PySem.list_append l a.toArray n u$ by simp_all) ⟨e,⟨.Sb,_,I.VE b e ⋯ (r.append$ .cons d .nil) ?_,rfl,q⟩⟩;rw[Kb,List.length_singleton]
 lia
def cR:V->em->Hp->VK->Prop:=λx c H Q=>∃ l b xs a,x=.ref l/\c=[.ref b]/\H l=W1 (.qa xs)/\H b=W1 (.qa a)/\xs.length+a.length<=sizeLine/\Q .Sb (Qa H l$ .qa$ xs++a)
def Á:GU X "list.extend" cR:=by
 intro i s E H x B v A Q I rx t h;obtain⟨l,b,xs,D,rfl,rfl,g,k,y,q⟩:=h;cases rx;obtain⟨u,rfl,rfl⟩:=t.one;obtain⟨z,c,n,r,w,e⟩:=I.ku g;obtain⟨C,a,o,p,m,j⟩:=I.ku k;have f:c.toArray.size+a.toArray.size<=sizeLine:=by rw[Pa,Pa];lia
 have d:¬ (!c.toArray.isEmpty && yg (c.toArray.size+a.toArray.size))=š:=by
  rw[Υ f,Jn];exact yb
 refine call_meets F.slot_list_extend ⟨_,e,rfl⟩ F.entry_list_extend (F.args_list_extend_2 _ _)
  (AutoSeq1.list_extend_list_list_0 l c.toArray n b a.toArray o d (by rw[Pa];lia)$ by lia) ⟨e,j,?_⟩
 refine⟨.Sb,_,I.VE (its':=c++a) g e ⋯ (r.append p) ?_,rfl,q⟩;rw[Kb]
 lia
def Ő:R2:=λx y H Q=>∃ l b xs a,x=.ref l/\y=.ref b/\H l=W1 (.qa xs)/\H b=W1 (.qa a)/\xs.length+a.length<=sizeLine/\∀ p,H p=ŋ->Q (.ref p) (Qa H p$ .qa$ xs++a)
def UT:Ph X (De .Add) Ő:=by
 rintro d s B H x y v u Q I rx m ⟨l,b,xs,A,rfl,rfl,i,h,p,q⟩;cases rx;cases m;obtain⟨z,c,n,r,o,e⟩:=I.ku i;obtain⟨w,a,t,k,j,f⟩:=I.ku h;refine PySem.P.add_list e f ?_ ⋯;have g:c.toArray++a.toArray=(c++a).toArray:=by simp
 rw[g];exact⟨.ref _,_,I.Xz (r.append k) ⋯,rfl,q _ I.fresh⟩
end
section
variable{prog:xa}{w:Na}{A:Ia}{E:Value->Shared->Prop}{s:Shared}
set_option maxRecDepth 100000 in
end
end L2
namespace Att
open W Calls
def Q4:∀ c d,WellAll P h d (c.map nK)->Fk d c:=by
 intro c;induction c with
 |nil=>
  intro d w;cases w;exact .nil
 |cons n c e=>
  intro d w;cases w with
  |cons a b=>
   cases a;exact .cons _ _$ e _ b
def zjf{l:OpenLaw}(x:l.most=W1 n)
  (b:l.row.toRowW.claim.pre args=š) (j:WellAll P h e args) :
  ∃ a m c,e=[Db a]/\args=[WData.list$ c.map nK]/\h.get? a=W1 { cls:=.type "list",data:=.seq m.toArray }/\Fk m c/\c.length<=n:=by
 have i:WShape.hasAll [] args [.list .int]=š:=(pre_splitW b).1;have s:l.pre.holds [] { args:=args }=š:=(pre_splitW b).2;obtain⟨d,r,rfl,o,p⟩:=hasAllW_cons i;obtain rfl:=hasAllW_nil p;obtain⟨xs,rfl,q⟩:=hasW_list o;obtain⟨c,rfl⟩:=items_int q;have g:c.length<=n:=by
  have k:(WTm.not$ .lt (.lit$ .int (n:Int))$ .len$ .arg 0).holds [] { args:=[.list$ c.map .int] }=š:=by
   have k:=(holds_andW s).1
   grind
  have w:=condW_of k$ w_not$ w_lt w_lit$ w_len_list$ w_arg rfl
  grind
 cases j with
 |cons u v=>
  cases v;cases u with
  |list t f=>exact⟨_,_,c,rfl,rfl,t,Q4 c _ f,g⟩
theorem ă(l:OpenLaw) a:l.row.toRowW.claim.post a (.bool š) a=š:=
 postW_of
  (show WShape.has [] (.bool š) .bool=š by first|rfl|decide|simp)
  (w_eq_bool (w_res rfl) w_lit) rfl
def Yo{l:OpenLaw}
  (Q:l.most=W1 n) (y:d.params.defaults=[])
  (j:∀ w e b t B fa o pm s g a i u,
   Ground q c [] C w e t B b.heap->D w b.heap->
   b.heap.get? fa=W1 o->o.data=.func (docDef d.name d.params d.body d.scope pm s g)->b.heap.CodeRec s d.name->t d.name=W1 (.ref fa)->
   b.heap.get? a=W1 { cls:=.type "list",data:=.seq i.toArray }->Fk i u->u.length<=n->b.gens=#[]->
   codeAny (model l.prog w) bn (.call (.ref fa) ⟨[.ref a],[]⟩) (λr v=>r=.ok (.ret$ .bool š)/\OldK b.heap v.heap/\v.os=b.os/\zh v.gens) b) :
  WalkO q c C D l.row.toRowW d [] (λf i=>PySem.call f i):=by
 intro w e b t B G Y fa o pm s g ό kV R hd x F z N E I ϊ p H T A ϋ;obtain rfl:ό=.none:=Dflts.none F y;obtain rfl:kV=.none:=Dflts.noKw F;obtain⟨a,i,u,rfl,rfl,m,h,k⟩:=zjf Q p A;refine enter_call (lf (j w e b t B fa o pm s g a i u G Y R (fd_plain hd) x z m h k N) λr v S=>?_);obtain⟨rfl,K,L,M⟩:=S;exact⟨.inl ⟨.bool š,.bool š,[],rfl,λJ=>rfl,.bool š,ă l _,λJ=>⟨List.Pairwise.nil,λJ P=>(nomatch P)⟩⟩,K,L,M⟩
end Att
namespace L2
open Spec
theorem OF:∀ {a:b'} {ns:dd},Fk a ns->ke (ns.map V.int) a
 |_,_,.nil=>.nil
 |_,_,.cons n t h=>.cons ⟨t,rfl⟩ (OF h)
noncomputable abbrev oR{K:W.Frag}{h:Heap}(_:K.In h):W.Frag:=K
noncomputable def ul(s:Stmt):Arguments:=match s with
 | .FunctionDef _ a _ _ _ _ _ _ _ _=>a
 |_=>{ posonlyargs:=[],args:=[],vararg:=ŋ,kwonlyargs:=[],kw_defaults:=[],kwarg:=ŋ,defaults:=[] }
noncomputable def Fj(s:Stmt):List Stmt:=match s with
 | .FunctionDef _ _ b _ _ _ _ _ _ _=>b
 |_=>[]
noncomputable def qf(s:Stmt):Scope:=match s with
 | .FunctionDef _ _ _ _ _ _ sc _ _ _=>sc
 |_=>{ kind:=.function,names:=[],isGenerator:=į,isCoroutine:=į }
noncomputable abbrev E0:XK:=λa a a=>False
inductive tG(K:W.Frag)(x qual:Str)(st:Stmt)(f:Addr)(fd:gf):Prop
 |mk (oc:Value) (od:Option Addr) (kV doc pm:Value) (an:Option Addr) (cdv ct:Value) (osl:Array (Option Value)) (f1:fd=W.fnOf x qual (ul st) (Fj st) (qf st) .none kV doc pm an cdv ct) (f2:K.lookup f=W1 ⟨oc,od,.func fd,osl⟩) (f3:W.codeIn K cdv qual=š):tG K x qual st f fd
structure bI(K:W.Frag)(x qual:Str)(st:Stmt)(f:Addr)(fd:gf):Prop where
 ex:tG K x qual st f fd
 kp:W.keepIn K (.ref f)=š
section
variable{P:xa}{w:Na}{K:W.Frag}{mg:Str->Option Value}{base:Heap}
def yX{st}{kV d pm b ct}(l:K.lookup f=W1 ⟨oc,h,.func$ W.fnOf x a (ul st) (Fj st) (qf st) .none kV d pm g b ct,e⟩)
  (c:W.codeIn K b a=š) (k:W.keepIn K (.ref f)=š):bI K x a st f$ W.fnOf x a (ul st) (Fj st) (qf st) .none kV d pm g b ct:=⟨⟨oc,h,kV,d,pm,g,b,ct,e,rfl,l,c⟩,k⟩
end
def ET(h:n<=1000):n<sizeLine:=nv h ⋯
end L2
namespace Lake
open Spec L2
def jX(a:c):∃ b,b=a:=⟨a,rfl⟩
def qd{b:Type}(a:b):b:=Classical.choose$ jX a
@[simp] theorem Vp(a:b):qd a=a:=zaB$ jX a
inductive D where
 |Sb|bl (b:Bool)|int (i:Int)|str (x:Str)|Sa (xs:List D)|Wg (ns:dd)|ref (n:Nat)
 |qa (xs:List D)|za (ks:List jc) (xs:List D)|obj (c:Nat) (ns:ab) (xs:List D)|tw (c:Nat)|gt (ss:ab)
abbrev gV:=List D
inductive Ob where
 |qa (xs:gV)
 |za (kvs:List (jc × D))
 |ub (c:Nat) (fs:List (Str × D))
 |Ub (kvs:List (jc × D))
 |Ie (ks:List TK)
abbrev Da:=List Ob
abbrev St:=L2.St
abbrev Ev:=List$ Option D
structure Xn where
 cls:Nat
inductive Gi(α:Type) where
 |ok (a:α) (σ:Da)
 |ex (x:Xn) (σ:Da)
 |Jb
abbrev M(a:Type):=Da->Gi a
def ret{b:Type}(a:b):M b:=λc=>.ok a c
def Jb{a:Type}:M a:=λb=>.Jb
def Gi.bind{c d:Type}(o:Gi c)(k:c->M d):Gi d:=match o with
 | .ok a b=>k a b
 | .ex x b=>.ex x b
 | .Jb=>.Jb
def rc{a b:Type}(m:M a)(k:a->M b):M b:=λc=>(m c).bind k
inductive Fl where
 |nx (ρ:Ev)|rt (d:D)|bk (ρ:Ev)|ct (ρ:Ev)|xc (ρ:Ev) (x:Xn)
structure Tab where
 P:Addr
 line:Int
 col:Int
 qual:Str
structure Tx where
 Rn:List Tab
 bm:Addr
structure Tb where
 K:W.Frag
 ca:Nat->Addr
 tx:Tx
def Hu(q:Str)(c:Addr):Heap->Prop:=λh=>∃ o a t,h.get? c=W1 o/\o.data=.fields a/\a[1]?=W1 (.str q t)
def TY(a:Addr):Heap->Prop:=λh=>∃ o,h.get? a=W1 o/\o.cls=.type "module"/\o.dict=W1 builtinsNs/\o.data=.plain
def br(T:Tb)(a:ac)(H:Hp):Prop:=∀ t∈T.tx.Rn,(T.tx.bm ∉ a/\∃ b,H T.tx.bm=W1 (.Ic b$ .ext$ TY T.tx.bm))/\t.P ∉ a/\∃ ps,H t.P=W1 (.zl ps)/\(ps=#[]\/∃ c,ps=#[wc t.line,wc t.col,.ref c]/\c ∉ a/\H c=W1 (.ext$ Hu t.qual c))
def br.grow(h:br T d H)(k:∀ b u,H b=W1 u->a b=W1 u):br T d a:=λt m=>by
 obtain⟨⟨f,o,g⟩,i,ps,j,l⟩:=h t m;exact⟨⟨f,o,k _ _ g⟩,i,ps,k _ _ j,l.imp id λ⟨c,e,n,z⟩=>⟨c,e,n,k _ _ z⟩⟩
def br.sub(h:br T a H)(k:∀ b∈d,b∈a):br T d H:=λt m=>by
 obtain⟨⟨f,g⟩,i,ps,j,l⟩:=h t m;exact⟨⟨λz=>f$ k _ z,g⟩,λz=>i$ k _ z,ps,j,l.imp id λ⟨c,e,n,z⟩=>⟨c,e,λy=>n$ k _ y,z⟩⟩
def br.more(h:br T a H)(o:H p=ŋ):br T (a++[p]) H:=λt l=>by
 obtain⟨⟨i,m,f⟩,j,ps,g,k⟩:=h t l;have d:∀ {b:Addr} {u:HO},H b=W1 u->b ∉ a->b ∉ a++[p]:=fun {b u} e n z=>(si.mp z).elim n λy=>by
  simp_all
 exact⟨⟨d f i,m,f⟩,d g j,ps,g,k.imp id λ⟨c,e,n,z⟩=>⟨c,e,d z n,z⟩⟩
def br.out(h:br T g H)(r:∀ b,b≠a->i b=H b)(q:a∈g\/∃ f,H a=W1 (.dK f)):br T g i:=λt s=>by
 obtain⟨⟨k,v,m⟩,l,ps,o,p⟩:=h t s;have j:∀ {b:Addr} {u:HO},H b=W1 u->b ∉ g->(∀ f,u≠.dK f)->i b=W1 u:=fun {b u} e n d=>by
  rw[r b (λz=>by
   subst z;rcases q with y|⟨f,y⟩
   ·exact n y
   ·rw[e]at y;cases y;exact d f rfl)]
  exact e
 exact⟨⟨k,v,j m k (λw z=>by cases z)⟩,l,ps,j o l (λw z=>by cases z),p.imp id λ⟨c,e,n,z⟩=>⟨c,e,n,j z n (λw y=>by cases y)⟩⟩
noncomputable def Tb.cv(T:Tb)(x:Xn):Value:=.ref$ T.ca x.cls
noncomputable def rK(c:Nat):Option Nat:=if c<100 then ŋ else W1 (c / 100 - 1)
def n9(C:Addr)(c:Option Addr)(a:Addr):Heap->Prop:=λh=>∃ o,h.get? a=W1 o/\o.cls=.ref C/\∀ b,c=W1 b->o.dict=W1 b/\∃ d,o.data=.fields d
def Z6(b:Addr)(n:Nat):Heap->Prop:=λh=>∃ o,h.get? b=W1 o/\∃ a c t,o.data=.dict a c/\StrKeys a/\nsFind a "pot" = W1 (.int n t)
def yH(K:W.Frag)(H:Hp)(a:Addr)(c:dd):Prop:=
 (∃ o,H a=W1 (.Ic o$ .qa$ c.map V.int))\/
  ∃ (o:Obj) (b:Array Value) (n:Nat),K.lookup a=W1 o/\o.cls=.type "list"/\o.dict=ŋ/\o.data=.seq b n/\b.size<=sizeLine/\ke (c.map V.int) b.toList
def yH.seq{K}(h:yH K H a b):Xe K H a$ b.map V.int:=by
 rcases h with⟨o,h⟩|h
 ·exact .inl$ .inr ⟨o,h⟩
 ·exact .inr h
def UB(K:W.Frag)(a:Addr)(c:ab):Prop:=∃ (o:Obj) (b:Array Value) (n:Nat),K.lookup a=W1 o/\o.cls=.type "tuple"/\o.data=.seq b n/\b.size<=sizeLine/\ke (c.map V.str) b.toList
mutual
def Ha(T:Tb)(d:ac)(H:Hp):D->V->Prop
 | .Sb,v=>v=.Sb
 | .bl b,v=>v=.bl b
 | .int i,v=>v=.int i
 | .str x,v=>v=.str x
 | .Sa ds,v=>∃ p f,v=.ref p/\H p=W1 (.Sa f)/\xb T d H ds f
 | .Wg ns,v=>∃ a,v=.ref a/\yH T.K H a ns
 | .ref n,v=>∃ a,v=.ref a/\d[n]?=W1 a
 | .qa ds,v=>∃ a f,v=.ref a/\a ∉ d/\H a=W1 (.qa f)/\xb T d H ds f
 | .za ks ds,v=>∃ a e,v=.ref a/\a ∉ d/\Rd H a (.dK e)/\e.map (·.1)=ks/\xb T d H ds (e.map (·.2))
 | .obj c ns ds,v=>∃ a k h,v=.ref a/\a ∉ d/\H a=W1 (.ub (T.ca c) k h)/\h.map (·.1)=ns/\xb T d H ds (h.map (·.2))
 | .tw c,v=>∃ a j,v=.ref a/\a ∉ d/\H a=W1 (.ext$ n9 (T.ca c) j a)/\∀ n,rK c=W1 n->∃ g,j=W1 g/\g ∉ d/\H g=W1 (.ext$ Z6 g n)
 | .gt ss,v=>∃ a,v=.ref a/\UB T.K a ss
def xb(T:Tb)(b:ac)(H:Hp):gV->em->Prop
 |[],a=>a=[]
 |d::ds,a=>∃ v r,a=v::r/\Ha T b H d v/\xb T b H ds r
end
def Kp(o b:HO):Prop:=b=o\/(∃ d a,o=.dK a/\b=.Ic d (.dK a))\/∃ e c,o=.zl e/\b=.zl c
def Kp.trans(x:Kp a b)(y:Kp b c):Kp a c:=by
 rcases x with rfl|⟨g,d,rfl,rfl⟩|⟨ps,e,rfl,rfl⟩
 ·exact y
 ·rcases y with rfl|⟨_,_,z,_⟩|⟨_,_,z,_⟩
  ·exact .inr$ .inl ⟨g,d,rfl,rfl⟩
  all_goals simp_all
 ·rcases y with rfl|⟨_,_,z,_⟩|⟨_,f,_,rfl⟩
  ·exact .inr$ .inr ⟨ps,e,rfl,rfl⟩
  ·cases z
  ·exact .inr$ .inr ⟨ps,f,rfl,rfl⟩
structure Wc(μ:ac)(H:Hp)(μ':ac)(H':Hp):Prop where
 pre:∃ r,μ'=μ++r
 Sa:∀ p xs,H p=W1 (.Sa xs)->H' p=W1 (.Sa xs)
 Ic:∀ p o u,H p=W1 (.Ic o u)->H' p=W1 (.Ic o u)
 keep:∀ p o,H p=W1 o->p ∉ μ->(∃ o',H' p=W1 o'/\Kp o o')/\p ∉ μ'
def Wc.refl a H:Wc a H a H:=⟨⟨[],by simp⟩,λb b h=>h,λb b b h=>h,λb b h n=>⟨⟨_,h,.inl rfl⟩,n⟩⟩
def Wc.trans(a:Wc g H c e)(b:Wc c e d f):Wc g H d f:=by
 obtain⟨⟨r,rfl⟩,A,k,s⟩:=a;obtain⟨⟨z,rfl⟩,B,l,t⟩:=b;exact⟨⟨r++z,by simp⟩,λp xs h=>B p xs$ A p xs h,λp o u h=>l p o u$ k p o u h,λp o h n=>let ⟨⟨x,m,i⟩,v⟩:=s p o h n;let ⟨⟨y,q,j⟩,w⟩:=t p x m v;⟨⟨y,q,i.trans j⟩,w⟩⟩
def Wc.Oh(e:Wc f H b d) p o(h:H p=W1 o)(n:p ∉ f)(hd:(∀ a,o≠.dK a)/\∀ ps,o≠.zl ps:=by exact⟨(λk z=>by cases z),(λk z=>by cases z)⟩):d p=W1 o/\p ∉ b:=by
 obtain⟨⟨j,g,c⟩,i⟩:=e.keep p o h n;rcases c with rfl|⟨_,a,z,_⟩|⟨ps,_,z,_⟩;all_goals simp_all
def Wc.rd(e:Wc k H b f) p a(h:Rd H p$ .dK a)(n:p ∉ k):Rd f p (.dK a)/\p ∉ b:=by
 rcases h with h|⟨d,h⟩
 ·obtain⟨⟨l,g,c⟩,j⟩:=e.keep p _ h n;rcases c with rfl|⟨d,i,z,rfl⟩|⟨_,_,z,_⟩
  ·exact⟨.inl g,j⟩
  ·cases z;exact⟨.inr ⟨d,g⟩,j⟩
  ·cases z
 ·exact⟨.inr ⟨d,e.Ic _ _ _ h⟩,(e.keep p _ h n).2⟩
def Wc.get(e:Wc c H b d){n:Nat}(h:c[n]?=W1 a):b[n]?=W1 a:=by
 obtain⟨⟨r,rfl⟩,_,_⟩:=e;rw[jb (aa.mp h).1];exact h
mutual
theorem Ha.mono{T:Tb}{w m:ac}{H s:Hp}(e:Wc w H m s):∀ (d:D) (v:V),Ha T w H d v->Ha T m s d v
 | .Sb,v,h=>by simpa [Ha]using h
 | .bl b,v,h=>by simpa [Ha]using h
 | .int i,v,h=>by simpa [Ha]using h
 | .str x,v,h=>by simpa [Ha]using h
 | .Sa ds,v,h=>by
  rw[Ha]at h ⊢;obtain⟨p,k,g,f,j⟩:=h;exact⟨p,k,g,e.Sa _ _ f,xb.mono e ds k j⟩
 | .Wg ns,v,h=>by
  rw[Ha]at h ⊢;obtain⟨a,g,f⟩:=h;refine⟨a,g,?_⟩;rcases f with⟨o,f⟩|f
  ·exact .inl ⟨o,e.Ic _ _ _ f⟩
  ·exact .inr f
 | .ref n,v,h=>by
  rw[Ha]at h ⊢;obtain⟨a,g,f⟩:=h;exact⟨a,g,e.get f⟩
 | .qa ds,v,h=>by
  rw[Ha]at h ⊢;obtain⟨a,k,g,f,j,l⟩:=h;exact⟨a,k,g,(e.Oh _ _ j f).2,(e.Oh _ _ j f).1,xb.mono e ds k l⟩
 | .za ks ds,v,h=>by
  rw[Ha]at h ⊢;obtain⟨a,k,g,f,j,r,l⟩:=h;exact⟨a,k,g,(e.rd _ _ j f).2,(e.rd _ _ j f).1,r,xb.mono e ds _ l⟩
 | .obj c ns ds,v,h=>by
  rw[Ha]at h ⊢;obtain⟨a,A,k,g,f,j,r,l⟩:=h;exact⟨a,A,k,g,(e.Oh _ _ j f).2,(e.Oh _ _ j f).1,r,xb.mono e ds _ l⟩
 | .tw c,v,h=>by
  rw[Ha]at h ⊢;obtain⟨a,z,g,f,j,l⟩:=h;exact⟨a,z,g,(e.Oh _ _ j f).2,(e.Oh _ _ j f).1,λn q=>let ⟨y,B,t,u⟩:=l n q;⟨y,B,(e.Oh _ _ u t).2,(e.Oh _ _ u t).1⟩⟩
 | .gt ss,v,h=>by rw[Ha]at h ⊢;exact h
theorem xb.mono{T:Tb}{g a:ac}{H f:Hp}(e:Wc g H a f):∀ (b:gV) (c:em),xb T g H b c->xb T a f b c
 |[],c,h=>by simpa [xb]using h
 |d::b,c,h=>by
  rw[xb]at h ⊢;obtain⟨v,r,i,j,k⟩:=h;exact⟨v,r,i,Ha.mono e d v j,xb.mono e b r k⟩
end
def xb.nil:xb T a H [] []:=by rw[xb]
def xb.cons{T}{b}{H}{d}{v}{c}{a}(e:Ha T b H d v)(f:xb T b H c a):xb T b H (d::c)$ v::a:=by
 rw[xb];exact⟨v,a,rfl,e,f⟩
theorem xb.length:∀ {b:gV} {a:em},xb T e H b a->b.length=a.length
 |[],a,h=>by rw[xb]at h;subst h;rfl
 |d::b,a,h=>by
  obtain⟨v,r,rfl,_,c⟩:=h;simp[xb.length c]
theorem xb.get:∀ {b:gV} {a:em} {i:Nat} {d:D},xb T f H b a->b[i]?=W1 d->∃ v,a[i]?=W1 v/\Ha T f H d v
 |[],a,i,d,h,e=>by simp at e
 |d::b,a,0,x,h,e=>by
  obtain⟨v,r,rfl,g,c⟩:=h
  simp_all
 |d::b,a,i+1,x,h,e=>by
  obtain⟨v,r,rfl,g,c⟩:=h;simpa using xb.get c ⋯
theorem xb.append:∀ {e a:gV} {c b:em},xb T g H e c->xb T g H a b->xb T g H (e++a) (c++b)
 |[],a,c,b,h,f=>by rw[xb]at h;subst h;simpa using f
 |d::e,a,c,b,h,f=>by
  obtain⟨v,r,rfl,i,j⟩:=h;exact xb.cons i$ xb.append j f
theorem xb.set(hd:Ha T e H d v):∀ {b:gV} {a:em} (i:Nat),xb T e H b a->xb T e H (b.set i d) (a.set i v)
 |[],a,i,h=>by rw[xb]at h;subst h;simpa using xb.nil
 |x::b,a,0,h=>by
  obtain⟨w,r,rfl,f,c⟩:=h;exact xb.cons hd c
 |x::b,a,i+1,h=>by
  obtain⟨w,r,rfl,f,c⟩:=h;exact xb.cons f$ xb.set hd i c
theorem xb.drop:∀ {b:gV} {a:em} (n:Nat),xb T c H b a->xb T c H (b.drop n) (a.drop n)
 |b,a,0,h=>by simpa using h
 |[],a,n+1,h=>by rw[xb]at h;subst h;simpa using xb.nil
 |x::b,a,n+1,h=>by
  obtain⟨w,r,rfl,e,d⟩:=h;simpa using xb.drop n d
theorem xb.take:∀ {b:gV} {a:em} (n:Nat),xb T c H b a->xb T c H (b.take n) (a.take n)
 |b,a,0,h=>by simpa using xb.nil
 |[],a,n+1,h=>by rw[xb]at h;subst h;simpa using xb.nil
 |x::b,a,n+1,h=>by
  obtain⟨w,r,rfl,d,e⟩:=h;exact xb.cons d$ xb.take n e
def Ls(T:Tb)(a:ac)(H:Hp):List (Str × D)->List (Str × V)->Prop:=Paired λp q=>p.1=q.1/\Ha T a H p.2 q.2
def Jg(T:Tb)(a:ac)(H:Hp):List (jc × D)->List (jc × V)->Prop:=Paired λp q=>p.1=q.1/\Ha T a H p.2 q.2
def Yn(T:Tb)(e:ac)(H:Hp)(a:Addr):Ob->Prop
 | .qa ds=>∃ b,H a=W1 (.qa b)/\xb T e H ds b
 | .za d=>∃ b,H a=W1 (.dK b)/\Jg T e H d b
 | .ub c g=>∃ f b,H a=W1 (.ub (T.ca c) f b)/\Ls T e H g b
 | .Ub d=>∃ h b,H a=W1 (.Ic h$ .dK b)/\Jg T e H d b
 | .Ie ks=>∃ b,H a=W1 (.dT b)/\b.map (·.1)=ks
structure Qc(T:Tb)(μ:ac)(H:Hp)(σ:Da):Prop where
 len:μ.length=σ.length
 nd:μ.Nodup
 obs:∀ (n:Nat) (o:Ob),σ[n]?=W1 o->∃ a,μ[n]?=W1 a/\Yn T μ H a o
 tb:br T μ H
def Jh(T:Tb)(b:ac)(H:Hp)(a:Ev)(st:St):Prop:=a.length=st.length/\∀ (i:Nat) (d:D),a[i]?=W1 (W1 d)->∃ v,st[i]?=W1 (W1 v)/\Ha T b H d v
def Jh.mono{st}(e:Wc c H a b)(h:Jh T c H ρ st):Jh T a b ρ st:=
 ⟨h.1,λi d q=>let ⟨v,f,g⟩:=h.2 i d q;⟨v,f,Ha.mono e d v g⟩⟩
set_option tactic.hygienic true in
def Jh.set{st}(h:Jh T a H ρ st) i(r:Ha T a H d v):Jh T a H (ρ.set i$ W1 d)$ st.set i$ W1 v:=by
 refine⟨by simpa using h.1,λj x q=>?_⟩;rw[Ef]at q;by_cases b:i=j
 ·subst b;rw[ja rfl]at q;split at q
  ·rename_i c
   cases q;exact⟨v,by rw[Ef,ja rfl,ja (by rw[<-h.1];exact c)],r⟩
  ·cases q
 ·rw[ra b]at q;obtain⟨w,e,f⟩:=h.2 j x q
  simp_all
def Κ(e:Addr)(b d:Value)(h:Heap):Prop:=∃ c a,h.get? e=W1 c/\c.cls=b/\c.data=.fields a/\1<a.size/\a[0]?=W1 d/\a[1]?=W1 .none
def Fs(B:Heap)(l:List xg)(e:Addr)(a b:Value)(h:Heap):Prop:=B.StaysIn h/\B.get? e=ŋ/\h.FunFrames B l/\((∃ c,h.TracedAtW B e a b c)\/Κ e a b h)
def ysb(o:Obj)(n:Nat):Prop:=∃ a b t,o.data=.dict a b/\StrKeys a/\nsFind a "pot" = W1 (.int n t)
def IG(d:Option Nat)(e:Addr)(B h f:Heap)(c:Hp):Prop:=∀ n,d=W1 n->∃ a oD b,h.get? e=W1 b/\b.dict=W1 a/\B.get? a=W1 oD/\ysb oD n/\c a=ŋ/\f.get? a=ŋ
inductive vE(outer:List xg)(H:Hp)(s:Shared)(cls:Value)(fd:Option Nat)(H':Hp)(e:Value)(s':Shared):Prop
 |mk (ea:Addr) (a0:Value) (B:Heap) (f1:e=.ref ea) (f2:Fs B outer ea cls a0 s'.heap) (f3:H' ea=ŋ) (f4:s.heap.get? ea=ŋ) (f5:(∀ b o,H' b=W1 o->∃ ob,B.get? b=W1 ob)) (f6:(∀ b o,s.heap.get? b=W1 o->H b=ŋ->b ∉ rk outer->B.get? b=W1 o)) (f7:(∀ b o,s.heap.get? b=W1 o->b ∉ rk outer->∃ o',B.get? b=W1 o')) (f8:IG fd ea B s'.heap s.heap H'):vE outer H s cls fd H' e s'
structure SG(P:xa)(w:Na)(outer:List xg)(H:Hp)(s:Shared)(cls:Value)(fd:Option Nat)(H':Hp)(e:Value)(s':Shared):Prop where
 ex:vE outer H s cls fd H' e s'
 os:s'.os=s.os
 bare:zh s'.gens
 un:Un (rk outer) [] H H' s.heap s'.heap
 pc:Qh P w H' s'.heap
noncomputable def Xk(P:xa)(w:Na):dw:=λa H s E e f=>∃ b d c,SG P w a H s b d c e f/\E b d c
structure xN(X:Cx)(st:St)(cls:Value)(fd:Option Nat)(H':Hp):Prop where
 GK:∀ (pins:dN) (H:Hp) (s:Shared) (e:Value) (s':Shared),gb X pins st H s->SG X.prog X.w X.stack H s cls fd H' e s'->X.xe e s'
noncomputable abbrev XE(X:Cx)(d:St):XK:=λa c b=>xN X d a c b
def Rb{d e:Type}(T:Tb)(E:XK)(R:ac->Hp->d->e->Prop)(f:ac)(H:Hp)(o:Gi d)(Q:e->Hp->Prop):Prop:=match o with
 | .ok a σ=>∀ b g c,Wc f H b c->Qc T b c σ->R b c a g->Q g c
 | .ex x σ=>∀ b c,Wc f H b c->Qc T b c σ->E (T.cv x) (rK x.cls) c
 | .Jb=>False
def Rb.mono{R}{o:Gi j}{Q:k->Hp->Prop}(e:Wc l H c i)(h:Rb T E R l H o Q):Rb T E R c i o Q:=by
 cases o with
 |ok a σ=>exact λb g d f r q=>h b g d (e.trans f) r q
 |ex x σ=>exact λb d f r=>h b d (e.trans f) r
 |Jb=>exact h
def Rb.imp{R}{o:Gi e}{Q d:f->Hp->Prop}(h:Rb T E R i H o Q)(k:∀ g b,Q g b->d g b):Rb T E R i H o d:=by
 cases o with
 |ok a σ=>exact λc g b j r q=>k _ _$ h c g b j r q
 |ex x σ=>exact h
 |Jb=>exact h
def Rb.bind{R:ac->Hp->j->t->Prop}{R'}{m}{k:j->M s}{Q:u->Hp->Prop}{o}
  (h:Rb T E R' l H (rc m k i) Q) (f:∀ a b c g d,m i=.ok a b->Wc l H c d->Qc T c d b->R c d a g->Rb T E R' c d (k a b) Q->o g d):Rb T E R l H (m i) o:=by
 unfold rc at h;cases e:m i with
 |ok a b=>
  rw[e]at h;exact λn g v p r q=>f a b n g v e p r q$ h.mono p
 |ex x b=>rw[e]at h;exact h
 |Jb=>rw[e]at h;exact h
def Rb.here{R}{d:c}{g:b}{Q}(h:Rb T E R a H (.ok d σ) Q)(r:Qc T a H σ)(p:R a H d g):Q g H:=h a g H (Wc.refl _ _) r p
inductive FC(T:Tb)(st:St)(H:Hp)(P:ac->Ev->Da->Prop):Prop
 |mk (μ:ac) (ρ:Ev) (σ:Da) (e:Jh T μ H ρ st) (r:Qc T μ H σ) (p:P μ ρ σ):FC T st H P
section
variable(T:Tb)(X:Cx)
def tF(f:Ev->M D):TE:=λa H Q=>FC T a H λb c d=>Rb T (XE X a) (Ha T) b H (f c d) Q
def zP:ac->Hp->Bool->Bool->Prop:=λc c a b=>b=a
def tT(f:Ev->M Bool):TT:=λa H Q=>FC T a H λb c d=>Rb T (XE X a) zP b H (f c d) Q
def tL(f:Ev->M (gV)):TA:=λa H Q=>FC T a H λb c d=>Rb T (XE X a) (xb T) b H (f c d) Q
inductive Op where
 |nx (st:St)|rt (v:V)|bk (st:St)|ct (st:St)|xc (st:St) (cls:Value) (fd:Option Nat)
def Tr(T:Tb)(b:ac)(H:Hp):Fl->Op->Prop
 | .nx a,.nx st=>Jh T b H a st
 | .rt d,.rt v=>Ha T b H d v
 | .bk a,.bk st=>Jh T b H a st
 | .ct a,.ct st=>Jh T b H a st
 | .xc a x,.xc st cls fd=>Jh T b H a st/\cls=T.cv x/\fd=rK x.cls
 |_,_=>False
def xt(X:Cx)(D:ao):Op->Hp->Prop
 | .nx st,H=>D.nx st H
 | .rt v,H=>D.rt v H
 | .bk st,H=>D.bk st H
 | .ct st,H=>D.ct st H
 | .xc st cls fd,H=>xN X st cls fd H
noncomputable abbrev EN:XK:=λa a a=>False
def tS(g:Ev->M Fl):TS:=λD a H=>FC T a H λb c d=>Rb T EN (Tr T) b H (g c d)$ xt X D
end
def xs{c:Type}(d:Ev)(m:M c)(k:c->M Fl):M Fl:=λe=>match m e with
 | .ok a b=>k a b
 | .ex x b=>.ok (.xc d x) b
 | .Jb=>.Jb
def Rb.xs{D}{R}{st}{m:M p}{k}{s:t->Hp->Prop}(v:Jh T l H u st)
  (h:Rb T EN (Tr T) l H (Lake.xs u m k n)$ xt X D) (f:∀ a b c g i,m n=.ok a b->Wc l H c i->Qc T c i b->R c i a g->Rb T EN (Tr T) c i (k a b) (xt X D)->s g i):Rb T (XE X st) R l H (m n) s:=by
 unfold Lake.xs at h;cases e:m n with
 |ok a b=>
  rw[e]at h;exact λd g o j r q=>f a b d g o e j r q$ h.mono j
 |ex x b=>
  rw[e]at h;intro d o j r;exact h d (.xc st _ _) o j r ⟨v.mono j,rfl,rfl⟩
 |Jb=>rw[e]at h;exact h
abbrev FE(T:Tb)(X:Cx)(e:Fa)(f:Ev->M D):Prop:=PE X e$ tF T X f
abbrev FT(T:Tb)(X:Cx)(e:Fa)(f:Ev->M Bool):Prop:=PT X e$ tT T X f
abbrev FW(T:Tb)(X:Cx)(e:Fa)(f:Ev->M Bool):Prop:=PW X e$ tT T X f
abbrev FA(T:Tb)(X:Cx)(a:List Fa)(f:Ev->M (gV)):Prop:=PA X a$ tL T X f
abbrev FS(T:Tb)(X:Cx)(a:Stmt)(g:Ev->M Fl):Prop:=PS X a$ tS T X g
abbrev im(T:Tb)(X:Cx)(a:List Stmt)(g:Ev->M Fl):Prop:=Uv X a$ tS T X g
noncomputable def Yf:Nat:=1000
def EA(h:n<=Yf):n<=sizeLine:=zd$ ET h
def XY(h:n<Yf):n<sizeLine:=ET$ zd h
def vI{l:List g}(h:l.Nodup){i j:Nat}{a:g}(k:l[i]?=W1 a)(m:l[j]?=W1 a):i=j:=by
 obtain⟨c,d⟩:=aa.mp k;obtain⟨e,f⟩:=aa.mp m;have b:=List.pairwise_iff_getElem.mp h;rcases Nat.lt_trichotomy i j with z|z|z
 ·exact absurd (d.trans f.symm)$ b i j c e z
 ·exact z
 ·exact absurd (f.trans d.symm)$ b j i e c z
section
variable{T:Tb}{μ μ':ac}{H H':Hp}{σ:Da}
def WK(e:Wc μ H μ' H'){xs}{b}(h:Paired (λ p q =>p.1=q.1/\Ha T μ H p.2 q.2) xs b) :
  Paired (λ(p:a × D) (q:a × V)=>p.1=q.1/\Ha T μ' H' p.2 q.2) xs b:=L2.Paired.qp h λp q z=>⟨z.1,Ha.mono e _ _ z.2⟩
theorem Yn.mono(e:Wc μ H μ' H')(d:H' a=H a):∀ {o:Ob},Yn T μ H a o->Yn T μ' H' a o
 | .qa ds,⟨b,h,r⟩=>⟨b,d.trans h,xb.mono e _ _ r⟩
 | .za f,⟨b,h,r⟩=>⟨b,d.trans h,WK e r⟩
 | .ub c j,⟨g,b,h,r⟩=>⟨g,b,d.trans h,WK e r⟩
 | .Ub f,⟨i,b,h,r⟩=>⟨i,b,d.trans h,WK e r⟩
 | .Ie ks,⟨b,h,r⟩=>⟨b,d.trans h,r⟩
theorem Yn.some:∀ {o:Ob},Yn T μ H a o->∃ u,H a=Option.some u/\(∀ xs,u≠.Sa xs)
 | .qa ds,⟨b,h,r⟩=>⟨_,h,(λi z=>by cases z)⟩
 | .za d,⟨b,h,r⟩=>⟨_,h,(λi z=>by cases z)⟩
 | .ub c f,⟨e,b,h,r⟩=>⟨_,h,(λi z=>by cases z)⟩
 | .Ub d,⟨g,b,h,r⟩=>⟨_,h,(λi z=>by cases z)⟩
 | .Ie ks,⟨b,h,r⟩=>⟨_,h,(λi z=>by cases z)⟩
theorem Yn.jG:∀ {o:Ob},(∀ b,o≠.Ub b)->Yn T μ H a o->∃ u,H a=Option.some u/\(∀ xs,u≠.Sa xs)/\(∀ e w,u≠.Ic e w)
 | .qa ds,_,⟨d,h,r⟩=>⟨_,h,(λi z=>by cases z),(λi i z=>by cases z)⟩
 | .za b,_,⟨d,h,r⟩=>⟨_,h,(λi z=>by cases z),(λi i z=>by cases z)⟩
 | .ub c g,_,⟨f,d,h,r⟩=>⟨_,h,(λi z=>by cases z),(λi i z=>by cases z)⟩
 | .Ub b,n,_=>absurd rfl (n b)
 | .Ie ks,_,⟨d,h,r⟩=>⟨_,h,(λi z=>by cases z),(λi i z=>by cases z)⟩
def Qc.keep(r:Qc T μ H σ)(e:Wc μ H μ H')(k:∀ a∈μ,H' a=H a)(t:br T μ H'):Qc T μ H' σ:=
 ⟨r.len,r.nd,λn o h=>let ⟨a,b,c⟩:=r.obs n o h;⟨a,b,c.mono e$ k a$ ya b⟩,t⟩
def Qc.mem(r:Qc T μ H σ)(h:a∈μ):∃ u,H a=W1 u/\(∀ xs,u≠.Sa xs):=by
 obtain⟨n,c⟩:=Jr h;have f:n<σ.length:=by rw[<-r.len];exact(aa.mp c).1
 obtain⟨e,b,d⟩:=r.obs n σ[n] ⋯;rw[c]at b;cases b;exact d.some
def lj(a:H p=ŋ):Wc μ H μ$ Qa H p o:=
 ⟨⟨[],by simp⟩,λq xs h=>by rw[Xd$ ym h a];exact h,λq b u h=>by rw[Xd$ ym h a];exact h,λq b h n=>⟨⟨b,by rw[Xd$ ym h a];exact h,.inl rfl⟩,n⟩⟩
def Qc.fresh(r:Qc T μ H σ)(c:H p=ŋ):Qc T μ (Qa H p o) σ:=
 r.keep (lj c) (λa d=>by obtain⟨u,h,_⟩:=r.mem d;rw[Xd$ ym h c]) (r.tb.grow λb u h=>by rw[Xd$ ym h c];exact h)
def Du(a:H p=ŋ):Wc μ H (μ++[p])$ Qa H p o:=
 ⟨⟨[p],rfl⟩,(lj (μ:=μ) a).Sa,(lj (μ:=μ) a).Ic,λq b h n=>⟨((lj a).keep q b h n).1,λz=>(si.mp z).elim n λz=>ym h a ⋯⟩⟩
def Qc.push(r:Qc T μ H σ)(c:H p=ŋ)(s:Yn T (μ++[p]) (Qa H p o) p ob):Qc T (μ++[p]) (Qa H p o)$ σ++[ob]:=by
 refine⟨by simp[r.len],?_,λn x h=>?_,(r.tb.more c).grow λb u h=>by rw[Xd$ ym h c];exact h⟩
 ·rw[List.nodup_append];refine⟨r.nd,by simp,λa l b m e=>?_⟩;have i:b=p:=by simpa using m
  subst i;subst e;obtain⟨u,h,_⟩:=r.mem l
  simp_all
 ·by_cases f:n<σ.length
  ·rw[jb f]at h;obtain⟨a,k,d⟩:=r.obs n x h;obtain⟨u,q,_⟩:=d.some;exact⟨a,by rw[jb (by rw[r.len];exact f)];exact k,d.mono (Du c)$ Xd$ ym q c⟩
  ·rw[Gb ⋯]at h;have g:n - σ.length=0:=by
    have:=(aa.mp h).1;simp at this;lia
   rw[g]at h;simp at h;subst h;have j:n=μ.length:=by rw[r.len];lia
   subst j
   grind
def dC(r:Qc T μ H σ):Ha T (μ++[p]) (Qa H p o) (.ref σ.length)$ .ref p:=by
 rw[Ha];exact⟨p,rfl,by rw[<-r.len];simp⟩
def Xr(f:a∈μ)(c:H a=W1 u)(d:∀ xs,u≠.Sa xs)(e:∀ b w,u≠.Ic b w):Wc μ H μ$ Qa H a o:=
 ⟨⟨[],by simp⟩,λq xs h=>by rw[Xd$ IP h c (λz=>d xs z.symm)];exact h,λq b w h=>by rw[Xd$ IP h c (λz=>e b w z.symm)];exact h,λq b h n=>⟨⟨b,by rw[Xd (λz=>n ⋯)];exact h,.inl rfl⟩,n⟩⟩
def Qc.write(r:Qc T μ H σ)(d:μ[n]?=W1 a)(v:Yn T μ (Qa H a o) a ob)(q:∀ c,σ[n]?≠W1 (.Ub c):=by intro c z;simp_all [df]):Wc μ H μ (Qa H a o)/\Qc T μ (Qa H a o) (σ.set n ob):=by
 obtain⟨u,p,f,g⟩:∃ u,H a=W1 u/\(∀ xs,u≠.Sa xs)/\(∀ ob w,u≠.Ic ob w):=by
  have t:n<σ.length:=by rw[<-r.len];exact(aa.mp d).1
  obtain⟨s,f,g⟩:=r.obs n σ[n] ⋯;rw[d]at f;cases f;exact g.jG λc z=>q c ⋯
 have e:Wc μ H μ$ Qa H a o:=Xr (ya d) p f g;refine⟨e,by simp[r.len],r.nd,λm x h=>?_,r.tb.out (λb l=>Xd l)$ .inl$ ya d⟩;rw[Ef]at h;by_cases i:n=m
 ·subst i
  simp_all
 ·rw[ra i]at h;obtain⟨b,j,k⟩:=r.obs m x h;refine⟨b,j,k.mono e (Xd λz=>i ?_)⟩;subst z;exact vI r.nd d j
def Qc.at(r:Qc T μ H σ)(h:Ha T μ H (.ref n) v)(e:σ[n]?=W1 o):∃ a,v=.ref a/\μ[n]?=W1 a/\Yn T μ H a o:=by
 obtain⟨a,rfl,f⟩:=h;obtain⟨b,c,d⟩:=r.obs n o e
 simp_all
end
noncomputable def pa(i:Nat):Ev->M D:=λa b=>match a[i]? with
 |some (W1 d)=>.ok d b
 |_=>.Jb
noncomputable def eC(d:D):Ev->M D:=λa=>ret d
noncomputable def qM(o:D->D->M D)(m:M D)(x:D):M D:=rc m$ o x
def Eb(o:D->D->M D)(a b:Ev->M D):Ev->M D:=λc=>rc (a c)$ qM o$ b c
noncomputable def Pc(o:D->M D)(a:Ev->M D):Ev->M D:=λb=>rc (a b) o
noncomputable def AD(d:D):M Bool:=match d with
 | .bl b=>ret b
 |_=>Jb
def rj{a:Type}(p q:M a)(c:Bool):M a:=if c=š then p else q
noncomputable def KN(c:Bool):M Bool:=ret$ !c
def Dz{a:Type}(k:Bool->M a)(d:D):M a:=rc (AD d) k
def eT(f:Ev->M D):Ev->M Bool:=λa=>rc (f a) AD
noncomputable def wG(a b:Ev->M Bool):Ev->M Bool:=λc=>rc (a c)$ rj (b c)$ ret į
noncomputable def AC(a b:Ev->M Bool):Ev->M Bool:=λc=>rc (a c)$ rj (ret š)$ b c
def Bp(a:Ev->M Bool):Ev->M Bool:=λb=>rc (a b) KN
noncomputable def VI(a b:Ev->M D):Ev->M D:=λc=>rc (a c)$ Dz$ rj (b c)$ ret$ .bl į
noncomputable def bN(a b:Ev->M D):Ev->M D:=λc=>rc (a c)$ Dz$ rj (ret$ .bl š)$ b c
noncomputable def fP(c:Bool):M D:=ret$ .bl$ !c
def AW(a:Ev->M D):Ev->M D:=λb=>rc (a b)$ Dz fP
noncomputable def Pv(t:Ev->M Bool)(a b:Ev->M D):Ev->M D:=λc=>rc (t c)$ rj (a c)$ b c
noncomputable def Za:Ev->M (gV):=λa=>ret []
noncomputable def cN(x:D)(xs:gV):M$ gV:=ret$ x::xs
def qP(m:M$ gV)(x:D):M$ gV:=rc m$ cN x
def Ba(e:Ev->M D)(r:Ev->M (gV)):Ev->M (gV):=λa=>rc (e a)$ qP$ r a
def Zx(a:gV):M D:=if a.length<=Yf then ret (.Sa a)else Jb
def ah(a:Ev->M (gV)):Ev->M D:=λb=>rc (a b) Zx
noncomputable def Ey(b:gV):M D:=λa=>.ok (.ref a.length)$ a++[.qa b]
def CJ(a:gV):M D:=if a.length<=Yf then Ey a else Jb
def vr(a:Ev->M (gV)):Ev->M D:=λb=>rc (a b) CJ
def Wv(a:gV):M D:=if a.length<=Yf then ret (.qa a)else Jb
def Fn(a:Ev->M (gV)):Ev->M D:=λb=>rc (a b) Wv
def yk(T:Tb)(r:R2)(o:D->D->M D):Prop:=∀ (E:XK) a H b x y v u Q,Qc T a H b->Ha T a H x v->Ha T a H y u->Rb T E (Ha T) a H (o x y b) Q->r v u H Q
def CQ(T:Tb)(r:V->Hp->VK->Prop)(o:D->M D):Prop:=∀ (E:XK) a H b x v Q,Qc T a H b->Ha T a H x v->Rb T E (Ha T) a H (o x b) Q->r v H Q
def pr(T:Tb)(r:em->Hp->VK->Prop)(o:gV->M D):Prop:=∀ (E:XK) a H c xs b Q,Qc T a H c->xb T a H xs b->Rb T E (Ha T) a H (o xs c) Q->r b H Q
end Lake
open Lake.D renaming int->U,ref->O,qa->ώ,bl->Ϗ,Sa->ϐ,str->ϒ,Sb->Ϛ,za->Ϩ,Wg->ϭ,obj->ϸ
open Lake.Gi renaming ok->J,Jb->Ϙ
open Lake.Ob renaming za->ύ,qa->ϑ,ub->ϓ,Ub->ϣ
open Or renaming inl->ϔ,inr->ϕ
open L2.V renaming ref->ϖ,int->ϥ,bl->Ϭ
open PySem.W renaming Frag->ϗ,kitOne->Ϫ,fnOf->ϯ,kla_obj->ϲ,keepIn->Ϲ
open Lake.Fl renaming nx->ϙ
open L2.HO renaming dK->ϛ,Ic->Ϧ,ext->ϧ,qa->ϰ
open PySem.Expr renaming Name->Ϝ,Attribute->ϝ,Call->Ϡ,Subscript->ϡ,Tuple->ϳ,ListComp->ϴ,BoolOp->Ϸ
open PySem.Value renaming builtin->Ϟ
open PySem.Paired renaming cons->ϟ,nil->Ϣ
open PySem.ScopeKind renaming function->Ϥ
open PySem.Data renaming seq->ϩ,fields->ϫ
open Lake.Wc renaming refl->Ϯ
open False renaming elim->ϱ
open True renaming intro->ϵ
open Lake.Op renaming nx->Ϻ
open PySem.Stmt renaming Assign->ϻ
variable{T:Lake.Tb}{X:L2.Cx}
namespace Lake
open Spec L2
section
variable{a b c:Fa}{fa fb:Ev->M D}{ta tb:Ev->M Bool}{pos:Dd}
def Ij i(h:(X.N[i]?=W1 x)⁻¹)(l:QI X.env.scope x:=by first|exact Or.inl rfl|exact Or.inr$ Or.inl rfl|exact Or.inr$ Or.inr rfl)(hd: ~~~((x == ("__debug__" : Str))=į))
  (c: ~~~((x == ("__classdict__" : Str))=į)):FE T X (Ϝ x pos)$ pa i:=by
 rintro b s st H Q I ⟨m,ρ,n,j,k,a⟩;refine A6 h l hd c b s st H Q I ?_;unfold pa at a;cases e:ρ[i]? with
 |none=>rw[e]at a;exact a.elim
 |some o=>
  cases o with
  |none=>rw[e]at a;exact a.elim
  |some d=>
   rw[e]at a;obtain⟨v,f,g⟩:=j.2 i d e;exact⟨v,f,a.here k g⟩
def uC(h:PE X e$ tC v)(r:∀ b H,Ha T b H d v):FE T X e$ eC d:=by
 rintro a s g H Q I ⟨b,ρ,σ,i,f,c⟩;exact h a s g H Q I$ Rb.here c f$ r _ _
def VA{j}:FE T X (.Constant (.int i) j pos)$ eC$ U i:=uC X9 λa a=>by rw[Ha]
def A4{j}:FE T X (.Constant (.bool i) j pos)$ eC$ Ϗ i:=uC Α λa a=>by rw[Ha]
def č{j}:FE T X (.Constant .none j pos)$ eC Ϛ:=uC ygx λa a=>by rw[Ha]
def Ĝ{j}:FE T X (.Constant (.str i) j pos)$ eC$ ϒ i:=uC P0 λa a=>by rw[Ha]
def M1(a:Gl X x)(b:X.mg x=W1 u)(r:Rc (ϥ i) u)(hd: ~~~((x == ("__debug__" : Str))=į)):FE T X (Ϝ x pos)$ eC$ U i:=uC (rH a b r hd) λc c=>by rw[Ha]
def two(n:yk T r o)(h:tF T X (Eb o fa fb) f H Q):yD r (tF T X fa) (tF T X fb) f H Q:=by
 obtain⟨A,g,B,e,m,l⟩:=h;exact⟨A,g,B,e,m,l.bind λx c a v C D j w p s=>⟨a,g,c,e.mono j,w,s.bind λy d b u i D k z q t=>n _ b i d x y v u Q z (Ha.mono k _ _ p) q t⟩⟩
def yz(g:Ph X (De d) r)(i:yk T r o)(e:FE T X a fa)(f:FE T X b fb):FE T X (.BinOp a d b pos)$ Eb o fa fb:=
 λc s j H Q I h=>ĸ g e f c s j H Q I$ two i h
def Up(i:Ph X (Nb d) r)(j:yk T r o)(e:FE T X a fa)(f:FE T X b fb)(g:We d b=į):FE T X (.Compare a [d] [b] pos)$ Eb o fa fb:=
 λc s k H Q I h=>χ i e f g c s k H Q I$ two j h
def JM(f:Zw X r)(i:yk T r o)(d:FE T X a fa)(e:FE T X b fb)(g:UY b):FE T X (ϡ a b pos)$ Eb o fa fb:=
 λc s j H Q I h=>ê f d e g c s j H Q I$ two i h
def l7(j:uH X (unaryOp e) r)(m:CQ T r o)(g:FE T X a fa):FE T X (.UnaryOp e a pos)$ Pc o fa:=by
 intro b s t H Q I h;refine û j g b s t H Q I ?_;obtain⟨u,w,y,i,l,k⟩:=h;exact⟨u,w,y,i,l,k.bind λx d c v f A z q n p=>m _ c f d x v Q q n p⟩
def ZI{a}{b e}{R'}{k:Bool->M b}{Q:e->Hp->Prop}(r:Ha T a H d v)(h:Rb T E R' a H (rc (AD d) k σ) Q):∃ c,d=Ϗ c/\v=Ϭ c/\Rb T E R' a H (k c σ) Q:=by
 cases d with
 |bl c=>rw[Ha]at r;exact⟨c,rfl,r,h⟩
 |_=>exact h.elim
def HN{a}(r:Ha T a H d v)(h:Rb T E zP a H (AD d σ) Q):∃ c,v=Ϭ c/\Rb T E zP a H (J c σ) Q:=by
 cases d with
 |bl c=>rw[Ha]at r;exact⟨c,r,h⟩
 |_=>exact h.elim
def Sr(m:Ph X (Nb e) r)(t:yk T r o)(g:FE T X a fa)(i:FE T X b fb)(l:We e b=į):FT T X (.Compare a [e] [b] pos)$ eT$ Eb o fa fb:=by
 intro c s st H Q I h;refine KP m g i l c s st H Q I$ two t ?_;obtain⟨y,ρ,σ,j,p,n⟩:=h;refine⟨y,ρ,σ,j,p,n.bind λd A z v B d C x u w=>?_⟩;obtain⟨k,f,q⟩:=HN u w;exact⟨k,f,q.here x rfl⟩
def LC(h:FE T X e f)(i:∀ a,GB e X.env a=(do let v <-a;Ig e.pos;Ld [v] (truthy v)):=by intro _;rfl):FT T X e$ eT f:=by
 intro b s st H Q I m;refine VZ h i b s st H Q I ?_;obtain⟨r,ρ,σ,g,l,j⟩:=m;refine⟨r,ρ,σ,g,l,j.bind λd u t v w d x p n o=>?_⟩;obtain⟨k,c,q⟩:=HN n o;exact⟨k,c,q.here p rfl⟩
def xH(h:FT T X a ta):FT T X (.UnaryOp .Not a pos)$ Bp ta:=by
 intro b s l H Q I g;refine ĉ h b s l H Q I ?_;obtain⟨m,o,p,d,f,e⟩:=g;exact⟨m,o,p,d,f,e.bind λc q n v r c t k i j=>by cases i;exact j.here k rfl⟩
variable{rest:List Fa}
def zt9(h:FT T X a ta):FW T X (Ϸ .And [a] pos) ta:=r8 h
def NU(h:FT T X a ta):FW T X (Ϸ .Or [a] pos) ta:=p7 h
theorem Ü(h:FT T X a ta)(m:FW T X (Ϸ .And (b::rest) pos) tb):FW T X (Ϸ .And (a::b::rest) pos)$ wG ta tb:=by
 intro t e s r H Q I p;refine Ŗ h m t e s r H Q I ?_;obtain⟨u,k,w,i,o,n⟩:=p;refine⟨u,k,w,i,o,n.bind λc g f v x y l j q d=>?_⟩;cases q;cases c with
 |true=>unfold rj at d;rw[ja rfl]at d ⊢;exact⟨f,k,g,i.mono l,j,d⟩
 |false=>unfold rj at d;rw[ra yb]at d ⊢;exact d.here j rfl
def fY(h:FT T X a ta)(m:FW T X (Ϸ .Or (b::rest) pos) tb):FW T X (Ϸ .Or (a::b::rest) pos)$ AC ta tb:=by
 intro t e s r H Q I p;refine J1 h m t e s r H Q I ?_;obtain⟨u,k,w,i,o,n⟩:=p;refine⟨u,k,w,i,o,n.bind λc g f v x y l j q d=>?_⟩;cases q;cases c with
 |true=>unfold rj at d;rw[ja rfl]at d ⊢;exact d.here j rfl
 |false=>unfold rj at d;rw[ra yb]at d ⊢;exact⟨f,k,g,i.mono l,j,d⟩
def NL{op}(h:FE T X a fa):FE T X (Ϸ op [a] pos) fa:=YZ h
def wN(h:FE T X a fa)(m:FE T X (Ϸ .And (b::rest) pos) fb):FE T X (Ϸ .And (a::b::rest) pos)$ VI fa fb:=by
 intro e s u H Q I p;refine F8 h m e s u H Q I ?_;obtain⟨w,ρ,σ,i,o,n⟩:=p;refine⟨w,ρ,σ,i,o,n.bind λd g f v x d k j r t=>?_⟩;obtain⟨c,rfl,l,q⟩:=ZI r t;refine⟨c,l,?_⟩;cases c with
 |true=>unfold rj at q;rw[ja rfl]at q ⊢;exact⟨f,ρ,g,i.mono k,j,q⟩
 |false=>unfold rj at q;rw[ra yb]at q ⊢;exact Rb.here q j (by rw[Ha])
def j5(h:FE T X a fa)(m:FE T X (Ϸ .Or (b::rest) pos) fb):FE T X (Ϸ .Or (a::b::rest) pos)$ bN fa fb:=by
 intro e s u H Q I p;refine ė h m e s u H Q I ?_;obtain⟨w,ρ,σ,i,o,n⟩:=p;refine⟨w,ρ,σ,i,o,n.bind λd g f v x d k j r t=>?_⟩;obtain⟨c,rfl,l,q⟩:=ZI r t;refine⟨c,l,?_⟩;cases c with
 |true=>unfold rj at q;rw[ja rfl]at q ⊢;exact Rb.here q j (by rw[Ha])
 |false=>unfold rj at q;rw[ra yb]at q ⊢;exact⟨f,ρ,g,i.mono k,j,q⟩
def Η(h:FE T X a fa):FE T X (.UnaryOp .Not a pos)$ AW fa:=by
 intro b s n H Q I j;refine P9 h b s n H Q I ?_;obtain⟨o,ρ,σ,f,i,g⟩:=j;refine⟨o,ρ,σ,f,i,g.bind λd r p v t d u m k l=>?_⟩;obtain⟨c,rfl,e,q⟩:=ZI k l;exact⟨c,e,Rb.here q m (by rw[Ha])⟩
def xV(n:FT T X c ta)(l:FE T X a fa)(m:FE T X b fb):FE T X (.IfExp c a b pos)$ Pv ta fa fb:=by
 intro f s t H Q I q;refine Ű n l m f s t H Q I ?_;obtain⟨u,ρ,σ,i,p,o⟩:=q;refine⟨u,ρ,σ,i,p,o.bind λd h g v w x j k r e=>?_⟩;cases r;cases d with
 |true=>unfold rj at e;rw[ja rfl]at e ⊢;exact⟨g,ρ,h,i.mono j,k,e⟩
 |false=>unfold rj at e;rw[ra yb]at e ⊢;exact⟨g,ρ,h,i.mono j,k,e⟩
variable{e:Fa}{es:List Fa}{fe:Ev->M D}{fs:Ev->M (gV)}
def Lu:FA T X [] Za:=by
 intro pos a s e H Q I d;refine Tu pos a s e H Q I ?_;obtain⟨g,h,i,f,c,b⟩:=d;exact Rb.here b c xb.nil
def Hn(j:FE T X e fe)(b:FA T X es fs)(l:(na (e::es) X.env=(į,Ib e X.env)::na es X.env)⁻¹):FA T X (e::es)$ Ba fe fs:=by
 intro pos a s u H Q I m;refine qq j b l pos a s u H Q I ?_;obtain⟨w,ρ,σ,g,b,k⟩:=m;exact⟨w,ρ,σ,g,b,k.bind λd f c v z d h r n p=>⟨c,ρ,f,g.mono h,r,p.bind λB y x C A d i t o q=>Rb.here q t$ xb.cons (Ha.mono i _ _ n) o⟩⟩
def kP{a}{e}{c}(h:Rb T E (Ha T) a H (J (ϐ d) e) Q)(r:Qc T a H e)(q:xb T a H d c)(b:H p=ŋ):Q (ϖ p)$ Qa H p$ .Sa c:=
 h a _ _ (lj b) (r.fresh b) (by rw[Ha];exact⟨p,c,rfl,rf,xb.mono (lj b) _ _ q⟩)
def qD{c}{e}{b}(h:Rb T E (Ha T) c H (Ey d e) Q)(r:Qc T c H e)(q:xb T c H d b)(a:H p=ŋ):Q (ϖ p)$ Qa H p$ ϰ b:=
 h _ _ _ (Du a) (r.push a ⟨b,rf,xb.mono (Du a) _ _ q⟩)$ dC r
def tW{x1}(h:FA T X es fs):FE T X (ϳ es x1 pos)$ ah fs:=by
 intro a s l H Q I j;refine t6 h a s l H Q I ?_;obtain⟨m,o,q,g,i,d⟩:=j;refine⟨m,o,q,g,i,d.bind λf r n v t p u k e b=>?_⟩;unfold Zx at b;by_cases c:f.length<=Yf
 ·rw[ja c]at b;exact⟨by rw[<-e.length];exact EA c,λp d=>kP b k e d⟩
 ·rw[ra c]at b;exact b.elim
def A3(h:FA T X es fs):FE T X (.List es pos)$ vr fs:=by
 intro a s l H Q I j;refine MW h a s l H Q I ?_;obtain⟨m,o,q,g,i,d⟩:=j;refine⟨m,o,q,g,i,d.bind λf r n v t p u k e b=>?_⟩;unfold CJ at b;by_cases c:f.length<=Yf
 ·rw[ja c]at b;exact⟨by rw[<-e.length];exact EA c,λp d=>qD b k e d⟩
 ·rw[ra c]at b;exact b.elim
def EJ{b}{c}(h:Rb T E (Ha T) b H (J (ώ d) f) Q)(r:Qc T b H f)(q:xb T b H d c)(a:H p=ŋ):Q (ϖ p)$ Qa H p$ ϰ c:=
 h b _ _ (lj a) (r.fresh a) (by rw[Ha];exact⟨p,c,rfl,λg=>(by obtain⟨u,e,_⟩:=r.mem g;rw[a]at e;cases e),rf,xb.mono (lj a) _ _ q⟩)
def WZ(h:FA T X es fs):FE T X (.List es pos)$ Fn fs:=by
 intro a s l H Q I j;refine MW h a s l H Q I ?_;obtain⟨m,o,q,g,i,d⟩:=j;refine⟨m,o,q,g,i,d.bind λf r n v t p u k e b=>?_⟩;unfold Wv at b;by_cases c:f.length<=Yf
 ·rw[ja c]at b;exact⟨by rw[<-e.length];exact EA c,λp d=>EJ b k e d⟩
 ·rw[ra c]at b;exact b.elim
end
noncomputable def oI(g:Int->Int->Int):D->D->M D
 | U i,U j=>ret (U$ g i j)
 |_,_=>Jb
noncomputable def oB(g:Int->Int->Bool):D->D->M D
 | U i,U j=>ret (Ϗ$ g i j)
 |_,_=>Jb
noncomputable def jB(C:Int->Int->Bool)(g:Int->Int->Int):D->D->M D
 | U i,U j=>if C i j=š then ret (U$ g i j)else Jb
 |_,_=>Jb
def RN(_ j:Int):Bool:=qd$ decide (0<j) && decide (j<1073741824)
def rP(_ j:Int):Bool:=qd$ decide$ 0<j
def Zz(i j:Int):Bool:=qd$ decide (0<=j) && decide (j<=1000000) && decide (i.natAbs<2 ^ 64)
abbrev sA:=oI (λi j=>i - j)
abbrev rB:=jB RN (λi j=>i / j)
abbrev Mm:=jB rP (λi j=>i % j)
abbrev NC:=jB Zz (λi j=>i ^ j.toNat)
abbrev oLt:=oB (λi j=>decide$ i<j)
abbrev oLe:=oB (λi j=>decide$ i<=j)
abbrev xE:=oB (λi j=>decide$ j<i)
abbrev hD:=oB (λi j=>decide$ j<=i)
noncomputable def vT:D->M D
 | U i=>ret (U$ -i)
 |_=>Jb
noncomputable def rD(T:Tb)(o:D->D->M D):R2:=λv u H Q=>∃ (E:XK) (a:ac) (σ:Da) (x y:D),Qc T a H σ/\Ha T a H x v/\Ha T a H y u/\Rb T E (Ha T) a H (o x y σ) Q
def sw:yk T (rD T o) o:=λE a H b x y v u Q r p q h=>⟨E,a,b,x,y,r,p,q,h⟩
def jo(h:Ha T a H (U i) v):v=ϥ i:=by simpa [Ha]using h
def Ó:yk T (Hq λi j=>ϥ$ g i j)$ oI g:=by
 intro E a H b x y v u Q r p q h;cases x with
 |int i=>
  cases y with
  |int j=>exact⟨i,j,jo p,jo q,Rb.here h r (by rw[Ha])⟩
  |_=>exact h.elim
 |_=>exact h.elim
def kI:yk T (Hq λi j=>Ϭ$ g i j)$ oB g:=by
 intro E a H b x y v u Q r p q h;cases x with
 |int i=>
  cases y with
  |int j=>exact⟨i,j,jo p,jo q,Rb.here h r (by rw[Ha])⟩
  |_=>exact h.elim
 |_=>exact h.elim
def lM(d:∀ i j,C i j=š->b i j):yk T (rI b λi j=>ϥ$ g i j)$ jB C g:=by
 intro E f H k x y v u Q r p q h;cases x with
 |int i=>
  cases y with
  |int j=>
   by_cases a:C i j=š
   ·have c:Rb T E (Ha T) f H (ret (U$ g i j) k) Q:=by
     have e:jB C g (U i) (U j)=ret (U$ g i j):=by show (if C i j=š then _ else _)=_;rw[ja a]
     simp_all
    exact⟨i,j,jo p,jo q,d i j a,Rb.here c r (by rw[Ha])⟩
   ·have e:jB C g (U i) (U j)=Jb:=by show (if C i j=š then _ else _)=_;rw[ra a]
    rw[e]at h;exact h.elim
  |_=>exact h.elim
 |_=>exact h.elim
def U0:yk T (Hq λi j=>ϥ$ i - j) sA:=Ó
def zzt:yk T (rI NW λi j=>ϥ$ i / j) rB:=lM λi j h=>by
 simp[RN]at h;exact h
def vW:yk T (rI (λa j=>0<j) λi j=>ϥ$ i % j) Mm:=lM λi j h=>by
 simp[rP]at h;exact h
def zzy:yk T (rI RY λi j=>ϥ$ i ^ j.toNat) NC:=lM λi j h=>by
 simp[Zz]at h;exact⟨h.1.1,h.1.2,h.2⟩
def PH:yk T (Hq λi j=>Ϭ$ decide$ i<j) oLt:=kI
def EG:yk T (Hq λi j=>Ϭ$ decide$ i<=j) oLe:=kI
def eZ:yk T (Hq λi j=>Ϭ$ decide$ j<i) xE:=kI
def AL:yk T (Hq λi j=>Ϭ$ decide$ j<=i) hD:=kI
def XZ:CQ T (rU λi=>ϥ$ -i) vT:=by
 intro E a H b x v Q r p h;cases x with
 |int i=>exact⟨i,jo p,Rb.here h r (by rw[Ha])⟩
 |_=>exact h.elim
noncomputable def sc:D->Option V
 | Ϛ=>W1 .Sb
 | Ϗ b=>W1 (Ϭ b)
 | U i=>W1 (ϥ i)
 | ϒ x=>W1 (.str x)
 |_=>ŋ
noncomputable def df(a:Da)(n:Nat):Option$ gV:=match a[n]? with
 |some (ϑ xs)=>W1 xs
 |_=>ŋ
theorem SI{xs}(h:df a n=W1 xs):a[n]?=W1 (ϑ xs):=by
 unfold df at h;cases e:a[n]? with
 |none=>simp_all
 |some o=>rw[e]at h;cases o<;>simp at h;subst h;rfl
inductive Kd where
 |s (v:V)|t (xs:gV)|l (xs:gV)|o
def kd(a:Da):D->Kd
 | Ϛ=>.s .Sb
 | Ϗ b=>.s (Ϭ b)
 | U i=>.s (ϥ i)
 | ϒ x=>.s (.str x)
 | ϐ xs=>.t xs
 | ώ xs=>.l xs
 | O n=>match df a n with
  |some xs=>.l xs
  |none=>.o
 |_=>.o
noncomputable def ln(f:D->D->Option Bool):gV->gV->Option Bool
 |[],[]=>W1 š
 |[],_::_=>W1 į
 |_::_,[]=>W1 į
 |x::xs,y::a=>match f x y,ln f xs a with
  |some b,W1 c=>W1 (b && c)
  |_,_=>ŋ
def gG(f:D->D->Option Bool):Kd->Kd->Option Bool
 | .s a,.s b=>W1 (uq a b)
 | .t xs,.t c=>ln f xs c
 | .l xs,.l c=>ln f xs c
 | .s _,.t _=>W1 į
 | .t _,.s _=>W1 į
 | .s _,.l _=>W1 į
 | .l _,.s _=>W1 į
 | .t _,.l _=>W1 į
 | .l _,.t _=>W1 į
 |_,_=>ŋ
def bp(a:Da):Nat->D->D->Option Bool
 |0,x,y=>gG (λb b=>ŋ) (kd a x) (kd a y)
 |n+1,x,y=>gG (bp a n) (kd a x) (kd a y)
noncomputable def Js(f:D->D->Option Bool)(xs c:gV)(j:Nat):Bool:=match xs[j]?,c[j]? with
 |some a,W1 b=>(f a b).getD į
 |_,_=>į
theorem GR(f:D->D->Option Bool):∀ (xs d:gV) (b:Bool),ln f xs d=W1 b->
  (∀ (j:Nat) (a c:D),xs[j]?=W1 a->d[j]?=W1 c->∃ k,f a c=W1 k)/\b=((List.range$ min xs.length d.length).all (Js f xs d) && xs.length == d.length)
 |[],[],b,h=>by simp[ln]at h;subst h;simp
 |[],y::d,b,h=>by simp[ln]at h;subst h;simp
 |x::xs,[],b,h=>by simp[ln]at h;subst h;simp
 |x::xs,y::d,b,h=>by
  unfold ln at h;cases e:f x y with
  |none=>simp_all
  |some i=>
   cases g:ln f xs d with
   |none=>rw[e,g]at h;cases h
   |some l=>
    rw[e,g]at h;cases h;obtain⟨r,s⟩:=GR f xs d l g;refine⟨λj a c t u=>?_,?_⟩
    ·cases j with
     |zero=>simp_all
     |succ j=>exact r j a c (by simpa using t) (by assumption)
    ·have m:min (x::xs).length (y::d).length=min xs.length d.length+1:=by simp
     have n:∀ j,Js f (x::xs) (y::d) (j+1)=Js f xs d j:=λj=>by simp[Js]
     have o:Js f (x::xs) (y::d) 0=i:=by simp[Js,e]
     rw[m,Zp,jf,Ek,o,s];have p:(Js f _ _ ∘ Nat.succ)=Js f xs d:=funext λj=>n j;have q:((x::xs).length == (y::d).length)=(xs.length == d.length):=by simp
     rw[p,q,Jz]
section
variable{T:Tb}{μ:ac}{H:Hp}{σ:Da}
def Qc.qa(r:Qc T μ H σ){n}{v}{xs}(h:Ha T μ H (O n) v)(e:df σ n=W1 xs):∃ a b,v=ϖ a/\μ[n]?=W1 a/\H a=W1 (ϰ b)/\xb T μ H xs b:=by
 obtain⟨a,rfl,c,b,d,f⟩:=r.at h (SI e);exact⟨a,b,rfl,c,d,f⟩
def AI(h:Ha T μ H d v)(e:sc d=W1 a):v=a:=by
 cases d<;>cases e<;>simpa [Ha]using h
theorem FQ(e:sc d=W1 a):xo a=š:=by
 cases d<;>cases e<;>rfl
def O6(h:xo a=š):uq a a=š:=by cases a<;>first|exact Ke _|rfl|cases h
def Ry(r:Qc T μ H σ){d:D}{v:V}(h:Ha T μ H d v):match kd σ d with
  | .s a=>v=a/\xo a=š
  | .t xs=>∃ p c,v=ϖ p/\H p=W1 (.Sa c)/\xb T μ H xs c
  | .l xs=>∃ p c,v=ϖ p/\H p=W1 (ϰ c)/\xb T μ H xs c
  | .o=>True:=by
 cases d with
 |Sb=>exact⟨by simpa [Ha]using h,rfl⟩
 |bl b=>exact⟨by simpa [Ha]using h,rfl⟩
 |int b=>exact⟨by simpa [Ha]using h,rfl⟩
 |str b=>exact⟨by simpa [Ha]using h,rfl⟩
 |Sa xs=>rw[Ha]at h;exact h
 |qa xs=>rw[Ha]at h;obtain⟨a,c,f,_,g,i⟩:=h;exact⟨a,c,f,g,i⟩
 |ref n=>
  unfold kd;dsimp only;cases e:df σ n with
  |none=>trivial
  |some xs=>obtain⟨a,c,f,_,g,i⟩:=r.qa h e;exact⟨a,c,f,g,i⟩
 |_=>trivial
theorem aP{f:D->D->Option Bool}(j:∀ (x y:D) (v:V) (b:Bool),Ha T μ H x v->Ha T μ H y v->f x y=W1 b->b=š):∀ (xs a:gV) (e:em) (b:Bool),xb T μ H xs e->xb T μ H a e->ln f xs a=W1 b->b=š
 |[],a,e,b,d,c,h=>by
  rw[xb]at d;subst d;cases a with
  |nil=>simp[ln]at h;exact h
  |cons y a=>rw[xb]at c;obtain⟨_,_,z,_⟩:=c;cases z
 |x::xs,a,e,b,d,c,h=>by
  rw[xb]at d;obtain⟨v,r,rfl,m,o⟩:=d;cases a with
  |nil=>rw[xb]at c;cases c
  |cons y a=>
   rw[xb]at c;obtain⟨s,q,z,n,p⟩:=c;cases z;unfold ln at h;cases g:f x y with
   |none=>simp_all
   |some k=>
    cases i:ln f xs a with
    |none=>simp_all
    |some l=>
     rw[g,i]at h;cases h;rw[j x y v k m n g,aP j xs a r l o p i];rfl
def zK(r:Qc T μ H σ)(z:∀ x y v b,Ha T μ H x v->Ha T μ H y v->f x y=W1 b->b=š)(A:Ha T μ H x v)(B:Ha T μ H y v)(h:gG f (kd σ x) (kd σ y)=W1 b):b=š:=by
 have k:=Ry r A;have d:=Ry r B;generalize kd σ x=C at h k;generalize kd σ y=n at h d;cases C with
 |s a=>
  obtain⟨rfl,fa⟩:=k;cases n with
  |s c=>obtain⟨rfl,_⟩:=d;cases h;exact O6 fa
  |t xs=>obtain⟨p,i,rfl,_⟩:=d;cases fa
  |l xs=>obtain⟨p,i,rfl,_⟩:=d;cases fa
  |o=>cases h
 |t xs=>
  obtain⟨p,i,rfl,m,u⟩:=k;cases n with
  |s c=>obtain⟨e,fa⟩:=d;rw[<-e]at fa;cases fa
  |t j=>
   obtain⟨q,ws,e,g,w⟩:=d;cases e;rw[m]at g;cases g;exact aP z xs j i b u w h
  |l j=>simp_all
  |o=>cases h
 |l xs=>
  obtain⟨p,i,rfl,m,u⟩:=k;cases n with
  |s c=>obtain⟨e,fa⟩:=d;rw[<-e]at fa;cases fa
  |t j=>simp_all
  |l j=>
   obtain⟨q,ws,e,g,w⟩:=d;cases e;rw[m]at g;cases g;exact aP z xs j i b u w h
  |o=>cases h
 |o=>cases h
theorem QS(r:Qc T μ H σ):∀ (n:Nat) (x y:D) (v:V) (b:Bool),Ha T μ H x v->Ha T μ H y v->bp σ n x y=W1 b->b=š
 |0,x,y,v,b,a,c,h=>zK r (λg g g g g g z=>by cases z) a c h
 |n+1,x,y,v,b,a,c,h=>zK r (λx y v b d e f=>QS r n x y v b d e f) a c h
end
section
variable{pins:List$ Addr × Obj}{st:St}{μ:ac}{H:Hp}{s:Shared}{σ:Da}
def sI(fa:xo a=š)(r:Rc a u)(c:s.heap.IsTuple p e)(d:A.units<cLine):Dc A s u (Db p) į/\Dc A s (Db p) u į/\Og A s u (Db p) į/\Og A s (Db p) u į/\Gg A s u (Db p) š/\Gg A s (Db p) u š:=by
 cases a with
 |Sb=>cases r;exact⟨.none_tuple c d,.tuple_none c d,.none_tuple c d,.tuple_none c d,.none_tuple c d,.tuple_none c d⟩
 |bl b=>cases r;exact⟨.bool_tuple b c d,.tuple_bool b c d,.bool_tuple b c d,.tuple_bool b c d,.bool_tuple b c d,.tuple_bool b c d⟩
 |int b=>obtain⟨t,rfl⟩:=r;exact⟨.int_tuple b t c d,.tuple_int b t c d,.int_tuple b t c d,.tuple_int b t c d,.int_tuple b t c d,.tuple_int b t c d⟩
 |str b=>obtain⟨t,rfl⟩:=r;exact⟨.str_tuple b t c d,.tuple_str b t c d,.str_tuple b t c d,.tuple_str b t c d,.str_tuple b t c d,.tuple_str b t c d⟩
 |_=>cases fa
def LV(fa:xo a=š)(r:Rc a u)(c:s.heap.IsList p e)(d:A.units<cLine):Og A s u (Db p) į/\Og A s (Db p) u į/\Gg A s u (Db p) š/\Gg A s (Db p) u š:=by
 cases a with
 |Sb=>cases r;exact⟨.none_list c d,.list_none c d,.none_list c d,.list_none c d⟩
 |bl b=>cases r;exact⟨.bool_list b c d,.list_bool b c d,.bool_list b c d,.list_bool b c d⟩
 |int b=>obtain⟨t,rfl⟩:=r;exact⟨.int_list b t c d,.list_int b t c d,.int_list b t c d,.list_int b t c d⟩
 |str b=>obtain⟨t,rfl⟩:=r;exact⟨.str_list b t c d,.list_str b t c d,.str_list b t c d,.list_str b t c d⟩
 |_=>cases fa
def zdp(fa:xo a=š)(r:Rc a u)(c:s.heap.IsList p e)(d:A.units<cLine):Dc A s u (Db p) į:=by
 cases a with
 |Sb=>cases r;exact .none_list c d
 |bl b=>cases r;exact .bool_list b c d
 |int b=>obtain⟨t,rfl⟩:=r;exact .int_list b t c d
 |str b=>obtain⟨t,rfl⟩:=r;exact .str_list b t c d
 |_=>trivial
def zc5(fa:xo a=š)(r:Rc a u)(c:s.heap.IsList p e)(d:A.units<cLine):Dc A s (Db p) u į:=by
 cases a with
 |Sb=>cases r;exact .list_none c d
 |bl b=>cases r;exact .list_bool b c d
 |int b=>obtain⟨t,rfl⟩:=r;exact .list_int b t c d
 |str b=>obtain⟨t,rfl⟩:=r;exact .list_str b t c d
 |_=>trivial
def ypv(f:Rc a u)(d:Rc b w)(fa:xo a=š)(e:xo b=š):Og A s u w (uq a b)/\Gg A s u w (!uq a b):=by
 cases a with
 |Sb=>
  cases f;cases b with
  |Sb=>cases d;exact⟨.none_none,.none_none⟩
  |bl y=>cases d;exact⟨.none_bool y,.none_bool y⟩
  |int y=>obtain⟨t,rfl⟩:=d;exact⟨.none_int y t,.none_int y t⟩
  |str y=>obtain⟨t,rfl⟩:=d;exact⟨.none_str y t,.none_str y t⟩
  |_=>cases e
 |bl x=>
  cases f;cases b with
  |Sb=>cases d;exact⟨.bool_none x,.bool_none x⟩
  |bl y=>cases d;exact⟨.bool_bool x y,.bool_bool x y⟩
  |int y=>obtain⟨t,rfl⟩:=d;exact⟨.bool_int x y t,.bool_int x y t⟩
  |str y=>obtain⟨t,rfl⟩:=d;exact⟨.bool_str x y t,.bool_str x y t⟩
  |_=>cases e
 |int x=>
  obtain⟨c,rfl⟩:=f;cases b with
  |Sb=>cases d;exact⟨.int_none x c,.int_none x c⟩
  |bl y=>cases d;exact⟨.int_bool x c y,.int_bool x c y⟩
  |int y=>obtain⟨t,rfl⟩:=d;exact⟨.int_int x c y t,.int_int x c y t⟩
  |str y=>obtain⟨t,rfl⟩:=d;exact⟨.int_str x c y t,.int_str x c y t⟩
  |_=>cases e
 |str x=>
  obtain⟨c,rfl⟩:=f;cases b with
  |Sb=>cases d;exact⟨.str_none x c,.str_none x c⟩
  |bl y=>cases d;exact⟨.str_bool x c y,.str_bool x c y⟩
  |int y=>obtain⟨t,rfl⟩:=d;exact⟨.str_int x c y t,.str_int x c y t⟩
  |str y=>obtain⟨t,rfl⟩:=d;exact⟨.str_str x c y t,.str_str x c y t⟩
  |_=>cases e
 |_=>cases fa
def DJ{xs}{i:Nat}(r:ke xs a)(h:a[i]?=W1 u):∃ x,xs[i]?=W1 x/\Rc x u:=by
 have e:=r.length;have d:=(aa.mp h).1;obtain⟨f,b,c⟩:=r.get (i:=i) (x:=xs[i]'⋯) ⋯
 simp_all
def lO{i:Nat}(r:xb T μ H a b)(h:b[i]?=W1 v):∃ d,a[i]?=W1 d/\Ha T μ H d v:=by
 have g:=r.length;have f:=(aa.mp h).1;obtain⟨j,c,e⟩:=r.get (i:=i) (d:=a[i]'⋯) ⋯
 simp_all
def yN(I:∀ x y v w z C b,Ha T μ H x v->Ha T μ H y w->Rc v z->Rc w C->f x y=W1 b->Dc A s z C b)
  {xs c} (r:xb T μ H xs B) (t:xb T μ H c ws) (p:ke B a) (q:ke ws d) (h:ln f xs c=W1 b) :
  (∀ j (n:j<a.toArray.size) (o:j<d.toArray.size),Dc A s a.toArray[j] d.toArray[j] (Js f xs c j))/\b=((List.range$ min a.toArray.size d.toArray.size).all (Js f xs c) && a.toArray.size == d.toArray.size):=by
 obtain⟨n,o⟩:=GR f xs c b h;refine⟨λj L M=>?_,?_⟩
 ·obtain⟨v,E,K⟩:=DJ (i:=j) (u:=a.toArray[j]) p ⋯;obtain⟨w,F,e⟩:=DJ (i:=j) (u:=d.toArray[j]) q ⋯;obtain⟨x,g,ό⟩:=lO r E;obtain⟨y,l,p4⟩:=lO t F;obtain⟨k,m⟩:=n j x y g l;have G:Js f xs c j=k:=by simp[Js,g,l,m]
  rw[G];exact I x y v w _ _ k ό p4 K e m
 ·simp;rw[o,r.length,t.length,p.length,q.length]
abbrev nV(A:Ia)(s:Shared)(v w:Value)(b:Bool):Prop:=Og A s v w b/\Gg A s v w (!b)
def rM(I:gb X pins st H s)(r:Qc T μ H σ)(hu:A.units+1<cLine)
  (hf:∀ x y v w ϋ P b,Ha T μ H x v->Ha T μ H y w->Rc v ϋ->Rc w P->f x y=W1 b->Dc A.in1 s ϋ P b) (hx:Ha T μ H x v) (hy:Ha T μ H y w) (N:Rc v ϋ) (d:Rc w P) (h:gG f (kd σ x) (kd σ y)=W1 b):nV A s ϋ P b:=by
 have g:A.units<cLine:=by lia
 have R:=Ry r hx;have m:=Ry r hy;generalize kd σ x=k1 at h R;generalize kd σ y=ϊ at h m;cases k1 with
 |o=>cases h
 |s a=>
  obtain⟨rfl,fa⟩:=R;cases ϊ with
  |o=>cases h
  |s c=>obtain⟨rfl,K⟩:=m;cases h;exact ypv N d fa K
  |t C=>
   obtain⟨q,ws,rfl,j,z⟩:=m;cases h;cases d;obtain⟨k,_,u,_⟩:=L2.gb.tuple I (Yg.of j);obtain⟨_,_,E,F,G,ό⟩:=sI fa N u g;exact⟨E,G⟩
  |l C=>
   obtain⟨q,ws,rfl,j,z⟩:=m;cases h;cases d;obtain⟨k,_,pl,_⟩:=L2.gb.list I (Xe.of j);obtain⟨E,F,G,ό⟩:=LV fa N pl.isList g;exact⟨E,G⟩
 |t xs=>
  obtain⟨p,vs,rfl,S,Z⟩:=R;cases N;obtain⟨k,W,M,_⟩:=L2.gb.tuple I (Yg.of S);cases ϊ with
  |o=>cases h
  |s c=>
   obtain⟨rfl,K⟩:=m;cases h;obtain⟨_,_,E,F,G,ό⟩:=sI K d M g;exact⟨F,ό⟩
  |t C=>
   obtain⟨q,ws,rfl,j,z⟩:=m;cases d;obtain⟨i,Y,u,_⟩:=L2.gb.tuple I (Yg.of j);obtain⟨L,Q⟩:=yN hf Z z W Y h;rw[Q];exact⟨.tuples M u ⋯ L,.tuples M u ⋯ L⟩
  |l C=>
   obtain⟨q,ws,rfl,j,z⟩:=m;cases h;cases d;obtain⟨i,_,pl,_⟩:=L2.gb.list I (Xe.of j);exact⟨.tuple_list M pl.isList g,.tuple_list M pl.isList g⟩
 |l xs=>
  obtain⟨p,vs,rfl,S,Z⟩:=R;cases N;obtain⟨k,W,pl,_⟩:=L2.gb.list I (Xe.of S);cases ϊ with
  |o=>cases h
  |s c=>
   obtain⟨rfl,K⟩:=m;cases h;obtain⟨E,F,G,ό⟩:=LV K d pl.isList g;exact⟨F,ό⟩
  |t C=>
   obtain⟨q,ws,rfl,j,z⟩:=m;cases h;cases d;obtain⟨i,_,u,_⟩:=L2.gb.tuple I (Yg.of j);exact⟨.list_tuple pl.isList u g,.list_tuple pl.isList u g⟩
  |l C=>
   obtain⟨q,ws,rfl,j,z⟩:=m;cases d;obtain⟨i,Y,n,_⟩:=L2.gb.list I (Xe.of j);obtain⟨L,Q⟩:=yN hf Z z W Y h;by_cases B:k.toArray.size=i.toArray.size
   ·have e:b=(List.range k.toArray.size).all (Js f xs C):=by rw[Q,<-B];simp
    rw[e];exact⟨.lists pl.isList n.isList B ⋯ L,.lists pl.isList n.isList B ⋯ L⟩
   ·have e:b=į:=by rw[Q,Od.mpr B,Jn]
    rw[e];exact⟨.lists_lengths pl.isList n.isList (by simpa using B) ⋯,.lists_lengths pl.isList n.isList (by simpa using B) ⋯⟩
def ZT(I:gb X pins st H s)(r:Qc T μ H σ)(ϊ:A.units+1<cLine)
  (P:∀ x y v w C E b,Ha T μ H x v->Ha T μ H y w->Rc v C->Rc w E->f x y=W1 b->Dc A.in1 s C E b)
  (S:∀ x y v b,Ha T μ H x v->Ha T μ H y v->f x y=W1 b->b=š) (F:Ha T μ H x v) (G:Ha T μ H y w) (m:Rc v C) (d:Rc w E) (h:gG f (kd σ x) (kd σ y)=W1 b):Dc A s C E b:=by
 have j:A.units<cLine:=by lia
 have ό:=(rM I r ϊ P F G m d h).1;by_cases i:v=w
 ·subst i;have ϋ:=zK r S F G h;have k:=Ry r F;have g:=Ry r G;generalize kd σ x=M at h k;generalize kd σ y=B at h g;cases M with
  |o=>cases h
  |s a=>
   obtain⟨rfl,fa⟩:=k;cases B with
   |o=>cases h
   |s c=>obtain⟨rfl,n⟩:=g;cases h;exact rO m d fa n
   |t z=>obtain⟨q,ws,e,_⟩:=g;rw[e]at fa;cases fa
   |l z=>obtain⟨q,ws,e,_⟩:=g;rw[e]at fa;cases fa
  |t xs=>
   obtain⟨p,N,rfl,_⟩:=k;cases m;cases d;rw[ϋ];exact Mj _
  |l xs=>
   obtain⟨p,N,rfl,_⟩:=k;cases m;cases d;rw[ϋ];exact Mj _
 ·have k:=Ry r F;have g:=Ry r G;generalize kd σ x=M at h k;generalize kd σ y=B at h g;cases M with
  |o=>cases h
  |s a=>
   obtain⟨rfl,fa⟩:=k;cases B with
   |o=>cases h
   |s c=>obtain⟨rfl,n⟩:=g;cases h;exact rO m d fa n
   |t z=>
    obtain⟨q,ws,rfl,L,Y⟩:=g;cases h;cases d;obtain⟨u,_,R,_⟩:=L2.gb.tuple I (Yg.of L);exact(sI fa m R j).1
   |l z=>
    obtain⟨q,ws,rfl,L,Y⟩:=g;cases h;cases d;obtain⟨u,_,pl,_⟩:=L2.gb.list I (Xe.of L);exact zdp fa m pl.isList j
  |t xs=>
   obtain⟨p,N,rfl,K,W⟩:=k;cases m;cases B with
   |o=>cases h
   |s c=>
    obtain⟨rfl,n⟩:=g;cases h;obtain⟨u,_,Q,_⟩:=L2.gb.tuple I (Yg.of K);exact(sI n d Q j).2.1
   |t z=>obtain⟨q,ws,rfl,_⟩:=g;cases d;exact .of_refs (λe=>i (by rw[e])) ό
   |l z=>obtain⟨q,ws,rfl,_⟩:=g;cases d;exact .of_refs (λe=>i (by rw[e])) ό
  |l xs=>
   obtain⟨p,N,rfl,K,W⟩:=k;cases m;cases B with
   |o=>cases h
   |s c=>
    obtain⟨rfl,n⟩:=g;cases h;obtain⟨u,_,pl,_⟩:=L2.gb.list I (Xe.of K);exact zc5 n d pl.isList j
   |t z=>obtain⟨q,ws,rfl,_⟩:=g;cases d;exact .of_refs (λe=>i (by rw[e])) ό
   |l z=>obtain⟨q,ws,rfl,_⟩:=g;cases d;exact .of_refs (λe=>i (by rw[e])) ό
theorem BI(I:gb X pins st H s)(r:Qc T μ H σ):∀ (n:Nat) (A:Ia) (x y:D) (v w:V) (c d:Value) (b:Bool),A.units+n+1<cLine->Ha T μ H x v->Ha T μ H y w->Rc v c->Rc w d->bp σ n x y=W1 b->Dc A s c d b
 |0,A,x,y,v,w,c,d,b,o,i,j,k,a,h=>ZT I r ⋯ (λp p p p p p p p p p p z=>by cases z) (λp p p p p p z=>by cases z) i j k a h
 |n+1,A,x,y,v,w,c,d,b,o,i,j,k,a,h=>ZT I r ⋯ (λx y v w c d b e f g l m=>BI I r n A.in1 x y v w c d b (by show A.units+1+n+1<cLine;lia) e f g l m) (λx y v b e f g=>QS r n x y v b e f g) i j k a h
def fU(I:gb X pins st H s)(r:Qc T μ H σ) n(o:A.units+n+1<cLine)(e:Ha T μ H x v)(f:Ha T μ H y w)(g:Rc v c)(a:Rc w d)(h:bp σ n x y=W1 b):nV A s c d b:=by
 cases n with
 |zero=>exact rM I r ⋯ (λp p p p p p p p p p p z=>by cases z) e f g a h
 |succ n=>exact rM I r ⋯ (λx y v w c d b i j k l m=>BI I r n A.in1 x y v w c d b (by show A.units+1+n+1<cLine;lia) i j k l m) e f g a h
end
section
variable{pins:List$ Addr × Obj}{st:St}{μ:ac}{H:Hp}{s:Shared}{σ:Da}
def Zi(x y:D):M D:=λσ=>match bp σ 8 x y with
 |some b=>J (Ϗ b) σ
 |none=>Ϙ
def Ki(x y:D):M D:=λσ=>match bp σ 8 x y with
 |some b=>J (Ϗ$ !b) σ
 |none=>Ϙ
def vR(h:X.A.units+9<cLine):Ph X (Nb .Eq)$ rD T Zi:=by
 rintro pins s st H v u j i Q I g f ⟨E,μ,σ,x,y,r,c,d,a⟩;unfold Zi at a;cases e:bp σ 8 x y with
 |none=>rw[e]at a;exact a.elim
 |some b=>
  rw[e]at a;have:=(fU I r 8 ⋯ c d g f e).1 X.prog X.w X.xe (EP X pins st Q) ⟨Ϭ b,H,I,rfl,Rb.here a r (by rw[Ha])⟩;exact this
def wS(h:X.A.units+9<cLine):Ph X (Nb .NotEq)$ rD T Ki:=by
 rintro pins s st H v u j i Q I g f ⟨E,μ,σ,x,y,r,c,d,a⟩;unfold Ki at a;cases e:bp σ 8 x y with
 |none=>rw[e]at a;exact a.elim
 |some b=>
  rw[e]at a;have:=(fU I r 8 ⋯ c d g f e).2 X.prog X.w X.xe (EP X pins st Q) ⟨Ϭ _,H,I,rfl,Rb.here a r (by rw[Ha])⟩;exact this
noncomputable def Zr(x y:D):M D:=λσ=>match y with
 | Ϛ=>(match x with
  | Ϛ=>J (Ϗ š) σ
  |_=>J (Ϗ į) σ)
 |_=>Ϙ
noncomputable def ZK(x y:D):M D:=λσ=>match y with
 | Ϛ=>(match x with
  | Ϛ=>J (Ϗ į) σ
  |_=>J (Ϗ š) σ)
 |_=>Ϙ
def lW(h:Ha T μ H x v):decide (v=.Sb)=(match x with | Ϛ=>š|_=>į):=by
 cases x with
 |Sb=>rw[Ha]at h;subst h;rfl
 |Sa ds=>rw[Ha]at h;obtain⟨p,_,rfl,_⟩:=h;simp
 |Wg ds=>rw[Ha]at h;obtain⟨p,rfl,_⟩:=h;simp
 |ref ds=>rw[Ha]at h;obtain⟨p,rfl,_⟩:=h;simp
 |qa ds=>rw[Ha]at h;obtain⟨p,_,rfl,_⟩:=h;simp
 |za ks ds=>rw[Ha]at h;obtain⟨p,_,rfl,_⟩:=h;simp
 |obj c ks ds=>rw[Ha]at h;obtain⟨p,_,_,rfl,_⟩:=h;simp
 |tw c=>rw[Ha]at h;obtain⟨p,_,rfl,_⟩:=h;simp
 |gt ds=>rw[Ha]at h;obtain⟨p,rfl,_⟩:=h;simp
 |_=>rw[Ha]at h;subst h;simp
def yV:yk T (λx y H Q=>y=.Sb/\Q (Ϭ$ decide$ x=.Sb) H) Zr:=by
 intro E μ H σ x y v u Q r p q h;cases y with
 |Sb=>
  refine⟨by rw[Ha]at q;exact q,?_⟩;rw[lW p];cases x<;>exact Rb.here h r (by rw[Ha])
 |_=>exact h.elim
def AU:yk T (λx y H Q=>y=.Sb/\Q (Ϭ$ !decide (x=.Sb)) H) ZK:=by
 intro E μ H σ x y v u Q r p q h;cases y with
 |Sb=>
  refine⟨by rw[Ha]at q;exact q,?_⟩;rw[lW p];cases x<;>exact Rb.here h r (by rw[Ha]<;>rfl)
 |_=>exact h.elim
def N6(r:xb T μ H a b)(h:rp a k=W1 d):∃ v,rp b k=W1 v/\Ha T μ H d v:=by
 unfold rp at h ⊢;rw[<-r.length];cases e:ot a.length k with
 |none=>simp_all
 |some j=>rw[e]at h;exact r.get h
theorem fJ:∀ (a:dd),xb T μ H (a.map U) (a.map ϥ)
 |[]=>xb.nil
 |n::a=>xb.cons (by rw[Ha]) (fJ a)
def jl(σ:Da):D->Option (gV)
 | ϐ xs=>W1 xs
 | ϭ ns=>W1 (ns.map U)
 | O n=>df σ n
 | ώ xs=>W1 xs
 | .gt ss=>W1 (ss.map ϒ)
 |_=>ŋ
def Fb(x i:D):M D:=λσ=>match i with
 | U k=>(match jl σ x with
  |some xs=>(match rp xs k with
   |some d=>J d σ
   |none=>Ϙ)
  |none=>Ϙ)
 |_=>Ϙ
theorem YP:∀ (a:ab),xb T μ H (a.map ϒ) (a.map V.str)
 |[]=>xb.nil
 |n::ns=>xb.cons (by rw[Ha]) (YP ns)
def iA(r:Qc T μ H σ){xs}(h:Ha T μ H x v)(e:jl σ x=W1 xs):∃ p c,v=ϖ p/\xb T μ H xs c/\(Xe T.K H p c\/Yg T.K H p c):=by
 cases x with
 |Sa ds=>cases e;rw[Ha]at h;obtain⟨p,c,rfl,b,d⟩:=h;exact⟨p,c,rfl,d,ϕ$ Yg.of b⟩
 |Wg ns=>cases e;rw[Ha]at h;obtain⟨p,rfl,b⟩:=h;exact⟨p,_,rfl,fJ ns,ϔ b.seq⟩
 |ref n=>obtain⟨a,c,rfl,_,b,d⟩:=r.qa h e;exact⟨a,c,rfl,d,ϔ$ Xe.of b⟩
 |qa ds=>cases e;rw[Ha]at h;obtain⟨p,c,rfl,_,b,d⟩:=h;exact⟨p,c,rfl,d,ϔ$ Xe.of b⟩
 |gt ss=>cases e;rw[Ha]at h;obtain⟨p,rfl,b⟩:=h;exact⟨p,_,rfl,YP ss,ϕ$ ϕ b⟩
 |_=>cases e
def WO(l:T.K=X.K):yk T (λx y H Q=>GO X.K x y H Q\/sN X.K x y H Q) Fb:=by
 intro E μ H σ x y v u Q r p q h;cases y with
 |int k=>
  unfold Fb at h;cases e:jl σ x with
  |none=>simp[e]at h;exact h.elim
  |some xs=>
   simp[e]at h;cases c:rp xs k with
   |none=>rw[c]at h;exact h.elim
   |some d=>
    rw[c]at h;obtain⟨a,i,rfl,j,b⟩:=iA r p e;obtain⟨w,f,g⟩:=N6 j c;rw[l]at b;rcases b with b|b
    ·exact ϔ ⟨a,i,k,w,rfl,jo q,b,f,Rb.here h r g⟩
    ·exact ϕ ⟨a,i,k,w,rfl,jo q,b,f,Rb.here h r g⟩
 |_=>trivial
def ZN:Zw X (λx y H Q=>GO X.K x y H Q\/sN X.K x y H Q):=zuw.or k6
def az(d:D):Bool:=(sc d).isSome
def bB(x y:D):Bool:=match sc x,sc y with
 |some a,W1 b=>uq a b
 |_,_=>į
def YC(a:Bool)(x y:D):M D:=λσ=>match jl σ y with
 |some xs=>if (az x && xs.all az)=š then J (Ϗ$ if a then !(xs.any λz=>bB z x)else xs.any λz=>bB z x) σ else Ϙ
 |none=>Ϙ
theorem bY:∀ {c:gV} {b:em},xb T μ H c b->c.all az=š->b.all xo=š
 |[],b,h,_=>by rw[xb]at h;subst h;rfl
 |d::c,b,h,e=>by
  obtain⟨v,r,rfl,g,i⟩:=h;rw[jf,Ca]at e ⊢;obtain⟨a,f⟩:=ce.mp e.1;exact⟨by rw[AI g f];exact FQ f,bY i e.2⟩
theorem hV{x:D}{a:V}(ex:sc x=W1 a):∀ {b:gV} {f:em},xb T μ H b f->b.all az=š->(b.any λz=>bB z x)=f.any λy=>uq y a
 |[],f,h,_=>by rw[xb]at h;subst h;rfl
 |d::b,f,h,e=>by
  obtain⟨v,r,rfl,i,j⟩:=h;rw[jf,Ca]at e;obtain⟨c,g⟩:=ce.mp e.1;rw[kf,kf,hV ex j e.2];have:bB d x=uq v a:=by unfold bB;rw[g,ex,AI i g]
  grind
def xT(l:T.K=X.K) d:yk T (ML X.K d)$ YC d:=by
 intro E μ H σ x y v u Q r p q h;unfold YC at h;cases e:jl σ y with
 |none=>rw[e]at h;exact h.elim
 |some xs=>
  rw[e]at h;by_cases c:(az x && xs.all az)=š
  ·simp[c]at h;rw[Ca]at c;obtain⟨a,f⟩:=ce.mp c.1;obtain⟨b,j,rfl,g,i⟩:=iA r q e;rw[l]at i;refine⟨b,j,rfl,i,by rw[AI p f];exact FQ f,bY g c.2,?_⟩;have k:KC v j=xs.any λz=>bB z x:=by unfold KC;rw[hV f g c.2,AI p f]
   rw[k];exact Rb.here h r (by rw[Ha])
  ·simp[c]at h;exact h.elim
def tq(xs:gV):M D:=λσ=>match xs with
 |[x]=>(match jl σ x with
  |some a=>J (U a.length) σ
  |none=>Ϙ)
 |_=>Ϙ
def Q8(i:T.K=X.K):pr T (λxs H Q=>∃ p a,xs=[ϖ p]/\(Xe X.K H p a\/Yg X.K H p a)/\Q (ϥ a.length) H) tq:=by
 intro E μ H σ xs f Q r p h
 match xs with
 |[]=>exact h.elim
 |[x]=>
  obtain⟨v,w,rfl,j,d⟩:=p;rw[xb]at d;subst d;unfold tq at h;cases e:jl σ x with
  |none=>simp[e]at h;exact h.elim
  |some a=>
   simp[e]at h;obtain⟨b,f,rfl,g,c⟩:=iA r j e;rw[i]at c;exact⟨b,f,rfl,c,by rw[<-g.length];exact Rb.here h r (by rw[Ha])⟩
 |_::_::_=>exact h.elim
def Br(xs:gV):M D:=λσ=>match xs with
 |[x]=>(match jl σ x with
  |some a=>Ey a σ
  |none=>Ϙ)
 |_=>Ϙ
def t8(i:T.K=X.K):pr T (λxs H Q=>∃ p a,xs=[ϖ p]/\(Xe X.K H p a\/Yg X.K H p a)/\∀ l,H l=ŋ->Q (ϖ l) (Qa H l$ ϰ a)) Br:=by
 intro E μ H σ xs f Q r p h
 match xs with
 |[]=>exact h.elim
 |[x]=>
  obtain⟨v,w,rfl,k,d⟩:=p;rw[xb]at d;subst d;unfold Br at h;cases e:jl σ x with
  |none=>simp[e]at h;exact h.elim
  |some a=>
   simp only[e]at h;obtain⟨b,f,rfl,g,c⟩:=iA r k e;rw[i]at c;exact⟨b,f,rfl,c,λl j=>qD h r g j⟩
 |_::_::_=>exact h.elim
end
def Pl(o:gV->M D)(a:Ev->M (gV)):Ev->M D:=λb=>rc (a b) o
section
variable{x:Str}{p pos:Dd}{e:Fa}{es:List Fa}{fs:Ev->M (gV)}{id ty:String}{r:em->Hp->VK->Prop}{o:gV->M D}
def JW(j:pr T r o)(h:tF T X (Pl o fs) c H Q):yO r (tL T X fs) c H Q:=by
 obtain⟨p,q,s,f,i,g⟩:=h;exact⟨p,q,s,f,i,g.bind λe b a n d u t m k l=>j _ a d b e n Q m k l⟩
def sx(f:xn X (Ϟ id) r)(l:pr T r o)(i:Gl X x)(j:X.mg x=ŋ)(m:bootBuiltins x=W1 (Ϟ id))(d:FA T X (e::es) fs)(k: ~~~(x ≠ "__name__"))(b: ~~~((x == ("__debug__" : Str))=į))
  (g:(na (e::es) X.env=(į,Ib e X.env)::na es X.env)⁻¹) (c:((Zb pos$ na es X.env).any (·.1)=į)⁻¹):FE T X (Ϡ (Ϝ x p) (e::es) [] pos)$ Pl o fs:=
 λa s n H Q I h=>rG f i j m d k b g c a s n H Q I$ JW l h
def bP(f:xn X (Wh ty) r)(l:pr T r o)(i:Gl X x)(j:X.mg x=ŋ)(m:bootBuiltins x=W1 (Wh ty))(d:FA T X (e::es) fs)(k: ~~~(x ≠ "__name__"))(b: ~~~((x == ("__debug__" : Str))=į))
  (g:(na (e::es) X.env=(į,Ib e X.env)::na es X.env)⁻¹) (c:((Zb pos$ na es X.env).any (·.1)=į)⁻¹):FE T X (Ϡ (Ϝ x p) (e::es) [] pos)$ Pl o fs:=
 λa s n H Q I h=>AM f i j m d k b g c a s n H Q I$ JW l h
end
def wf(a:Da):D->Option (gV)
 | O n=>df a n
 | ώ xs=>W1 xs
 |_=>ŋ
def Qc.ls(r:Qc T g H i){xs}(h:Ha T g H x v)(e:wf i x=W1 xs):∃ a b,v=ϖ a/\H a=W1 (ϰ b)/\xb T g H xs b:=by
 cases x with
 |ref n=>obtain⟨a,b,c,_,d,f⟩:=r.qa h e;exact⟨a,b,c,d,f⟩
 |qa j=>cases e;rw[Ha]at h;obtain⟨a,b,c,_,d,f⟩:=h;exact⟨a,b,c,d,f⟩
 |_=>cases e
def Dt(o:D->gV->M D)(m:M$ gV)(x:D):M D:=λa=>match wf a x with
 |some _=>rc m (o x) a
 |none=>Ϙ
def Ju(o:D->gV->M D)(f:Ev->M D)(b:Ev->M (gV)):Ev->M D:=λa=>rc (f a)$ Dt o$ b a
def OC(T:Tb)(r:V->em->Hp->VK->Prop)(o:D->gV->M D):Prop:=∀ (E:XK) a H c x xs v b Q,Qc T a H c->Ha T a H x v->xb T a H xs b->Rb T E (Ha T) a H (o x xs c) Q->r v b H Q
def Ei(x:D)(xs:gV):M D:=λb=>match x,xs with
 | O n,[y]=>(match df b n with
  |some a=>if a.length<Yf then J Ϛ (b.set n$ ϑ$ a++[y])else Ϙ
  |none=>Ϙ)
 |_,_=>Ϙ
section
variable{o e:Fa}{es:List Fa}{f:Ev->M D}{fs:Ev->M (gV)}{name:Str}{apos cpos:Dd}{id:String}{r:V->em->Hp->VK->Prop}{g:D->gV->M D}
def lN(R:qm "list")(l:mQ "list" name id)(q:HB (Ϟ id)=pure (Wh "method_descriptor"))(K:Lx X id r)(ϋ:OC T r g)(L:FE T X o f)(ό:FA T X (e::es) fs)
  (c:(Lc o name X.env (Ib o X.env)=Ib o X.env)⁻¹)
  (i:(((Zb cpos$ na (e::es) X.env).all (λx=>!x.1) && (Ng cpos$ Me [] X.env).all (λx=>x.1.isSome)
   && decide ((e::es).length+([]:List kj).length+(if ([]:List kj).isEmpty then 0 else 1)<30))=š)⁻¹)
  (d:((apos.endLine == cpos.line)=š)⁻¹) (p:(na (e::es) X.env=(į,Ib e X.env)::na es X.env)⁻¹) (b:((Zb cpos$ na es X.env).any (·.1)=į)⁻¹) :
  FE T X (Ϡ (ϝ o name apos) (e::es) [] cpos)$ Ju g f fs:=by
 intro j s V H Q I h;refine Ĥ R l q K L ό c i d p b j s V H Q I ?_;obtain⟨Y,B,Z,y,N,M⟩:=h;refine⟨Y,B,Z,y,N,M.bind λx m t v H1 J E A z k=>?_⟩;unfold Dt at k;cases n:wf m x with
 |none=>rw[n]at k;exact k.elim
 |some xs=>
  rw[n]at k;obtain⟨a,W,rfl,G,h2⟩:=A.ls z n;exact⟨ϔ ⟨rfl,W,Xe.of G⟩,t,B,m,y.mono E,A,k.bind λD w u ws C J F ϊ P S=>(ϋ _ u C w x D _ ws Q ϊ (Ha.mono F _ _ z) P S)⟩
def XP:OC T ZP Ei:=by
 intro E k H o x xs v d Q r p q h;cases x with
 |ref n=>
  match xs with
  |[]=>exact h.elim
  |[y]=>
   obtain⟨w,z,rfl,l,i⟩:=q;rw[xb]at i;subst i;unfold Ei at h;cases b:df o n with
   |none=>simp[b]at h;exact h.elim
   |some m=>
    simp only[b]at h;by_cases c:m.length<Yf
    ·rw[ja c]at h;obtain⟨a,d,rfl,g,e,f⟩:=r.qa p b;have j:=r.write (ob:=ϑ _) g ⟨_,rf,by
      have ex:Wc k H k$ Qa H a$ ϰ$ d++[w]:=Xr (ya g) e (λs z=>by cases z) (λs s z=>by cases z);exact xb.append (xb.mono ex _ _ f)$ xb.cons (Ha.mono ex _ _ l) xb.nil⟩
     exact⟨a,d,w,rfl,rfl,e,by rw[<-f.length];exact XY c,h _ _ _ j.1 j.2 (by rw[Ha])⟩
    ·rw[ra c]at h;exact h.elim
  |_::_::_=>exact h.elim
 |_=>exact h.elim
end
inductive BT where
 |int|bool|str|tuple|list|dict
noncomputable def BT.nm:BT->String
 | .int=>"int" | .bool=>"bool" | .str=>"str" | .tuple=>"tuple" | .list=>"list" | .dict=>"dict"
noncomputable def TJ(a:Da)(c:BT):D->Option Bool
 | Ϛ=>W1 į
 | Ϗ _=>W1 (match c with | .int=>š | .bool=>š|_=>į)
 | U _=>W1 (match c with | .int=>š|_=>į)
 | ϒ _=>W1 (match c with | .str=>š|_=>į)
 | ϐ _=>W1 (match c with | .tuple=>š|_=>į)
 | ϭ _=>ŋ
 | ώ _=>W1 (match c with | .list=>š|_=>į)
 | Ϩ _ _=>W1 (match c with | .dict=>š|_=>į)
 | ϸ _ _ _=>ŋ
 | .tw _=>ŋ
 | .gt _=>ŋ
 | O n=>match a[n]? with
  |some (ϑ _)=>W1 (match c with | .list=>š|_=>į)
  |some (ύ _)=>W1 (match c with | .dict=>š|_=>į)
  |_=>ŋ
def Yy(c:BT)(x:D):M D:=λa=>match TJ a c x with
 |some b=>J (Ϗ b) a
 |none=>Ϙ
def EW(K:ϗ)(H:Hp)(x:V)(t:Value):Prop:=Tj K H x t\/∃ a b,x=ϖ a/\Rd H a (ϛ b)/\t=Wh "dict"
def m7(K:ϗ)(c:String):em->Hp->VK->Prop:=λxs H Q=>∃ x t b,xs=[x,.ty c]/\EW K H x t/\Ϫ K t (Wh c)=W1 b/\Q (Ϭ b) H
def N5 c:xn X (Ϟ "isinstance")$ m7 X.K c:=by
 rintro d s st H xs l Q I r ⟨x,t,b,rfl,ty,e,q⟩;obtain⟨u,u2,rfl,f,rfl⟩:=CI r;rcases ty with ty|⟨a,i,rfl,rd,rfl⟩
 ·exact EQ I f ty e λtk=>⟨Ϭ b,H,I.tok _,rfl,q⟩
 ·cases (f);obtain⟨_,_,m,_,p⟩:=(rd.ok I.pc)
  obtain⟨o,k,j,g,h,_⟩:=p;exact Te av I.Li ⟨o,g,h.1⟩ e (λz=>nomatch z) λtk=>⟨Ϭ b,H,I.tok _,rfl,q⟩
def F5(r:Qc T m H j)(p:Ha T m H x v)(h:TJ j c x=W1 b):∃ t,EW X.K H v t/\Ϫ X.K t (Wh c.nm)=W1 b:=by
 cases x with
 |Sb=>rw[Ha]at p;subst p;refine⟨_,ϔ$ .Sb,?_⟩;cases c<;>cases h<;>rfl
 |bl i=>rw[Ha]at p;subst p;refine⟨_,ϔ$ .bl i,?_⟩;cases c<;>cases h<;>rfl
 |int i=>rw[Ha]at p;subst p;refine⟨_,ϔ$ .int i,?_⟩;cases c<;>cases h<;>rfl
 |str i=>rw[Ha]at p;subst p;refine⟨_,ϔ$ .str i,?_⟩;cases c<;>cases h<;>rfl
 |Sa ds=>rw[Ha]at p;obtain⟨q,f,rfl,d,_⟩:=p;refine⟨_,ϔ$ .Sa d,?_⟩;cases c<;>cases h<;>rfl
 |Wg ns=>cases h
 |qa ds=>rw[Ha]at p;obtain⟨q,f,rfl,_,d,_⟩:=p;refine⟨_,ϔ$ .qa d,?_⟩;cases c<;>cases h<;>rfl
 |za ks ds=>rw[Ha]at p;obtain⟨q,f,rfl,_,d,_⟩:=p;refine⟨_,ϕ ⟨q,_,rfl,d,rfl⟩,?_⟩;cases c<;>cases h<;>rfl
 |obj k ks ds=>cases h
 |tw k=>cases h
 |gt ss=>cases h
 |ref n=>
  unfold TJ at h;dsimp only at h;cases e:j[n]? with
  |none=>rw[e]at h;cases h
  |some o=>
   rw[e]at h;obtain⟨a,rfl,_,l⟩:=r.at p e;cases o with
   |qa xs=>obtain⟨f,g,_⟩:=l;refine⟨_,ϔ$ .qa g,?_⟩;cases c<;>cases h<;>rfl
   |za xs=>obtain⟨f,g,_⟩:=l;refine⟨_,ϔ$ .dK g,?_⟩;cases c<;>cases h<;>rfl
   |ub k s=>cases h
   |Ub xs=>cases h
   |Ie _=>cases h
def jI c(C:FE T X e f)(E:Gl X "isinstance")(F:X.mg "isinstance" = ŋ)(m:Gl X a)(n:X.mg a=ŋ)(r:bootBuiltins a=W1 (Wh c.nm))(o: ~~~(a ≠ "__name__"))(l: ~~~((a == ("__debug__" : Str))=į))
  (w:(na [e,Ϝ a j] X.env=(į,Ib e X.env)::na [Ϝ a j] X.env)⁻¹) (q:((Zb g$ na [Ϝ a j] X.env).any (·.1)=į)⁻¹) :
  FE T X (Ϡ (Ϝ "isinstance" p) [e,Ϝ a j] [] g)$ Pc (Yy c) f:=by
 intro d s st H Q I h;refine rG (N5 c.nm) E F cK (qq C (qq (ŉ m n r (v:=.ty c.nm) rfl o l) Tu) w) ⋯ ⋯ w q d s st H Q I ?_;obtain⟨L,ϋ,P,B,ό,G⟩:=h;refine⟨L,ϋ,P,B,ό,G.bind λx u N v R D S y K i=>?_⟩;unfold Yy at i;cases k:TJ u c x with
 |none=>rw[k]at i;exact i.elim
 |some b=>
  rw[k]at i;obtain⟨t,z,A⟩:=F5 y K k;exact⟨v,t,b,rfl,z,A,Rb.here i y (by rw[Ha])⟩
noncomputable def Lg:Ev->M Fl:=λa=>ret$ ϙ a
noncomputable def QG(h:Ev->M Fl):Fl->M Fl
 | ϙ a=>h a
 | .rt d=>ret (.rt d)
 | .bk a=>ret (.bk a)
 | .ct a=>ret (.ct a)
 | .xc a x=>ret (.xc a x)
def Lb(g h:Ev->M Fl):Ev->M Fl:=λa=>rc (g a)$ QG h
noncomputable def aN:D->M Fl:=λd=>ret$ .rt d
def Ah(f:Ev->M D):Ev->M Fl:=λa=>xs a (f a) aN
noncomputable def XM(a:Ev):D->M Fl:=λb=>ret$ ϙ a
def ci(f:Ev->M D):Ev->M Fl:=λa=>xs a (f a)$ XM a
noncomputable def Au(i:Nat)(ρ:Ev):D->M Fl:=λd=>ret$ ϙ$ ρ.set i$ W1 d
def Qe(i:Nat)(f:Ev->M D):Ev->M Fl:=λa=>xs a (f a)$ Au i a
noncomputable def Cg(t:Ev->M Bool)(a b:Ev->M Fl):Ev->M Fl:=λc=>xs c (t c)$ rj (a c)$ b c
section
variable{st':Stmt}{rest:List Stmt}{g h:Ev->M Fl}{e:Fa}{f:Ev->M D}{pos:Dd}
def Nu:im T X [] Lg:=by
 rintro a s b H D I ⟨f,h,i,c,e,d⟩;exact rT a s b H D I$ Rb.here (g:=Ϻ b) d e c
def A7{g}{h}{e}{D}(r:Qc T g H h)(q:Tr T g H e b)(k:Fl->M Fl)
  (i:∀ a,e=ϙ a->∀ st,b=Ϻ st->Jh T g H a st->N st H) (f:(∀ a,e≠ ϙ a)->Rb T EN (Tr T) g H (J e h) (xt X D)):xt X { D with nx:=N } b H:=by
 cases e with
 |nx a=>cases b with
  |nx st=>exact i a rfl st rfl q
  |_=>exact q.elim
 |rt d=>cases b with
  |rt v=>have z:=Rb.here (f λj z=>by cases z) r q;exact z
  |_=>exact q.elim
 |bk a=>cases b with
  |bk v=>have z:=Rb.here (f λj z=>by cases z) r q;exact z
  |_=>exact q.elim
 |ct a=>cases b with
  |ct v=>have z:=Rb.here (f λj z=>by cases z) r q;exact z
  |_=>exact q.elim
 |xc a x=>cases b with
  |xc v c fd=>have z:=Rb.here (f λj z=>by cases z) r q;exact z
  |_=>exact q.elim
def Vc(k:FS T X st' g)(l:im T X rest h):im T X (st'::rest)$ Lb g h:=by
 intro a s t H D I q;refine tX k l a s t H D I ?_;obtain⟨v,w,x,m,p,o⟩:=q;refine⟨v,w,x,m,p,o.bind λj d c B y C z f r e=>(A7 f r (λC=>Jb) (λb i u A n=>?_)$ λC=>?_)⟩
 ·subst i;exact⟨c,b,d,n,f,e⟩
 ·cases j with
  |nx b=>simp_all
  |_=>exact e
def Ii(a:FS T X st' g):im T X [st'] g:=Þ a
def Ar(c:FE T X e f):FS T X (.Return (W1 e) pos)$ Ah f:=by
 intro a s n H D I j;refine Y9 c a s n H D I ?_;obtain⟨o,ρ,σ,b,i,h⟩:=j;exact⟨o,ρ,σ,b,i,h.xs b λd q p v r d t m l k=>Rb.here (g:=Op.rt v) k m l⟩
def Rw(i:FE T X e f)(l:(Fg e ŋ pos.line X.env=pure į)⁻¹):FS T X (.Expr e pos)$ ci f:=by
 intro a s c H D I m;refine O9 i l a s c H D I ?_;obtain⟨p,ρ,σ,b,k,j⟩:=m;exact⟨p,ρ,σ,b,k,j.xs b λd r q v t d h o u n=>Rb.here (g:=Ϻ c) n o$ b.mono h⟩
def pA(j:X.N.Nodup)(m:X.N[i]?=W1 x)(r:Loc X.env.scope x)(k:FE T X e f)(p:(Fg e (W1$ Ϝ x a) pos.line X.env=pure į)⁻¹)(l:X.fn x=š\/X.env.scope.names.lookup x=W1 .local:=by first|exact .inl rfl|exact .inr rfl|assumption) :
  FS T X (ϻ [Ϝ x a] e pos)$ Qe i f:=by
 intro b s st H D I q;refine M9 j m r k p l b s st H D I ?_;obtain⟨y,ρ,σ,c,o,n⟩:=q;exact⟨y,ρ,σ,c,o,n.xs c λd A z v B d h w u t=>Rb.here (g:=Ϻ _) t w$ (c.mono h).set i u⟩
def Es(q:FT T X c n)(o:im T X a k)(p:im T X b l):FS T X (.If c a b pos)$ Cg n k l:=by
 intro e s x H D I u;refine yS q o p e s x H D I ?_;obtain⟨y,i,z,h,t,r⟩:=u;refine⟨y,i,z,h,t,r.xs h λc g f v A B j m w d=>?_⟩;cases w;cases c with
 |true=>unfold rj at d;rw[ja rfl]at d ⊢;exact⟨f,i,g,h.mono j,m,d⟩
 |false=>unfold rj at d;rw[ra yb]at d ⊢;exact⟨f,i,g,h.mono j,m,d⟩
noncomputable def gD(T:Tb)(e:D->Ev->Option Ev):TG:=λv c H Q=>∃ b σ ρ d a,Jh T b H ρ c/\Qc T b H σ/\Ha T b H d v/\e d ρ=W1 a/\∀ st',Jh T b H a st'->Q st' H
noncomputable def G4(T:Tb)(f:gV->Ev->Option Ev):iz:=λg e H Q=>∃ b h d c a,Jh T b H d e/\Qc T b H h/\xb T b H c g/\f c d=W1 a/\∀ st',Jh T b H a st'->Q st' H
abbrev FG(T:Tb)(X:Cx)(t:Fa)(a:D->Ev->Option Ev):Prop:=PG X t$ gD T a
abbrev LB(T:Tb)(X:Cx)(b:List Fa)(a:gV->Ev->Option Ev):Prop:=yG X b$ G4 T a
noncomputable def Cc(i:Nat):D->Ev->Option Ev:=λd ρ=>W1$ ρ.set i$ W1 d
noncomputable def Lj:gV->Ev->Option Ev
 |[],a=>W1 a
 |_::_,_=>ŋ
noncomputable def Nf(t:D->Ev->Option Ev)(u:gV->Ev->Option Ev):gV->Ev->Option Ev
 |[],_=>ŋ
 |d::ds,b=>(t d b).bind λa=>u ds a
noncomputable def vj(n:Nat)(t:gV->Ev->Option Ev):D->Ev->Option Ev
 | ϐ ds,a=>if ds.length=n then t ds a else ŋ
 |_,_=>ŋ
def Ŕ(c:X.N.Nodup)(f:X.N[i]?=W1 x)(j:Loc X.env.scope x)(e:X.fn x=š\/X.env.scope.names.lookup x=W1 .local:=by first|exact .inl rfl|exact .inr rfl|assumption):FG T X (Ϝ x pos)$ Cc i:=by
 rintro a s st H v u Q I r ⟨m,σ,ρ,d,k,b,l,hd,h,g⟩;cases h;exact h9 c f j e a s st H v u Q I r$ g _$ b.set i hd
def zti:LB T X [] Lj:=by
 rintro a s g H k h Q I r ⟨l,m,ρ,b,i,e,j,hd,c,f⟩;cases b with
 |nil=>cases c;rw[xb]at hd;subst hd;exact zxz a s g H [] h Q I r ⟨rfl,f _ e⟩
 |cons d b=>cases c
def ũ(q:FG T X e t)(x:LB T X c u)
  (A:((Ad (e::c) X.env).map (·.2)=xi e X.env::(Ad c X.env).map (·.2))⁻¹):LB T X (e::c)$ Nf t u:=by
 rintro a s st H E C Q I r ⟨m,n,ρ,f,j,y,k,hd,l,z⟩;cases f with
 |nil=>cases l
 |cons d f=>
  obtain⟨v,w,rfl,h,i⟩:=hd;obtain⟨b,o,p⟩:=pf.mp l;exact Z8 q x A a s st H _ C Q I r ⟨v,w,rfl,m,n,ρ,d,b,y,k,h,o,λB g=>⟨m,n,b,f,j,g,k,i,p,z⟩⟩
def mM(m:X.Fd=š)(h:LB T X c t)
  (o:((Ad c X.env).length=n)⁻¹) (e:((Ad c X.env).findIdx? (·.1)=ŋ)⁻¹):FG T X (ϳ c k pos)$ vj n t:=by
 rintro b s st H v u Q I r ⟨y,σ,ρ,d,f,l,w,hd,a,q⟩;cases d with
 |Sa ds=>
  obtain⟨p,x,rfl,j,g⟩:=hd;unfold vj at a;dsimp only at a;by_cases i:ds.length=n
  ·rw[ja i]at a;exact E7 m h o e b s st H _ u Q I r ⟨p,x,rfl,Yg.of j,by rw[<-g.length];exact i,y,σ,ρ,ds,f,l,w,g,a,q⟩
  simp_all
 |_=>cases a
noncomputable def RH(b:D->Ev->Option Ev)(ρ:Ev)(d:D):M Fl:=match b d ρ with
 |some a=>ret (ϙ a)
 |none=>Jb
def CL(f:Ev->M D)(b:D->Ev->Option Ev):Ev->M Fl:=λa=>xs a (f a)$ RH b a
def Ì(r:FE T X e f)(u:FG T X a t)(z:(yi [a] e pos.line X.env=pure į)⁻¹)(A:(zi [a] e X.env=pure ŋ)⁻¹)
  (q:((Ad [a] X.env).map (·.2)=[xi a X.env])⁻¹):FS T X (ϻ [a] e pos)$ CL f t:=by
 intro c s st H D I x;refine LI r u z A q c s st H D I ?_;obtain⟨C,ρ,σ,h,y,w⟩:=x;refine⟨C,ρ,σ,h,y,w.xs h λd n l v E F p o B b=>?_⟩;unfold RH at b;cases j:t d ρ with
 |none=>simp[j]at b;exact b.elim
 |some m=>simp[j]at b;exact⟨l,n,ρ,d,m,h.mono p,o,B,j,λk i=>Rb.here (g:=Ϻ k) b o i⟩
def KO(x i d:D):M Unit:=λσ=>match x,i with
 | O n,U k=>(match df σ n with
  |some xs=>(match ot xs.length k with
   |some j=>J () (σ.set n$ ϑ$ xs.set j d)
   |none=>Ϙ)
  |none=>Ϙ)
 |_,_=>Ϙ
def eB(ρ:Ev)(d x i:D):M Fl:=λσ=>match KO x i d σ with
 | J _ a=>J (ϙ ρ) a
 |_=>Ϙ
def iM(ρ:Ev)(a:Ev->M D)(d x:D):M Fl:=xs ρ (a ρ)$ eB ρ d x
def dP(ρ:Ev)(b a:Ev->M D)(d:D):M Fl:=xs ρ (b ρ)$ iM ρ a d
def nI(f c b:Ev->M D):Ev->M Fl:=λa=>xs a (f a)$ dP a c b
def K8{K fi}(R:FE T X e f)(ϊ:FE T X o K)(S:FE T X i fi)
  (Q:∀ v,xi (ϡ o i b) X.env v=(do
   let r <-Ld [v] (Ib o X.env);let y <-Ld [v,r] (Ib i X.env)
   Ig b
   Ld [v,r,y] (cq r y v)
   fE [v,r,y] []):=by intro _;rfl)
  (Z:(yi [ϡ o i b] e pos.line X.env=pure į)⁻¹) (hw:(zi [ϡ o i b] e X.env=pure ŋ)⁻¹)
  (q:((Ad [ϡ o i b] X.env).map (·.2)=[xi (ϡ o i b) X.env])⁻¹):FS T X (ϻ [ϡ o i b] e pos)$ nI f K fi:=by
 intro l s st H D I W;refine LI R (uK ϊ S o6 Q) Z hw q l s st H D I ?_;obtain⟨μ,ρ,σ,g,Y,V⟩:=W;refine⟨μ,ρ,σ,g,Y,V.xs g λd E B v H1 d h r1 q1 p1=>⟨B,ρ,E,g.mono h,r1,p1.xs (g.mono h) λx F C vo H2 d p r2 q2 p2=>⟨C,ρ,F,(g.mono h).mono p,r2,p2.xs ((g.mono h).mono p) λk G m vi ό d t ϋ q3 c=>?_⟩⟩⟩;have hx:=Ha.mono t _ _ q2;unfold eB KO at c;cases x with
 |ref n=>
  cases k with
  |int k=>
   dsimp only at c;cases w:df G n with
   |none=>rw[w]at c;exact c.elim
   |some xs=>
    rw[w]at c;dsimp only at c;cases u:ot xs.length k with
    |none=>rw[u]at c;exact c.elim
    |some j=>
     rw[u]at c;obtain⟨a,P,rfl,N,q,L⟩:=ϋ.qa hx w;have A:=ϋ.write (ob:=ϑ _) N ⟨_,rf,by
      have ex:Wc m ό m$ Qa ό a$ ϰ$ P.set j v:=Xr (ya N) q (λd z=>by cases z) (λd d z=>by cases z);exact xb.set (Ha.mono ex _ _$ Ha.mono t _ _$ Ha.mono p _ _ q1) j$ xb.mono ex _ _ L⟩
     exact⟨a,P,k,j,rfl,jo q3,q,by rw[<-L.length];exact u,c _ (Ϻ st) _ A.1 A.2$ ((g.mono h).mono p).mono t |>.mono A.1⟩
  |_=>exact c.elim
 |_=>exact c.elim
end
inductive cj where
 |seq (ds:gV)
 |Ol (n:Nat)
def cj.nx:cj->Nat->Da->Option (Option D)
 | .seq ds,i,_=>W1 ds[i]?
 | .Ol n,i,σ=>(df σ n).map λxs=>xs[i]?
def vH(T:Tb)(c:ac)(g:Hp)(a:cj)(ό:It):Prop:=∀ b H f i,Wc c g b H->Qc T b H f->match a.nx i f with
 |none=>True
 |some ŋ=>ό.stop i H
 |some (W1 d)=>ό.go i H/\∀ x e,ό.YB i H x e->e=H/\Ha T b H d x
def tI(T:Tb)(X:Cx)(f:Ev->M cj):TI:=λa H R=>FC T a H λb c d=>Rb T (XE X a) (vH T) b H (f c d) R
abbrev FI(T:Tb)(X:Cx)(b a:Fa)(f:Ev->M cj):Prop:=PI X b a$ tI T X f
noncomputable def qr(n:Nat):gV:=(List.range n).map λ(i:Nat)=>U (i:Int)
noncomputable def PB(a:Int)(n:Nat):gV:=(List.range n).map λ(i:Nat)=>U$ a+(i:Int)
def Kx(d:D):M cj:=λσ=>match d with
 | ϐ ds=>J (.seq ds) σ
 | ώ ds=>J (.seq ds) σ
 | ϭ ns=>J (.seq$ ns.map U) σ
 | O n=>(match df σ n with
  |some _=>J (.Ol n) σ
  |none=>Ϙ)
 |_=>Ϙ
def Fh(f:Ev->M D):Ev->M cj:=λa=>rc (f a) Kx
def uw(j:Int):Bool:=qd$ decide (-(2 ^ 62)<=j) && decide (j<2 ^ 62)
def qu(d:D):M cj:=λσ=>match d with
 | U j=>if uw j=š then J (.seq$ qr j.toNat) σ else Ϙ
 |_=>Ϙ
def Wr(f:Ev->M D):Ev->M cj:=λa=>rc (f a) qu
def dJ(a b:D):M cj:=λc=>match a,b with
 | U i,U j=>if (uw i && uw j)=š then J (.seq$ PB i (j - i).toNat) c else Ϙ
 |_,_=>Ϙ
def TQ(m:M D)(a:D):M cj:=rc m$ dJ a
def dI(f g:Ev->M D):Ev->M cj:=λa=>rc (f a)$ TQ$ g a
section
variable{tg iter:Fa}{f:Ev->M D}
def T8(K:ϗ)(c:TE):TI:=λd H R=>c d H λx b=>∃ a,x=ϖ a/\(((∃ xs,Xe K b a xs)/\R (mL K a) b)\/((∃ xs,Yg K b a xs)/\R (WL K a) b))
def yg5(m:PE X l k):PI X tg l$ T8 X.K k:=by
 intro d s u H R I h;refine Zc (m d s u H _ I h) λv s1 ſ=>?_;obtain⟨x,H1,c,r,j⟩:=ſ;obtain⟨a,rfl,j⟩:=j;cases r;rcases j with⟨⟨xs,g⟩,q⟩|⟨⟨xs,g⟩,q⟩
 ·obtain⟨i,t,p,n⟩:=c.list g;refine Yh p.isList ⟨s1.heap.objs.size,[s1.heap.objs.size],_,_,H1,rfl,c.kept λb o e=>ga _ e,zjw a _,⟨_,Ea _ rfl,rfl,rfl⟩,λb f=>?_,q⟩;have e:b=s1.heap.objs.size:=by simpa using f
  subst e;exact c.Km (va _)$ c.pc.fresh$ va _
 ·obtain⟨i,t,p,n⟩:=c.tuple g;refine zB (p) ⟨s1.heap.objs.size,[s1.heap.objs.size],_,_,H1,rfl,c.kept λb o e=>ga _ e,J5 a _,⟨_,Ea _ rfl,rfl,rfl⟩,λb f=>?_,q⟩;have e:b=s1.heap.objs.size:=by simpa using f
  subst e;exact c.Km (va _)$ c.pc.fresh$ va _
def JQ{K}(h:∀ b c,Wc g l b c->∃ f,Xe K c a f/\xb T b c j f):vH T g l (.seq j)$ mL K a:=by
 intro b c p i ex r;obtain⟨f,m,n⟩:=h b c ex;show match W1 j[i]? with|none=>True|some ŋ=>_|some (W1 d)=>_
 cases e:j[i]? with
 |none=>exact⟨f,m,by rw[<-n.length];exact Mb.mp e⟩
 |some d=>
  obtain⟨v,k,o⟩:=n.get e;refine⟨⟨f,v,m,k⟩,λx q y=>?_⟩;obtain⟨rfl,y⟩:=y
  simp_all
def yaa{K}(h:∀ b c,Wc g l b c->∃ f,Yg K c a f/\xb T b c j f):vH T g l (.seq j)$ WL K a:=by
 intro b c p i ex r;obtain⟨f,m,n⟩:=h b c ex;show match W1 j[i]? with|none=>True|some ŋ=>_|some (W1 d)=>_
 cases e:j[i]? with
 |none=>exact⟨f,m,by rw[<-n.length];exact Mb.mp e⟩
 |some d=>
  obtain⟨v,k,o⟩:=n.get e;refine⟨⟨f,v,m,k⟩,λx q y=>?_⟩;obtain⟨rfl,y⟩:=y
  simp_all
def WV(L:T.K=X.K)(h:FE T X iter f):FI T X tg iter$ Fh f:=by
 intro r s st H R I Q;refine yg5 h r s st H R I ?_;obtain⟨ϊ,ρ,σ,ό,ϋ,N⟩:=Q;refine⟨ϊ,ρ,σ,ό,ϋ,N.bind λd B A v D x Y u t j=>?_⟩;cases d with
 |Sa ds=>
  obtain⟨p,l,rfl,g,m⟩:=t;exact⟨p,rfl,ϕ ⟨⟨l,Yg.of g⟩,Rb.here j u (yaa λb c ex=>⟨l,Yg.of$ ex.Sa _ _ g,xb.mono ex _ _ m⟩)⟩⟩
 |qa ds=>
  obtain⟨p,l,rfl,M,g,m⟩:=t;exact⟨p,rfl,ϔ ⟨⟨l,Xe.of g⟩,Rb.here j u (JQ λb c ex=>⟨l,Xe.of (ex.Oh _ _ g M).1,xb.mono ex _ _ m⟩)⟩⟩
 |Wg ns=>
  obtain⟨p,rfl,g⟩:=t;have q:∀ b c,Wc A D b c->Xe X.K c p _:=λb c ex=>by
   have m:Ha T b c (ϭ ns) _:=Ha.mono ex _ _ (by rw[Ha];exact⟨p,rfl,g⟩);obtain⟨Z,E,o⟩:=m;cases E;rw[<-L];exact o.seq
  exact⟨p,rfl,ϔ ⟨⟨_,q _ _$ Ϯ _ _⟩,Rb.here j u (JQ λb c ex=>⟨_,q b c ex,fJ ns⟩)⟩⟩
 |ref n=>
  unfold Kx at j;dsimp only at j;cases k:df B n with
  |none=>rw[k]at j;exact j.elim
  |some xs=>
   rw[k]at j;obtain⟨a,l,rfl,_,g,m⟩:=u.qa t k;refine⟨a,rfl,ϔ ⟨⟨l,Xe.of g⟩,Rb.here j u λb c w i ex S=>?_⟩⟩;show match (df w n).map (λxs=>xs[i]?)with|none=>True|some ŋ=>_|some (W1 d)=>_
   cases G:df w n with
   |none=>trivial
   |some ys=>
    obtain⟨W,ws,F,_,o,C⟩:=S.qa (Ha.mono ex _ _ t) G;cases F;show match W1 (ys[i]?)with|none=>True|some ŋ=>_|some (W1 d)=>_
    cases e:ys[i]? with
    |none=>exact⟨ws,Xe.of o,by rw[<-C.length];exact Mb.mp e⟩
    |some d=>
     obtain⟨v,z,P⟩:=C.get e;refine⟨⟨ws,v,Xe.of o,z⟩,λx V y=>?_⟩;obtain⟨rfl,y⟩:=y;have:=y ws$ Xe.of o
     simp_all
 |_=>trivial
def E6(h:i<n):(qr n)[i]?=W1 (U i):=by simp[qr,h]
def S5 n:(qr n).length=n:=by simp[qr]
def é(h:i<n):(PB a n)[i]?=W1 (U$ a+i):=by simp[PB,h]
def ý a n:(PB a n).length=n:=by simp[PB]
def Ż(h:Gl X "range")(o:X.mg "range" = ŋ)(n:FE T X a f)(e:(na [a] X.env=[(į,Ib a X.env)])⁻¹):FI T X tg (Ϡ (Ϝ "range" p) [a] [] l)$ Wr f:=by
 intro g s st H R I t;refine Ŭ h o (qq n Tu e) e g s st H R I ?_;obtain⟨z,ρ,σ,m,r,q⟩:=t;refine⟨z,ρ,σ,m,r,q.bind λd C A v F x ό w u b=>?_⟩;cases d with
 |int j=>
  subst u;unfold qu at b;dsimp only at b;by_cases c:uw j=š
  ·rw[ja c]at b;simp[uw]at c;refine⟨j,rfl,c.1,c.2,Rb.here b w λB G D i ex K=>?_⟩;show match W1 (qr j.toNat)[i]? with|none=>True|some ŋ=>_|some (W1 d)=>_
   by_cases k:i<j.toNat
   ·rw[E6 k];refine⟨k,λx E y=>?_⟩;obtain⟨rfl,rfl⟩:=y;exact⟨rfl,by rw[Ha,Int.zero_add]⟩
   ·rw[Mb.mpr (by rw[S5];lia)];exact pv.mp k
  ·rw[ra c]at b;exact b.elim
 |_=>exact b.elim
def zhk(m:Gl X "range")(C:X.mg "range" = ŋ)(A:FE T X a f)(B:FE T X b g)(o:(na [a,b] X.env=[(į,Ib a X.env),(į,Ib b X.env)])⁻¹)(c:(na [b] X.env=[(į,Ib b X.env)])⁻¹) :
  FI T X tg (Ϡ (Ϝ "range" p) [a,b] [] q)$ dI f g:=by
 intro l s st H R I G;refine g9 m C (qq A (qq B Tu c)$ by grind) o c l s st H R I ?_;obtain⟨P,ρ,σ,u,F,E⟩:=G;refine⟨P,ρ,σ,u,F,E.bind λd t r v Y x z N K ό=>⟨r,ρ,t,u.mono z,N,ό.bind λw ϊ Q v2 Z x e2 ϋ L e=>?_⟩⟩;cases d with
 |int i=>
  cases w with
  |int j=>
   subst K;subst L;unfold dJ at e;dsimp only at e;by_cases h:(uw i && uw j)=š
   ·rw[ja h]at e;simp[uw,Vp]at h;refine⟨i,j,rfl,⟨h.1.1,h.1.2,h.2.1,h.2.2⟩,Rb.here e ϋ λS H3 V k ex r3=>?_⟩;show match W1 (PB i (j - i).toNat)[k]? with|none=>True|some ŋ=>_|some (W1 d)=>_
    by_cases n:k<(j - i).toNat
    ·rw[é n];refine⟨n,λx W y=>?_⟩;obtain⟨rfl,rfl⟩:=y;exact⟨rfl,by rw[Ha]⟩
    ·rw[Mb.mpr (by rw[ý];lia)];exact pv.mp n
   ·rw[ra h]at e;exact e.elim
  |_=>exact e.elim
 |_=>exact e.elim
end
noncomputable def lw(k:Ev->M Fl):Fl->M Fl
 | ϙ a=>k a
 | .ct a=>k a
 | .bk a=>ret (ϙ a)
 | .rt d=>ret (.rt d)
 | .xc b x=>ret (.xc b x)
def qk(e:D->Ev->Option Ev)(a:Ev->M Fl):gV->Ev->M Fl
 |[],b=>ret (ϙ b)
 |d::ds,b=>match e d b with
  |none=>Jb
  |some c=>rc (a c) (lw$ qk e a ds)
def As(e:D->Ev->Option Ev)(a:Ev->M Fl)(n:Nat):Nat->Nat->Ev->M Fl
 |0,_,_=>Jb
 |k+1,i,f=>λc=>match df c n with
  |none=>Ϙ
  |some xs=>match xs[i]? with
   |none=>J (ϙ f) c
   |some d=>match e d f with
    |none=>Ϙ
    |some b=>rc (a b) (lw$ As e a n k$ i+1) c
def IF(b:D->Ev->Option Ev)(a:Ev->M Fl)(c:Ev):cj->M Fl
 | .seq ds=>qk b a ds c
 | .Ol n=>As b a n 1001 0 c
def Zl(b:Ev->M cj)(d:D->Ev->Option Ev)(a:Ev->M Fl):Ev->M Fl:=λc=>xs c (b c)$ IF d a c
section
def FM{D}(l:Qc T d e g)(h:Tr T d e j f)(i:Rb T EN (Tr T) d e (lw k j g)$ xt X D)
  (m:∀ b a,Jh T d e b a->Rb T EN (Tr T) d e (k b g) (xt X D)->N a e):xt X { D with nx:=N,ct:=N,bk:=D.nx } f e:=by
 cases j with
 |nx b=>cases f with
  |nx a=>exact m b a h i
  |_=>trivial
 |ct b=>cases f with
  |ct a=>exact m b a h i
  |_=>trivial
 |bk b=>cases f with
  |bk a=>have z:xt X D (Ϻ a) e:=Rb.here i l h;exact z
  |_=>exact h.elim
 |rt o=>cases f with
  |rt v2=>have z:=Rb.here i l h;exact z
  |_=>trivial
 |xc b x=>cases f with
  |xc a c n=>have z:=Rb.here i l h;exact z
  |_=>trivial
variable{tgt iter:Fa}{body:List Stmt}{src:Ev->M cj}{t:D->Ev->Option Ev}{g:Ev->M Fl}{pos:Dd}
def ZA(V:Go (model X.prog X.w) X.A X.env X.xe)(hc:X.Fd=š)(hi:FI T X tgt iter src)(hg:FG T X tgt t)(hb:im T X body g)
  (hs:∀ x,pe iter X.env x=pure x:=by intro _;rfl):FS T X (.For tgt iter body [] pos)$ Zl src t g:=by
 intro Q s st H D I hq;refine eW V hc hi hg hb hs Q s st H D I ?_;obtain⟨e,ρ,q,S,hr,V⟩:=hq;refine⟨e,ρ,q,S,hr,V.xs S λsrc B k ό ϋ J e1 r1 q1 p1=>?_⟩;cases src with
 |seq ds=>
  have K:Rb T EN (Tr T) k ϋ (qk t g ds ρ B) _:=p1;refine⟨λi m o b=>m=ds.length - i/\∃ e ρ q,Wc k ϋ e b/\Jh T e b ρ o/\Qc T e b q/\Rb T EN _ e b (qk t g (ds.drop i) ρ q) _,⟨ds.length,by simp,k,ρ,B,Ϯ _ _,S.mono e1,r1,by simpa using K⟩,?_⟩;rintro i m o b ⟨rfl,f,u,j,ex,r,z,c⟩;have a:match (W1 ds[i]?)with|none=>True|some ŋ=>ό.stop i b|some (W1 d)=>ό.go i b/\∀ x P,ό.YB i b x P->P=b/\Ha T f b d x:=(q1 f b j i ex z)
  cases C:ds[i]? with
  |none=>
   rw[C]at a;rw[aq$ Mb.mp C]at c;exact ϔ ⟨a,Rb.here (g:=Ϻ o) c z r⟩
  |some d=>
   rw[C]at a;obtain⟨hl,ed⟩:=aa.mp C;have hd:ds.drop i=d::ds.drop (i+1):=by rw[<-ed];exact(lh hl)
   rw[hd]at c;unfold qk at c;refine ϕ ⟨a.1,λp l=>∃ e ρ q,Wc k ϋ e l/\Jh T e l ρ p/\Qc T e l q/\Rb T EN (Tr T) e l _ _,λp l h=>⟨ds.length - (i+1),by omega,rfl,h⟩,λx l y=>?_⟩;obtain⟨rfl,W⟩:=a.2 x l y;cases G:t d u with
   |none=>rw[G]at c;exact c.elim
   |some v=>
    rw[G]at c;exact⟨f,j,u,d,v,r,z,W,G,λp E=>⟨f,v,j,E,z,c.bind λfl N L gl H4 J ϊ R Z p4=>FM R Z p4 λM a0 F Y=>⟨L,M,N,ex.trans ϊ,F,R,Y⟩⟩⟩
 |Ol n=>
  have K:Rb T EN (Tr T) k ϋ (As t g n 1001 0 ρ B)$ xt X D:=p1;refine⟨λi m o b=>∃ e ρ q,Wc k ϋ e b/\Jh T e b ρ o/\Qc T e b q/\Rb T EN (Tr T) e b (As t g n m i ρ q) (xt X D),⟨1001,k,ρ,B,Ϯ _ _,S.mono e1,r1,K⟩,?_⟩;rintro i m o b ⟨f,u,j,ex,r,z,c⟩;cases m with
  |zero=>exact c.elim
  |succ m=>
   unfold As at c;have a:match ((df j n).map λxs=>xs[i]?)with|none=>True|some ŋ=>ό.stop i b|some (W1 d)=>ό.go i b/\∀ x P,ό.YB i b x P->P=b/\Ha T f b d x:=(q1 f b j i ex z)
   cases el:df j n with
   |none=>simp only[el]at c;exact c.elim
   |some xs=>
    simp only[el]at c a;cases C:xs[i]? with
    |none=>
     simp only[C,Jl]at c a;exact ϔ ⟨a,Rb.here (g:=Ϻ o) c z r⟩
    |some d=>
     simp only[C,Jl]at c a;refine ϕ ⟨a.1,λp l=>∃ e ρ q,Wc k ϋ e l/\Jh T e l ρ p/\Qc T e l q/\Rb T EN (Tr T) e l (As t g n m (i+1) ρ q) _,λp l h=>⟨m,cc _,h⟩,λx l y=>?_⟩;obtain⟨rfl,W⟩:=a.2 x l y;cases G:t d u with
     |none=>simp only[G]at c;exact c.elim
     |some v=>
      simp only[G]at c;exact⟨f,j,u,d,v,r,z,W,G,λp E=>⟨f,v,j,E,z,c.bind λfl N L gl H4 J ϊ R Z p4=>FM R Z p4 λM a0 F Y=>⟨L,M,N,ex.trans ϊ,F,R,Y⟩⟩⟩
noncomputable def sM:Ev->M Fl:=λa=>ret$ .bk a
def D6:FS T X (.Break pos) sM:=λpins s st H D I ⟨d,e,σ,a,c,b⟩=>wpAny_Break ⟨st,H,I,Rb.here (g:=Op.bk st) b c a⟩
end
mutual
def cl:D->Bool
 | ϐ xs=>zf xs
 | ώ xs=>zf xs
 | Ϩ _ xs=>zf xs
 | ϸ _ _ xs=>zf xs
 | O _=>į
 | Ϛ=>š
 | Ϗ _=>š
 | U _=>š
 | ϒ _=>š
 | ϭ _=>š
 | .tw _=>š
 | .gt _=>š
def zf:gV->Bool
 |[]=>š
 |d::ds=>cl d && zf ds
end
noncomputable def Wl(f:D->Option D):gV->Option (gV)
 |[]=>W1 []
 |d::ds=>match f d,Wl f ds with
  |some x,W1 xs=>W1 (x::xs)
  |_,_=>ŋ
def fz(k:Nat)(a:Da):Nat->D->Option D
 |0,d=>if cl d=š then W1 d else match d with
  | O n=>if n<k then W1 (O n)else ŋ
  |_=>ŋ
 |m+1,d=>if cl d=š then W1 d else match d with
  | O n=>if n<k then W1 (O n)else match a[n]? with
   |some (ϑ xs)=>(Wl (fz k a m) xs).map ώ
   |some (ύ b)=>(Wl (fz k a m) (b.map (·.2))).map (Ϩ (b.map (·.1)))
   |some (ϓ c e)=>(Wl (fz k a m) (e.map (·.2))).map (ϸ c (e.map (·.1)))
   |some (ϣ _)=>ŋ
   |some (.Ie _)=>ŋ
   |none=>ŋ
  | ϐ xs=>(Wl (fz k a m) xs).map ϐ
  | ώ xs=>(Wl (fz k a m) xs).map ώ
  | Ϩ ks xs=>(Wl (fz k a m) xs).map (Ϩ ks)
  | ϸ c ns xs=>(Wl (fz k a m) xs).map (ϸ c ns)
  |_=>ŋ
open Classical in
def ig(b:Da):Gi D->Gi D
 | J d a=>if a.take b.length=b then (match fz b.length a 6 d with
  |some c=>J c b
  |none=>Ϙ)else Ϙ
 | .ex x a=>if a.take b.length=b then .ex x b else Ϙ
 | Ϙ=>Ϙ
def Ic(f:M D):M D:=λa=>ig a$ f a
section
variable{T:Tb}{μ μ':ac}{H H':Hp}{σ σ':Da}
mutual
theorem lL(e:∃ r,μ'=μ++r):∀ (d:D) (v:V),cl d=š->Ha T μ' H d v->Ha T μ H d v
 | Ϛ,v,_,h=>by simpa [Ha]using h
 | Ϗ b,v,_,h=>by simpa [Ha]using h
 | U i,v,_,h=>by simpa [Ha]using h
 | ϒ x,v,_,h=>by simpa [Ha]using h
 | ϐ ds,v,c,h=>by
  rw[Ha]at h ⊢;obtain⟨p,l,f,g,j⟩:=h;exact⟨p,l,f,g,tE e ds l (by simpa [cl]using c) j⟩
 | ϭ ns,v,_,h=>by rw[Ha]at h ⊢;exact h
 | O n,v,c,h=>by cases c
 | ώ ds,v,c,h=>by
  rw[Ha]at h ⊢;obtain⟨a,l,f,g,j,m⟩:=h;exact⟨a,l,f,λz=>g (by obtain⟨r,rfl⟩:=e;exact Va _ z),j,tE e ds l (by simpa [cl]using c) m⟩
 | Ϩ ks ds,v,c,h=>by
  rw[Ha]at h ⊢;obtain⟨a,l,f,g,j,o,m⟩:=h;exact⟨a,l,f,λz=>g (by obtain⟨r,rfl⟩:=e;exact Va _ z),j,o,tE e ds _ (by simpa [cl]using c) m⟩
 | ϸ k ns ds,v,c,h=>by
  rw[Ha]at h ⊢;obtain⟨a,u,l,f,g,j,o,m⟩:=h;exact⟨a,u,l,f,λz=>g (by obtain⟨r,rfl⟩:=e;exact Va _ z),j,o,tE e ds _ (by simpa [cl]using c) m⟩
 | .tw k,v,_,h=>by
  rw[Ha]at h ⊢;obtain⟨a,t,f,g,j,m⟩:=h;exact⟨a,t,f,λz=>g (by obtain⟨r,rfl⟩:=e;exact Va _ z),j,λn q=>let ⟨s,w,y,A⟩:=m n q;⟨s,w,λz=>y (by obtain⟨r,rfl⟩:=e;exact Va _ z),A⟩⟩
 | .gt ss,v,_,h=>by rw[Ha]at h ⊢;exact h
theorem tE(e:∃ r,μ'=μ++r):∀ (a:gV) (b:em),zf a=š->xb T μ' H a b->xb T μ H a b
 |[],b,_,h=>by simpa [xb]using h
 |d::a,b,c,h=>by
  rw[xb]at h ⊢;obtain⟨v,r,g,i,j⟩:=h;have f:cl d=š/\zf a=š:=by simpa [zf,Ca]using c
  exact⟨v,r,g,lL e d v f.1 i,tE e a r f.2 j⟩
end
mutual
theorem Ha.down(e:∃ r,μ'=μ++r):∀ (d:D) (v0 v:V),Ha T μ H d v0->Ha T μ' H' d v->Ha T μ H' d v
 | Ϛ,v0,v,_,h=>by simpa [Ha]using h
 | Ϗ b,v0,v,_,h=>by simpa [Ha]using h
 | U i,v0,v,_,h=>by simpa [Ha]using h
 | ϒ x,v0,v,_,h=>by simpa [Ha]using h
 | ϐ ds,v0,v,c,h=>by
  rw[Ha]at h c ⊢;obtain⟨p,m,g,f,l⟩:=h;obtain⟨G,j,_,_,w⟩:=c;exact⟨p,m,g,f,xb.down e ds j m w l⟩
 | ϭ ns,v0,v,_,h=>by rw[Ha]at h ⊢;exact h
 | O n,v0,v,c,h=>by
  rw[Ha]at h c ⊢;obtain⟨a,g,f⟩:=h;obtain⟨b,_,u⟩:=c;refine⟨a,g,?_⟩;obtain⟨r,rfl⟩:=e;rw[jb (aa.mp u).1]at f;exact f
 | ώ ds,v0,v,c,h=>by
  rw[Ha]at h c ⊢;obtain⟨a,m,g,f,l,o⟩:=h;obtain⟨_,j,_,_,_,s⟩:=c;exact⟨a,m,g,λz=>f (by obtain⟨r,rfl⟩:=e;exact Va _ z),l,xb.down e ds j m s o⟩
 | Ϩ ks ds,v0,v,c,h=>by
  rw[Ha]at h c ⊢;obtain⟨a,m,g,f,l,t,o⟩:=h;obtain⟨_,j,_,_,_,_,s⟩:=c;exact⟨a,m,g,λz=>f (by obtain⟨r,rfl⟩:=e;exact Va _ z),l,t,xb.down e ds _ _ s o⟩
 | ϸ k ns ds,v0,v,c,h=>by
  rw[Ha]at h c ⊢;obtain⟨a,B,m,g,f,l,t,o⟩:=h;obtain⟨_,_,j,_,_,_,_,s⟩:=c;exact⟨a,B,m,g,λz=>f (by obtain⟨r,rfl⟩:=e;exact Va _ z),l,t,xb.down e ds _ _ s o⟩
 | .tw k,v0,v,_,h=>by
  rw[Ha]at h ⊢;obtain⟨a,A,g,f,l,o⟩:=h;exact⟨a,A,g,λz=>f (by obtain⟨r,rfl⟩:=e;exact Va _ z),l,λn q=>let ⟨y,C,E,F⟩:=o n q;⟨y,C,λz=>E (by obtain⟨r,rfl⟩:=e;exact Va _ z),F⟩⟩
 | .gt ss,v0,v,_,h=>by rw[Ha]at h ⊢;exact h
theorem xb.down(e:∃ r,μ'=μ++r):∀ (b:gV) (a f:em),xb T μ H b a->xb T μ' H' b f->xb T μ H' b f
 |[],a,f,_,h=>by simpa [xb]using h
 |d::b,a,f,c,h=>by
  rw[xb]at h c ⊢;obtain⟨v,r,j,k,l⟩:=h;obtain⟨m,r0,_,g,i⟩:=c;exact⟨v,r,j,Ha.down e d m v g k,xb.down e b r0 r i l⟩
end
theorem tH{f:Type}(e:∃ r,μ'=μ++r):∀ {xs:List$ f × D} {g h:List$ f × V},Paired (λ(p:f × D) (q:f × V)=>p.1=q.1/\Ha T μ H p.2 q.2) xs h->Paired (λ(p:f × D) (q:f × V)=>p.1=q.1/\Ha T μ' H' p.2 q.2) xs g->Paired (λ(p:f × D) (q:f × V)=>p.1=q.1/\Ha T μ H' p.2 q.2) xs g:=by
 intro _ _ x a b;induction b generalizing x with
 |nil=>exact .nil
 |cons c _ i=>cases a with|cons a b=>exact .cons ⟨c.1,Ha.down e _ _ _ a.2 c.2⟩ (i b)
theorem Yn.down(e:∃ r,μ'=μ++r):∀ {o:Ob},Yn T μ H a o->Yn T μ' H' a o->Yn T μ H' a o
 | ϑ ds,⟨_,_,c⟩,⟨b,h,r⟩=>⟨b,h,xb.down e _ _ _ c r⟩
 | ύ f,⟨_,_,c⟩,⟨b,h,r⟩=>⟨b,h,tH e c r⟩
 | ϓ c i,⟨_,_,_,d⟩,⟨g,b,h,r⟩=>⟨g,b,h,tH e d r⟩
 | ϣ f,⟨_,_,_,d⟩,⟨ob,b,h,r⟩=>⟨ob,b,h,tH e d r⟩
 | .Ie ks,_,⟨b,h,r⟩=>⟨b,h,r⟩
def Qc.down(r0:Qc T μ H σ)(r:Qc T μ' H' σ')(e:Wc μ H μ' H')(m:σ'.take σ.length=σ):Qc T μ H' σ/\Wc μ H μ H':=by
 refine⟨⟨r0.len,r0.nd,λn o h=>?_,r.tb.sub λb k=>by obtain⟨z,rfl⟩:=e.pre;exact Va _ k⟩,⟨⟨[],by simp⟩,e.Sa,e.Ic,λp o h n=>⟨(e.keep p o h n).1,n⟩⟩⟩;obtain⟨a,d,g⟩:=r0.obs n o h;have f:σ'[n]?=W1 o:=by
  have l:=(aa.mp h).1
  rwa [<-m,So l]at h
 obtain⟨b,i,j⟩:=r.obs n o f;have c:=e.get d;rw[i]at c;cases c;exact⟨a,d,g.down e.pre j⟩
theorem bL{c:Type}:∀ {xs:List$ c × D} {d:List$ c × V},Paired (λ(p:c × D) (q:c × V)=>p.1=q.1/\Ha T μ H p.2 q.2) xs d->d.map (·.1)=xs.map (·.1)/\xb T μ H (xs.map (·.2)) (d.map (·.2)):=by
 intro _ _ h;induction h with
 |nil=>exact⟨rfl,xb.nil⟩
 |cons a _ i=>exact⟨by simp[i.1,a.1],xb.cons a.2 i.2⟩
theorem uS{f:D->Option D}(j:∀ d e v,f d=W1 e->Ha T μ' H d v->Ha T μ H e v):∀ (b a:gV) (c:em),Wl f b=W1 a->xb T μ' H b c->xb T μ H a c
 |[],a,c,h,r=>by cases h;simpa [xb]using r
 |d::b,a,c,h,r=>by
  unfold Wl at h;cases g:f d with
  |none=>simp_all
  |some x=>
   cases i:Wl f b with
   |none=>simp_all
   |some xs=>
    rw[g,i]at h;cases h;obtain⟨v,w,rfl,k,l⟩:=r;exact xb.cons (j d x v g k)$ uS j b xs w i l
def HW(e:∃ r,μ'=μ++r)(r:Qc T μ' H σ'):∀ m d A v,fz μ.length σ' m d=W1 A->Ha T μ' H d v->Ha T μ H A v:=by
 have G:∀ n v,n<μ.length->Ha T μ' H (O n) v->Ha T μ H (O n) v:=λn v k h=>by
  obtain⟨a,g,B⟩:=h;obtain⟨q,rfl⟩:=e;rw[jb k]at B;exact⟨a,g,B⟩
 intro m;induction m with
 |zero=>
  intro d A v h j;unfold fz at h;by_cases w:cl d=š
  ·rw[ja w]at h;cases h;exact lL e _ _ w j
  ·rw[ra w]at h;cases d with
   |ref n=>
    dsimp only at h;by_cases k:n<μ.length
    ·rw[ja k]at h;cases h;exact G n v k j
    ·rw[ra k]at h;cases h
   |_=>cases h
 |succ m R=>
  intro d A v h j;unfold fz at h;by_cases w:cl d=š
  ·rw[ja w]at h;cases h;exact lL e _ _ w j
  ·rw[ra w]at h;have u:=uS (λd A v a b=>R d A v a b);cases d with
   |ref n=>
    dsimp only at h;by_cases k:n<μ.length
    ·rw[ja k]at h;cases h;exact G n v k j
    ·rw[ra k]at h;cases K:σ'[n]? with
     |none=>rw[K]at h;cases h
     |some o=>
      rw[K]at h;obtain⟨a,rfl,P,x⟩:=r.at j K;have y:a ∉ μ:=λz=>by
       obtain⟨i,ϋ⟩:=Jr z;obtain⟨q,rfl⟩:=e;have Q:=(aa.mp ϋ).1;have:=vI r.nd (by rw[jb Q];exact ϋ) P;omega
      cases o with
      |qa xs=>
       obtain⟨ys,g,rfl⟩:=Ka.mp h;obtain⟨f,E,F⟩:=x;exact⟨a,f,rfl,y,E,u xs ys f g F⟩
      |za N=>
       obtain⟨ys,g,rfl⟩:=Ka.mp h;obtain⟨f,E,F⟩:=x;obtain⟨L,M⟩:=bL F;exact⟨a,f,rfl,y,(ϔ E),L,u _ ys _ g M⟩
      |ub c S=>
       obtain⟨ys,g,B⟩:=Ka.mp h;subst B;obtain⟨I,f,E,F⟩:=x;obtain⟨L,M⟩:=bL F;exact⟨a,I,f,rfl,y,E,L,u _ ys _ g M⟩
      |Ub N=>cases h
      |Ie _=>cases h
   |Sa xs=>
    obtain⟨ys,g,rfl⟩:=Ka.mp h;obtain⟨p,f,l,s,t⟩:=j;exact⟨p,f,l,s,u xs ys f g t⟩
   |qa xs=>
    obtain⟨ys,g,rfl⟩:=Ka.mp h;obtain⟨p,f,l,C,s,t⟩:=j;exact⟨p,f,l,λz=>C (by obtain⟨r,rfl⟩:=e;exact Va _ z),s,u xs ys f g t⟩
   |za ks xs=>
    obtain⟨ys,g,rfl⟩:=Ka.mp h;obtain⟨p,f,l,C,s,ό,t⟩:=j;exact⟨p,f,l,λz=>C (by obtain⟨r,rfl⟩:=e;exact Va _ z),s,ό,u xs ys _ g t⟩
   |obj c ks xs=>
    obtain⟨ys,g,B⟩:=Ka.mp h;subst B;obtain⟨p,I,f,l,C,s,ό,t⟩:=j;exact⟨p,I,f,l,λz=>C (by obtain⟨r,rfl⟩:=e;exact Va _ z),s,ό,u xs ys _ g t⟩
   |_=>cases h
def Rb.Ic{E}{f}{Q}(r:Qc T μ H σ)(h:Rb T E (Ha T) μ H (Ic f σ) Q):Rb T E (Ha T) μ H (f σ) Q:=by
 unfold Lake.Ic at h;cases e:f σ with
 |Jb=>rw[e]at h;exact h
 |ex x a=>
  rw[e]at h;unfold ig at h;dsimp only at h;by_cases b:a.take σ.length=σ
  ·rw[ja b]at h;intro m i c g;obtain⟨l,j⟩:=Qc.down r g c b;exact h μ i j l
  ·rw[ra b]at h;exact h.elim
 |ok d a=>
  rw[e]at h;unfold ig at h;dsimp only at h;by_cases b:a.take σ.length=σ
  ·rw[ja b]at h;cases k:fz σ.length a 6 d with
   |none=>rw[k]at h;exact h.elim
   |some n=>
    rw[k]at h;intro m v i c g o;obtain⟨l,j⟩:=Qc.down r g c b;exact h μ v i j l$ HW c.pre g 6 d n v (by rw[r.len];exact k) o
  ·rw[ra b]at h;exact h.elim
end
def Mi(f:Ev->M D):Ev->M D:=λa=>Ic$ f a
def DP(h:FE T X e f):FE T X e$ Mi f:=by
 rintro a s g H Q I ⟨i,j,k,c,b,d⟩;exact h a s g H Q I ⟨i,j,k,c,b,Rb.Ic b d⟩
def DK(h c:Heap):Prop:=∀ (a:Nat) o,h.objs[a]?=W1 o->∃ b:Obj,c.objs[a]?=W1 b/\b.dict=o.dict
def DK.refl h:DK h h:=λa o e=>⟨o,e,rfl⟩
def DK.trans(x:DK b c)(y:DK c d):DK b d:=λa o e=>by
 obtain⟨h,f,q⟩:=x a o e;obtain⟨i,g,j⟩:=y a h f
 simp_all
def DK.push h o:DK h$ h.push o:=λa u e=>by
 obtain⟨b,l⟩:=h;have e:=e;have c:=(Rm.mp e).1;refine⟨u,?_,rfl⟩;show (b.push o)[a]?=W1 u;rw[Array.getElem?_push_lt c];exact(fh c).symm.trans e
def DK.update h b(i:∀ o,(f o).dict=o.dict):DK h$ h.update b f:=λa u e=>by
 obtain⟨c,l⟩:=h;show ∃ d:Obj,(c.modify b f)[a]?=W1 d/\_;rw[Array.getElem?_modify];by_cases g:b=a;all_goals simp_all
def DK.get(x:DK h b)(e:h.get? a=W1 o)(d:b.get? a=W1 c):c.dict=o.dict:=by
 obtain⟨u,f,g⟩:=x a o ((qv _ _ _).1 e).1;have:=((qv _ _ _).1 d).1
 simp_all
structure KD{α:Type}(t:Em α):Prop where
 out:∀ (M:Zm) (Γ:PySem.Ctx) (Q:α->Dd->Shared->Prop) (E:Value->Dd->Shared->Prop) (p:Dd) (s:Shared),Sem.wp M Γ t Q E p s->Sem.wp M Γ t (λa p' s'=>Q a p' s'/\DK s.heap s'.heap) (λe p' s'=>E e p' s'/\DK s.heap s'.heap) p s
namespace KD
variable{α β:Type}
def Nr a:KD (Pure.pure a:Em α):=⟨λb b b b b s h=>⟨h,.refl _⟩⟩
def au w:KD (PySem.unsupported w:Em α):=⟨λa a a a a a h=>h⟩
def rc(g:KD m)(e:∀ a,KD (f a)):KD$ m >>= f:=⟨λM b Q E p s h=>by
 rw[ll]at h ⊢;refine Ys M b m (λa c d z=>?_) (λi i i z=>z) p s$ g.out M b _ _ p s h;exact Ys M b _ (λi i i q=>⟨q.1,z.2.trans q.2⟩) (λi i i q=>⟨q.1,z.2.trans q.2⟩) c d$ (e a).out M b _ _ c d z.1⟩
def Nl{c}[Decidable c]{t u:Em α}(a:KD t)(b:KD u):KD$ if c then t else u:=by split<;>assumption
def ld a:KD$ PySem.load a:=⟨λc c c c c c h=>by obtain⟨o,b,h⟩:=h;exact⟨o,b,h,.refl _⟩⟩
def Qa a(b:∀ o,(f o).dict=o.dict):KD$ PySem.update a f:=⟨λc c c c c c h=>⟨h.1,h.2,.update _ _ b⟩⟩
def Mp:KD PySem.stack:=⟨λM a Q E p s h=>by
 exact⟨h,.refl _⟩⟩
def Ru o:KD$ PySem.alloc o:=⟨λa a a a a a h=>⟨h,.push _ _⟩⟩
def fld v i:KD$ PySem.field v i:=⟨λj g Q E p s h=>by
 rw[sv]at h ⊢;obtain⟨a,o,f,x,b,c,d,e,h⟩:=h;exact⟨a,o,f,x,b,c,d,e,h,.refl _⟩⟩
def set v i x:KD$ PySem.setField v i x:=⟨λn m Q E p s h=>by
 rw[eK]at h ⊢;obtain⟨a,o,k,e,f,g,j,h⟩:=h;exact⟨a,o,k,e,f,g,j,h,.update _ _ λo=>by obtain⟨c,d,b,l⟩:=o;cases b<;>rfl⟩⟩
end KD
def yev a l:KD$ nQ a l:=by unfold nQ;(repeat' with_reducible first|assumption|exact KD.Nr _|exact KD.au _|exact KD.fld _ _|exact KD.set _ _ _|exact KD.ld _|exact KD.Qa _ _|exact KD.Mp|exact KD.Ru _|apply KD.Nl|apply KD.rc|intro _|split)
def ν:KD underTheClaimsCaller:=by unfold underTheClaimsCaller;(repeat' with_reducible first|assumption|exact KD.Nr _|exact KD.au _|exact KD.fld _ _|exact KD.set _ _ _|exact KD.ld _|exact KD.Qa _ _|exact KD.Mp|exact KD.Ru _|apply KD.Nl|apply KD.rc|intro _|split)
def zux a i l:KD$ keptBack a i l:=by
 have:=ν;cases l<;>unfold keptBack<;>(repeat' with_reducible first|assumption|exact KD.Nr _|exact KD.au _|exact KD.fld _ _|exact KD.set _ _ _|exact KD.ld _|exact KD.Qa _ _|exact KD.Mp|exact KD.Ru _|apply KD.Nl|apply KD.rc|intro _|split)
theorem wT:∀ l:List xg,KD (readyFrames l)
 |[]=>KD.Nr _
 |env::l=>by
  have b:=wT l;have a:=yev env l;unfold readyFrames
  (repeat' with_reducible first|assumption|exact KD.Nr _|exact KD.au _|exact KD.fld _ _|exact KD.set _ _ _|exact KD.ld _|exact KD.Qa _ (λc=>rfl)|exact KD.Mp|exact KD.Ru _|apply KD.Nl|apply KD.rc|intro _|split)
  all_goals first|exact(λi=>zux env i l) _|skip
def v5 l:KD$ frameObject l:=by
 cases l with
 |nil=>exact KD.Nr _
 |cons env l=>
  have:=wT$ env::l;unfold frameObject
  (repeat' with_reducible first|assumption|exact KD.Nr _|exact KD.au _|exact KD.fld _ _|exact KD.set _ _ _|exact KD.ld _|exact KD.Qa _ _|exact KD.Mp|exact KD.Ru _|apply KD.Nl|apply KD.rc|intro _|split)
def Ď:KD frameEnvs:=by unfold frameEnvs;(repeat' with_reducible first|assumption|exact KD.Nr _|exact KD.au _|exact KD.fld _ _|exact KD.set _ _ _|exact KD.ld _|exact KD.Qa _ _|exact KD.Mp|exact KD.Ru _|apply KD.Nl|apply KD.rc|intro _|split)
def G7 a:KD$ PySem.frameOf a:=by
 have b:=Ď;unfold PySem.frameOf
 (repeat' with_reducible first|assumption|exact KD.Nr _|exact KD.au _|exact KD.fld _ _|exact KD.set _ _ _|exact KD.ld _|exact KD.Qa _ _|exact KD.Mp|exact KD.Ru _|apply KD.Nl|apply KD.rc|intro _|split)
 all_goals first|exact v5 _|skip
def η f b:KD$ entryPlaceOf f b:=by unfold entryPlaceOf;(repeat' with_reducible first|assumption|exact KD.Nr _|exact KD.au _|exact KD.fld _ _|exact KD.set _ _ _|exact KD.ld _|exact KD.Qa _ _|exact KD.Mp|exact KD.Ru _|apply KD.Nl|apply KD.rc|intro _|split)
def ü a b c d e l:KD$ Io a b c d e l:=by
 unfold Io newFields newObj newObjAsIs
 (repeat' with_reducible first|assumption|exact KD.Nr _|exact KD.au _|exact KD.fld _ _|exact KD.set _ _ _|exact KD.ld _|exact KD.Qa _ _|exact KD.Mp|exact KD.Ru _|apply KD.Nl|apply KD.rc|intro _|split)
def R4 e a:KD$ Qi e a:=by
 have b:=G7 a;unfold Qi
 (repeat' with_reducible first|assumption|exact KD.Nr _|exact KD.au _|exact KD.fld _ _|exact KD.set _ _ _|exact KD.ld _|exact KD.Qa _ (λc=>rfl)|exact KD.Mp|exact KD.Ru _|apply KD.Nl|apply KD.rc|intro _|split)
 all_goals first|exact η _ _|exact ü _ _ _ _ _ _|skip
def Æ e f:KD$ iH e f:=by unfold iH;(repeat' with_reducible first|assumption|exact KD.Nr _|exact KD.au _|exact KD.fld _ _|exact KD.set _ _ _|exact KD.ld _|exact KD.Qa _ _|exact KD.Mp|exact KD.Ru _|apply KD.Nl|apply KD.rc|intro _|split)
def QX{M}{t:Em e}{Q}(k:KD t)(h:wpAny M A t Q E s):wpAny M A t (λa d=>Q a d/\DK s.heap d.heap) E s:=
 λc p b=>Ys M c t (λf f f z=>z) (λf f f z=>z.1) p s$ k.out M c _ _ p s$ h c p b
section
variable{P:xa}{w:Na}{H H':Hp}{h h':Heap}{a:Addr}{o:HO}
def ι(x:Qh P w H h)(k:∀ b o u,H b=W1 o->h.get? b=W1 u->h'.get? b=W1 u):Qh P w H h':=λb o e=>
 (x b o e).Rj (λc v a q=>by
  rcases a with rfl|a
  ·exact k _ _ _ e q
  ·exact k _ _ _ a q) (λc q=>q) λc c q=>q
end
section
variable{pins:List$ Addr × Obj}{st:St}{H H':Hp}{s s':Shared}{cls:Value}{h':Heap}{ea:Addr}{args:b'}{M:Zm}{E:Value->Shared->Prop}{Q:Unit->Shared->Prop}
def W7(x:gE B l ea cls a h):Fs B l ea cls a h:=⟨x.1,x.2.1,x.2.2.1,ϔ ⟨Yb,x.2.2.2.at⟩⟩
def Fs.there(x:Fs B l ea cls b h):∃ a,h.get? ea=W1 a/\a.cls=cls:=by
 obtain⟨_,_,_,⟨f,q⟩|⟨c,g,d,e,_⟩⟩:=x
 ·exact q.there
 ·exact⟨c,d,e⟩
def IG.next(x:IG a ea B h b H')(k:DK h h')(e:∃ o,h'.get? ea=W1 o):IG a ea B h' b H':=λn q=>by
 obtain⟨c,oD,i,d,f,g⟩:=x n q;obtain⟨o,e⟩:=e;exact⟨c,oD,o,e,(k.get d e).trans f,g⟩
def R6(x:Fs B l ea cls d s.heap)(i:∀ a,Fs B l ea cls d a->s.heap.UpToSlots a->DK s.heap a->Q () { s with heap:=a }):wpAny M A (iH (Db ea) ŋ) Q E s:=by
 obtain⟨f,g,h,⟨w,c⟩|c⟩:=x
 ·have k:wpAny M A _ (λH s'=>∃ a,s'={ s with heap:=a }/\Fs B l ea cls d a/\s.heap.UpToSlots a) E s:=
   wpAny_setFlight_noneW f h c λa m p q r=>⟨a,rfl,W7 ⟨m,g,p,q⟩,λb o e n=>⟨o.slots,r b o e n⟩⟩
  exact ic (QX (Æ _ _) k) (λ_ _ ⟨⟨a,e,t,u⟩,v⟩=>by subst e;exact i a t u v) λH H z=>z
 ·obtain⟨F,G,j,C,hd,D,y,a⟩:=id c;exact ba$ Zj j hd a$ da$ i s.heap ⟨f,g,h,ϕ c⟩ (.refl _)$ .refl _
def Χ(u:A.frames=W1 (d::a))(t:d.frame=W1 L)(x:Fs B (d::a) ea cls l s.heap)
  (K:∀ h,On B (d::a) ea cls l L h->s.heap.UpToSlots h->Q () { s with heap:=h }):wpAny M A (Qi (Db ea) d) Q E s:=by
 obtain⟨H,z,I,⟨C,m⟩|m⟩:=x
 ·by_cases Z:C=wc L
  ·subst Z;exact wpAny_noteFrame_againW t m$ K s.heap ⟨H,z,I,m⟩$ .refl _
  ·obtain⟨S,V,T,oT,y,j,N,hd,h,w,i,D,c,Y⟩:=m;have ϊ:3<y.size:=(Rm.mp Y).1;have f:∀ b,b≠T->(s.heap.update T (Ip (·.setIfInBounds 3 Yb))).get? b=s.heap.get? b:=λb F=>Ae _ _$ Cd F;have nr:∀ b o,s.heap.get? b=W1 o->(∀ v,o.data≠ ϫ v)->b≠T:=λb o F hn q=>by
    rw[q,D]at F;cases F;exact hn y c
   have g:=Gd (Ip (·.setIfInBounds 3 Yb)) D$ Ni$ Jd c _;have up:s.heap.UpToSlots _:=λb o e n=>⟨o.slots,(f b$ nr b o e n).trans e⟩
   have F0:gE B _ ea cls l _:=
    ⟨λb o e=>(f b λq=>by rw[q,w]at e;cases e).trans$ H b o e,z,I.of_keeps λb o e n=>⟨o,(f b$ nr b o e n).trans e,rfl⟩,
     S,V,T,_,_,(f ea$ Cd i).trans j,N,hd,h,w,i,g,Jd c _,by simp[ϊ]⟩
   intro Γ p ϋ;have k:=(wpAny_looks_onW (M:=M) (E:=E) (s:={ s with heap:=s.heap.update T _ }) u t F0 λh2 q1 q2=>K h2 q1$ up.trans q2) Γ p ϋ;unfold Qi at k ⊢;simp only[t]at k ⊢;rw[ll,sv]at k ⊢;obtain⟨a1,P,v1,x1,e1,g1,X,i1,k⟩:=k;cases e1;have r:s.heap.get? ea=W1 P:=(f ea$ Cd i).symm.trans g1;have R:P=S:=by rw[j]at r;cases r;rfl
   subst R;rw[hd]at X;cases X;rw[h]at i1;cases i1;refine⟨ea,P,V,Db T,rfl,j,hd,h,?_⟩;have nn:(Db T != Yb)=š:=by simp
   simp only[nn,sg]at k ⊢;rw[ll,sv]at k ⊢;obtain⟨a2,o2,v2,x2,e2,g2,d2,i2,k⟩:=k;cases e2;have ό:=g.symm.trans g2;cases ό;have G:=(Jd c (·.setIfInBounds 3 Yb)).symm.trans d2;cases G;have W:x2=Yb:=by
    have:(y.setIfInBounds 3 Yb)[3]?=W1 Yb:=by simp[ϊ]
    rw[this]at i2;cases i2;rfl
   subst W;refine⟨T,oT,y,C,rfl,D,c,Y,?_⟩;have n1:(Yb == wc L)=į:=by simp[wc]
   have n2:(C == wc L)=į:=by
    cases q:C == wc L with
    |false=>rfl
    |true=>exact absurd (Xh.mp q) Z
   simp only[n1,n2,sf,oj]at k ⊢;rw[ll,eK]at k ⊢;obtain⟨a3,o3,v3,e3,g3,d3,i3,k⟩:=k;cases e3;refine⟨T,oT,y,rfl,D,c,ϊ,?_⟩;simpa only[Heap.update_setField_twice]using k
 ·obtain⟨S,V,j,N,hd,hz,h0,h⟩:=m;unfold Qi;simp[t];refine ba$ Zj j hd h (wpAny_entryW (base:=B) (outer:=a) (a0:=l) u I t j H z hd hz h0 λh4 hN=>?_);obtain⟨k1,k2,k3,k4⟩:=hN;rw[N]at k3;exact K h4 ⟨k1,z,k2,k3⟩ k4
def O5(f:A.frames=W1 (c::a))(j:c.frame=W1 L)(x:Fs B (c::a) ea cls d s.heap)
  (i:∀ b,On B (c::a) ea cls d L b->s.heap.UpToSlots b->DK s.heap b->Q () { s with heap:=b }):wpAny M A (Qi (Db ea) c) Q E s:=by
 have k:wpAny M A _ (λm s'=>∃ b,s'={ s with heap:=b }/\On B _ ea cls d L b/\s.heap.UpToSlots b) E s:=Χ f j x λb g h=>⟨b,rfl,g,h⟩
 exact ic (QX (R4 _ _) k) (λ_ _ ⟨⟨b,e,g,h⟩,l⟩=>by subst e;exact i b g h l) λm m z=>z
def yej(x:On B l ea cls a L h):Fs B l ea cls a h:=⟨x.1,x.2.1,x.2.2.1,ϔ ⟨_,x.2.2.2⟩⟩
def Q1(d:A.frames=W1 (b::a))(h:b.frame=W1 L)(x:Fs B (b::a) ea cls e s.heap)
  (g:∀ c,Fs B a ea cls e c->s.heap.UpToSlots c->DK s.heap c->Q () { s with heap:=c }):wpAny M A (leaving b$ Db ea) Q E s:=by
 refine ba (O5 d h x λc m n o=>(R6 (yej m) λf p q r=>?_));obtain⟨i,j,⟨_,_,k⟩,l⟩:=p;exact g f ⟨i,j,k,l⟩ (n.trans q)$ o.trans r
def JH(c:X.stack=X.env::X.outer)(a:X.env.frame=W1 X.env.locals):b∈rk X.stack ↔ b=X.env.locals\/b∈rk X.outer:=by
 rw[c];unfold rk;rw[Dg,a];exact La
def V8(I:gb X pins st H s)(m:X.stack=X.env::X.outer)(l:X.env.frame=W1 X.env.locals)(p:X.ex=[])(d:Un (rk X.stack) [] H H' s.heap f):Un (rk X.outer) [] X.H₀ H' X.s₀.heap f:=by
 have a:∀ b,b ∉ X.ex:=λb z=>by rw[p]at z;cases z
 have i:∀ b o,X.s₀.heap.get? b=W1 o->b≠X.env.locals:=λb o e=>Aa$ Ma (wa e) I.ok.above;refine⟨λb o e n g v=>?_,λb o e n g v=>?_,λb o e n v=>?_,λb o e v=>?_,λb xs e=>d.jm b xs$ I.base.jm b xs e,λb o u e=>d.Yi b o u$ I.base.Yi b o u e,λb ps e=>?_⟩
 ·exact d.keep b o (I.base.keep b o e n g$ a b) (I.base.free b o e n$ a b) (λz=>((JH m l).mp z).elim (i b o e) g) ⋯
 ·obtain⟨t,c⟩:=I.base.slot b o e n g (a b);obtain⟨k,h⟩:=d.slot b _ c (I.base.free b o e n$ a b) ((JH m l).mpr$ ϕ g) ⋯;exact⟨k,h⟩
 ·obtain⟨j,c⟩:=I.base.there b o e (a b);exact d.free b j c (I.base.free b o e n$ a b) ⋯
 ·obtain⟨j,c⟩:=I.base.there b o e (a b);exact d.there b j c ⋯
 ·obtain⟨q,c⟩:=I.base.Zk b ps e;obtain⟨r,h⟩:=d.Zk b _ c;exact⟨q++r,by rw[h,Us]⟩
def ydt(F:SG P w a H s cls t H' e s'){B:Heap}(x:∀ b o,s.heap.get? b=W1 o->H b=ŋ->b ∉ rk a->B.get? b=W1 o)(y:∀ b o,H' b=W1 o->∃ r,B.get? b=W1 r)
  (v:∀ b o,s.heap.get? b=W1 o->b ∉ rk a->∃ k,B.get? b=W1 k) (z:∀ b o,B.get? b=W1 o->s'.heap.get? b=W1 o) (l:∀ b o,B.get? b=W1 o->j.get? b=W1 o) (h:s'.heap.UpToSlots j) (g:∀ b∈rk a,∃ o,s.heap.get? b=W1 o/\(∀ D,o.data≠ ϫ D)/\H b=ŋ) :
  Un (rk a) [] H H' s.heap j/\Qh P w H' j:=by
 refine⟨⟨λb o e n c E=>l b o$ x b o e n c,λb o e n c m=>?_,F.un.free,λb o e m=>?_,F.un.jm,F.un.Yi,F.un.Zk⟩,ι F.pc λb o u e q=>?_⟩
 ·obtain⟨C,f⟩:=F.un.slot b o e n c m;obtain⟨k,d,hd,_⟩:=g b c;rw[e]at d;cases d;obtain⟨i,p⟩:=h b _ f hd;exact⟨i,p⟩
 ·by_cases c:b∈rk a
  ·obtain⟨k,d,hd,A⟩:=g b c;rw[e]at d;cases d;obtain⟨C,f⟩:=F.un.slot b o e A c m;obtain⟨i,p⟩:=h b _ f hd
   simp_all
  ·obtain⟨k,f⟩:=v b o e c
   simp_all
 ·obtain⟨r,f⟩:=y b o e
  simp_all
def ã(I:gb X pins st H s):∀ b∈rk X.stack,∃ o,s.heap.get? b=W1 o/\(∀ c,o.data≠ ϫ c)/\H b=ŋ:=λb a=>by
 obtain⟨_,o,e,hd⟩:=I.stack.mem a;exact⟨o,e,hd,I.Hl b a⟩
set_option tactic.hygienic true in
def Ξ(I:gb X pins st H s)(d:X.stack=X.env::X.outer)(i:X.env.frame=W1 X.env.locals)(c:X.ex=[])(F:SG X.prog X.w X.stack H s cls j H' e s')
  (N:∀ g,SG X.prog X.w X.outer X.H₀ X.s₀ cls j H' e g->Q () g):wpAny M X.A (leaving X.env e) Q E s':=by
 obtain⟨ea,t,B,rfl,y,ϋ,ό,G,D,C,L⟩:=F.ex;have k:Fs B (X.env::X.outer) ea cls t s'.heap:=by rw[<-d];exact y
 refine Q1 (by rw[<-d];exact I.ok.frames) i k λl r S T=>N _ ?_;obtain⟨R,p⟩:=ydt F D G C y.1 r.1 S (ã I);have a:∀ b,b ∉ X.ex:=λb z=>by rw[c]at z;cases z
 have f:∀ b o,X.s₀.heap.get? b=W1 o->b≠X.env.locals:=λb o e=>Aa$ Ma (wa e) I.ok.above;have K:∀ b,s.heap.get? b=ŋ->X.s₀.heap.get? b=ŋ:=λb e=>by
  cases q:X.s₀.heap.get? b with
  |none=>rfl
  |some u=>obtain⟨v,x⟩:=I.base.there _ _ q (a _);rw[e]at x;cases x
 have m:IG j ea B l X.s₀.heap H':=λn q=>by
  obtain⟨ϊ,oD,V,W,Y,Z,z4,z5,z6⟩:=L.next T (let ⟨o,e,_⟩:=r.there;⟨o,e⟩) n q
  simp_all
 refine⟨⟨ea,t,B,rfl,r,ϋ,?_,G,λb o e n h=>?_,λb o e h=>?_,m⟩,F.os.trans I.os,F.bare,V8 I d i c R,p⟩
 ·cases q:X.s₀.heap.get? ea with
  |none=>rfl
  |some u=>grind
 ·exact D b o (I.base.keep b o e n h$ a b) (I.base.free b o e n$ a b) λz=>((JH d i).mp z).elim (f b o e) h
 ·obtain⟨P,q⟩:=I.base.there b o e (a b);exact C b P q λz=>((JH d i).mp z).elim (f b o e) h
end
def T9{P}{w}{K}{m}{d}{N}{g}{c}{f}{l}{A}{b}{s}{H}{E}{st}{a}{j}{i}
  (h:E a j i):xN (Ap (Xk P w) P w K m d N g c f l A b s H E) st a j i where
 GK:=λk o s1 e p I F=>Ξ I rfl rfl rfl F λn G=>⟨a,j,i,G,h⟩
def ir{K} :
  Go (model P w) (Ap (Xk P w) P w K g c N d b f e A a s H E).A (Ap (Xk P w) P w K g c N d b f e A a s H E).env (Ap (Xk P w) P w K g c N d b f e A a s H E).xe:=zaC
noncomputable def yul:Fl->M D
 | ϙ _=>ret Ϛ
 | .rt d=>ret d
 | .xc _ x=>λa=>.ex x a
 |_=>Jb
def Tn:Gi Fl->Gi D
 | J a σ=>yul a σ
 |_=>Ϙ
def Xg(n:Nat)(g:Ev->M Fl)(a:gV):M D:=λb=>Tn$ g (a.map W1++List.replicate (n - a.length) ŋ) b
inductive MS(T:Tb)(n:Nat)(vs:em)(H:Hp)(P:ac->Da->gV->Prop):Prop
 |mk (μ:ac) (σ:Da) (ds:gV) (a:xb T μ H ds vs) (l:ds.length=n) (r:Qc T μ H σ) (p:P μ σ ds):MS T n vs H P
noncomputable def ro(T:Tb)(n:Nat)(f:gV->M D):Sp:=λb H Q E=>MS T n b H λc d a=>Rb T E (Ha T) c H (f a d) Q
noncomputable def Pp(n:Nat)(f:gV->M D)(a:gV)(b:gV):M D:=if (b++a).length=n then f (b++a)else Jb
def we(n:Nat)(f:gV->M D)(a:gV)(b:Ev->M (gV)):Ev->M D:=λc=>rc (b c)$ Pp n f a
section
def O8(h:xb T f H a c):Jh T f H (a.map W1++List.replicate (N.length - a.length) ŋ)$ L2.Hx N c:=by
 have l:=h.length;refine⟨by simp[L2.Hx,l],λi d e=>?_⟩;by_cases k:i<a.length
 ·rw[jb (by simpa using k),Ta]at e;cases b:a[i]? with
  |none=>simp_all
  |some x=>
   rw[b]at e;cases e;obtain⟨v,g,j⟩:=h.get b;refine⟨v,?_,j⟩;unfold L2.Hx;rw[jb ⋯,Ta,g];rfl
 ·rw[Gb ⋯,Fp]at e
  simp_all
variable{k:Nat}{f C:Addr}{fd:gf}{ps:ab}{dvs:em}{dval:b'}{dds:gV}{x:Str}{p pos:Dd}{e:Fa}{es:List Fa}{fn:gV->M D}{fs:Ev->M (gV)}{sp:Sp}{t:TA}
def yE(F:oh X.prog X.w X.K X.mg X.base (Xk X.prog X.w) k f fd ps sp)(o:ud k X.A)(m:wr X.K fd ps dval)(hd:ke dvs dval)
  (I:gb X a g H s) (r:ke vs d) (h:sp (vs++dvs) H Q$ XE X g):wpAny (model X.prog X.w) X.A (call (Db f) d) (EP X a g Q) X.xe s:=by
 have i:=r.append hd;have n:(d++dval).length=ps.length:=by rw[<-i.length];exact F.len _ _ _ _ h
 refine ij (lf (F.Xg X.A X.stack s H _ _ _ Q _ o I.UE (m s d I.Li n) i h) λr q c=>?_);cases r with
 |error e=>obtain⟨j,fd,t,b,p⟩:=c;exact p.GK a H s e q I b
 |ok l=>
  cases l with
  |ret u=>exact I.after c
  |next=>exact ϱ c
  |brk=>exact ϱ c
  |cont=>exact ϱ c
def zN(F:oh X.prog X.w X.K X.mg X.base (Xk X.prog X.w) k f fd ps$ ro T ps.length fn)(M:ud k X.A)(E:Gl X x)(ό:X.mg x=W1 (Db f))(G:Ϲ X.K (Db f)=š)(C:wr X.K fd ps dval)(hd:ke dvs dval)(g:∀ n H,xb T n H dds dvs)
  (B:FA T X (e::es) fs) (d: ~~~((x == ("__debug__" : Str))=į)) (D:(na (e::es) X.env=(į,Ib e X.env)::na es X.env)⁻¹) (j:((Zb pos$ na es X.env).any (·.1)=į)⁻¹) :
  FE T X (Ϡ (Ϝ x p) (e::es) [] pos)$ we ps.length fn dds fs:=by
 intro a s y H Q I h;refine Re$ uF I E ό ?_ d;obtain⟨n,ρ,P,z,l,L⟩:=h;refine gh I.ok.mod.gx G (Zc (B pos a s y H (λm c=>ro T ps.length fn (m++dvs) c Q$ XE X y) I ⟨n,ρ,P,z,l,L.bind λv t o m c J R ϋ N b=>?_⟩) λus s1 ⟨m,c,u,r,q⟩=>⟨u.Li,?_⟩) D j
 ·unfold Pp at b;by_cases i:(v++dds).length=ps.length
  ·rw[ja i]at b;exact⟨o,t,v++dds,N.append$ g _ _,i,ϋ,b⟩
  ·rw[ra i]at b;exact b.elim
 ·exact yE F M C hd u r q
variable{P:xa}{w:Na}{K:ϗ}{mg:Str->Option Value}{base:Heap}
def sD{st}{D kV i pm d ct oc}{C Z}
  (Y:K.lookup f=W1 ⟨oc,Z,.func$ ϯ x a c (Fj st) (qf st) D kV i pm C d ct,q⟩) (p:W.codeIn K d a=š) (S:gc N ps$ qf st)
  (V:∀ A b s H E,ud k (A.deeper$ dg a (qf st) s.heap.objs.size f d)->im T (Ap (Xk P w) P w K mg base N a (qf st) f d A b s H E) (Fj st) g) :
  oh P w K mg base (Xk P w) (k+1) f (ϯ x a c (Fj st) (qf st) D kV i pm C d ct) ps$ ro T ps.length$ Xg N.length g:=by
 refine Z7 Y p S (λvs H Q E h=>?_) (λA b s H vs Q E X h=>?_)
 ·obtain⟨G,y,ό,o,F,_⟩:=h;rw[<-o.length];exact F
 ·obtain⟨G,y,ό,o,F,ϊ,e⟩:=h;refine⟨_,V A b s H E X,G,_,y,O8 o,ϊ,?_⟩;unfold Xg at e;cases m:g _ y with
  |Jb=>rw[m]at e;exact e
  |ex x B=>rw[m]at e;exact e.elim
  |ok R B=>
   rw[m]at e;intro u n I L r j;have l:=e.mono L;cases R with
   |nx v=>cases n with
    |nx t=>have z:=Rb.here l r (by rw[Ha]);exact z
    |_=>exact j.elim
   |rt d2=>cases n with
    |rt v2=>have z:=Rb.here l r j;exact z
    |_=>exact j.elim
   |xc v x2=>cases n with
    |xc t c2 ϋ=>
     obtain⟨_,rfl,rfl⟩:=j;exact T9$ l u I (Ϯ _ _) r
    |_=>exact j.elim
   |_=>exact l.elim
def HK(F:oh P w K mg base (Xk P w) k f fd ps$ ro T ps.length fn):oh P w K mg base (Xk P w) k f fd ps$ ro T ps.length (λa=>Ic$ fn a):=
 F.imp λj H Q E h=>by
  obtain⟨g,i,a,c,d,b,e⟩:=h;exact⟨g,i,a,c,d,b,Rb.Ic b e⟩
end
noncomputable def Ri(e:xg)(a:List$ Str × Ee)(b:List$ Str × Addr):List$ Str × Addr:=
 a.foldl (λd y=>if (y.2 == Ab)=š then (match e.cells.lookup y.1 with|some c=>(y.1,c)::d|none=>d)else d) b
theorem oM(b:xg):∀ (d:List$ Str × Ee) (acc:List$ Str × Addr),(∀ y∈d,y.2=Ab->∃ c,b.cells.lookup y.1=W1 c)->
  (forIn d acc (λx (cs:List (Str × Addr))=>match x with|(name,kind)=>if (kind == Ab)=š then (do let a <-cellOf b name;pure (ForInStep.yield$ (name,a)::cs))else pure (ForInStep.yield cs)):Em (List$ Str × Addr))=pure (Ri b d acc)
 |[],acc,_=>rfl
 |(n,k)::r,acc,h=>by
  rw[List.forIn_cons];by_cases e:(k == Ab)=š
  ·obtain⟨c,i⟩:=h _ ua ⋯;have j:cellOf b n=pure c:=by unfold cellOf;rw[i]
   simp only[e,j];show (forIn r _ _:Em _)=_;rw[oM b r _ λy g=>h y$ la _ g];have f:Ri b ((n,k)::r) acc=Ri b r ((n,c)::acc):=by
    unfold Ri;rw[Bm];simp only[e,sg,i]
   rw[f]
  ·simp only[e];show (forIn r acc _:Em _)=_;rw[oM b r acc λy g=>h y$ la _ g];have f:Ri b ((n,k)::r) acc=Ri b r acc:=by
    unfold Ri;rw[Bm];simp only[e];rfl
   rw[f]
def aM b a(h:∀ y∈a.names,y.2=Ab->∃ c,b.cells.lookup y.1=W1 c):closureFor a b=pure (Ri b a.names []):=by
 unfold closureFor;simp only[bind_pure];exact(oM b a.names [] h)
theorem sP(a:xg):∀ (b:List$ Str × Ee) (acc:List$ Str × Addr) (n:Str) (c:Addr),(∀ n c,acc.lookup n=W1 c->a.cells.lookup n=W1 c)->(Ri a b acc).lookup n=W1 c->a.cells.lookup n=W1 c
 |[],acc,n,c,h,e=>h n c e
 |(y,k)::r,acc,n,c,h,e=>by
  refine sP a r _ n c (λn c q=>?_) e;by_cases f:(k == Ab)=š
  ·simp[f,sg]at q;cases d:a.cells.lookup y with
   |none=>rw[d]at q;exact h n c q
   |some g=>
    rw[d]at q;rw[Pb]at q;cases i:(n == y)with
    |true=>simp_all
    |false=>simp_all
  grind
theorem NT(a:xg):∀ (b:List$ Str × Ee) (acc:List$ Str × Addr) (n:Str),(∃ c,acc.lookup n=W1 c)->∃ c,(Ri a b acc).lookup n=W1 c
 |[],acc,n,h=>h
 |(y,k)::r,acc,n,h=>by
  refine NT a r _ n ?_;by_cases e:(k == Ab)=š
  ·simp[e];cases f:a.cells.lookup y with
   |none=>exact h
   |some d=>
    rw[Pb];cases g:(n == y)with
    |true=>exact⟨d,rfl⟩
    |false=>exact h
  simp_all
theorem JF(b:xg):∀ (a:List$ Str × Ee) (acc:List$ Str × Addr) (n:Str),(n,Ab)∈a->(∃ c,b.cells.lookup n=W1 c)->∃ c,(Ri b a acc).lookup n=W1 c
 |[],acc,n,h,_=>nomatch h
 |(y,k)::r,acc,n,h,d=>by
  rcases La.mp h with e|e
  ·cases e;refine NT b r _ _ ?_;obtain⟨c,d⟩:=d
   simp_all
  ·exact JF b r _ n e d
theorem UN{a:xg}:∀ {b:List$ Str × Ee} {x:Str} {k:Ee},
  (b.map λ(n,k)=>if (k == Ab && a.scope.kind == Ϥ && a.kindOf n == W1 lc)then (n,lc)else (n,k)).lookup x=W1 k->∃ k0,b.lookup x=W1 k0/\(k=k0\/(k0=Ab/\k=lc))
 |[],_,_,h=>by simp at h
 |(n,k0)::r,x,k,h=>by
  have f:=@UN a r x k;have c:List.lookup x ((if (k0 == Ab && a.scope.kind == Ϥ && a.kindOf n == W1 lc)=š then (n,lc)else (n,k0))::(r.map λ(n,k)=>if (k == Ab && a.scope.kind == Ϥ && a.kindOf n == W1 lc)then (n,lc)else (n,k)))=W1 k:=h;cases e:x == n with
  |true=>
   by_cases d:(k0 == Ab && a.scope.kind == Ϥ && a.kindOf n == W1 lc)=š;all_goals grind
  |false=>
   by_cases d:(k0 == Ab && a.scope.kind == Ϥ && a.kindOf n == W1 lc)=š
   ·rw[ja d]at c;simp only[Pb,e]at c ⊢;exact f c
   ·rw[ra d]at c;simp only[Pb,e]at c ⊢;exact f c
theorem rX{env:xg}:∀ {a:List$ Str × Ee} {x:Str},a.lookup x=W1 Ab->
  (a.map λ(n,k)=>if (k == Ab && env.scope.kind == Ϥ && env.kindOf n == W1 lc)then (n,lc)else (n,k)).lookup x=W1 lc\/
  (a.map λ(n,k)=>if (k == Ab && env.scope.kind == Ϥ && env.kindOf n == W1 lc)then (n,lc)else (n,k)).lookup x=W1 Ab
 |[],_,h=>by simp at h
 |(n,k)::r,x,h=>by
  have f:=@rX env r x;have b:∀ z,List.lookup x ((if (k == Ab && env.scope.kind == Ϥ && env.kindOf n == W1 lc)=š then (n,lc)else (n,k))::(r.map λ(n,k)=>if (k == Ab && env.scope.kind == Ϥ && env.kindOf n == W1 lc)then (n,lc)else (n,k)))=z->
   (List.map (λ(n,k)=>if (k == Ab && env.scope.kind == Ϥ && env.kindOf n == W1 lc)then (n,lc)else (n,k))$ (n,k)::r).lookup x=z:=λz e=>e
  cases c:x == n with
  |true=>
   simp[Pb,c]at h;cases h;by_cases d:(Ab == Ab && env.scope.kind == Ϥ && env.kindOf n == W1 lc)=š
   ·exact ϔ$ b _ (by rw[ja d];simp only[Pb,c])
   ·exact ϕ$ b _ (by rw[ra d];simp only[Pb,c])
  |false=>
   simp only[Pb,c]at h;have e:List.lookup x ((if (k == Ab && env.scope.kind == Ϥ && env.kindOf n == W1 lc)=š then (n,lc)else (n,k))::(r.map λ(n,k)=>if (k == Ab && env.scope.kind == Ϥ && env.kindOf n == W1 lc)then (n,lc)else (n,k))) =
     (r.map λ(n,k)=>if (k == Ab && env.scope.kind == Ϥ && env.kindOf n == W1 lc)then (n,lc)else (n,k)).lookup x:=by
    by_cases d:(k == Ab && env.scope.kind == Ϥ && env.kindOf n == W1 lc)=š
    ·rw[ja d];simp only[Pb,c]
    ·rw[ra d];simp[Pb,c]
   rcases f h with q|q
   ·exact ϔ$ b _$ e.trans q
   ·exact ϕ$ b _$ e.trans q
def zw{a:List$ Str × Ee}(h:a.lookup x=W1 k):(x,k)∈a:=je h
noncomputable def Ko(X:Cx)(b:ab)(a:Scope)(cl:List$ Str × Addr)(C:Addr)(s₀:Shared)(H₀:Hp)(ex:ac):Cx:=
 { X with N:=b,s₀:=s₀,H₀:=H₀,env:=compEnvC a cl C X.env,outer:=X.stack,stack:=X.stack,ex:=ex,fn:=λc=>į,pn:=[],xe:=λc c=>False }
structure Sj(X:Cx)(x:Str)(M':ab)(ix:dl)(scope:Scope):Prop where
 kind:scope.kind=Ϥ
 cell:(scope.names.all λy=>!(y.2 == lc))=š
 names:(scope.names.all λy=>!(y.2 == .local) || scope.names.lookup y.1 == W1 .local)=š
 free:(scope.names.all λy=>!(y.2 == Ab) || (X.env.scope.names.lookup y.1 == W1 lc || X.env.scope.names.lookup y.1 == W1 Ab))=š
 at_:ix.map (λi=>X.N[i]?)=M'.map W1
 SS:(M'.all λy=>(X.env.scope.names.lookup y == W1 lc || X.env.scope.names.lookup y == W1 Ab) && scope.names.lookup y == W1 Ab)=š
noncomputable def ZW(a:dl)(b:Ev):Ev:=ŋ::a.map λi=>(b[i]?).getD ŋ
noncomputable def HQ(a:dl)(st:St):St:=ŋ::a.map λi=>(st[i]?).getD ŋ
def PQ{st} a(h:Jh T c H ρ st):Jh T c H (ZW a ρ)$ HQ a st:=by
 refine⟨by simp[ZW,HQ],λi d e=>?_⟩;cases i with
 |zero=>cases e
 |succ j=>
  have k:(a.map λi=>(ρ[i]?).getD ŋ)[j]?=W1 _:=e;cases l:a[j]? with
  |none=>simp_all
  |some b=>
   have f:ρ[b]?=W1 (W1 d):=by
    cases q:ρ[b]? with
    |none=>simp_all
    |some o=>simp_all
   obtain⟨v,m,g⟩:=h.2 b d f;refine⟨v,?_,g⟩;show (a.map λi=>(st[i]?).getD ŋ)[j]?=_
   simp_all
section
variable{pins:List$ Addr × Obj}{st:St}{H:Hp}{s:Shared}{x:Str}{M':ab}{ix:dl}{scope:Scope}{fp:ac}
def ļ(L:Sj X x M' ix scope) y(a:y∈scope.names)(e:y.2=Ab):X.env.kindOf y.1=W1 lc\/X.env.kindOf y.1=W1 Ab:=by
 have q:=Xa.mp L.free y a;rw[e]at q;simp only[Ke,Bool.not_true,AB,ug]at q;rcases q with q|q
 ·exact ϔ$ eq_of_beq q
 ·exact ϕ$ eq_of_beq q
def iB(I:gb X pins st H s)(L:Sj X x M' ix scope):∀ y∈scope.names,y.2=Ab->∃ c,X.env.cells.lookup y.1=W1 c:=λy a e=>I.ok.has y.1$ ļ L y a e
def rF(L:Sj X x M' ix scope):∀ y∈scope.names,y.2≠ lc:=λy a e=>by
 have q:=Xa.mp L.cell y a
 simp_all
end
def qt{a:Type}(m:M a):M a:=λb=>match m b with
 | .ex _ _=>Ϙ
 |o=>o
def Rb.cu{E E0}{R:ac->Hp->j->t->Prop}{R'}{m}{k:j->M s}{Q:u->Hp->Prop}{o}
  (h:Rb T E R' l H (rc (qt m) k i) Q) (f:∀ a b c g d,m i=J a b->Wc l H c d->Qc T c d b->R c d a g->Rb T E R' c d (k a b) Q->o g d):Rb T E0 R l H (m i) o:=by
 unfold rc qt at h;cases e:m i with
 |ok a b=>
  simp[e]at h;exact λn g v p r q=>f a b n g v e p r q$ h.mono p
 |ex x b=>simp[e]at h;exact h.elim
 |Jb=>simp[e]at h;exact h
def vx(T:Tb)(X:Cx)(b:List Fa)(f:Ev->M Bool):Prop:=
 ∀ a s st H Q,gb X a st H s->tT T X f st H Q->
  wpAny (model X.prog X.w) X.A (forIn b š λc r=>if r=š then do let ok <-GB c X.env (Ib c X.env);pure (ForInStep.yield ok)else pure (ForInStep.yield r)) (TP X a st Q) X.xe s
noncomputable def wl:Ev->M Bool:=λa=>ret š
def ĥ:vx T X [] wl:=by
 rintro a s e H Q I ⟨f,g,h,d,c,b⟩;exact wpAny_tests_nil ⟨H,I,Rb.here b c rfl⟩
def ztl(h:FT T X c f):vx T X [c] f:=λa s d H Q I b=>wpAny_tests_one$ h a s d H Q I b
def ŝ(u:Un i ex H g h j)(d:yd C j k)(l:h.objs.size<=C):Un i ex H g h k:=by
 have f:∀ b o,h.get? b=W1 o->b≠C:=λb o e=>Aa$ Ma (wa e) l;refine⟨λb o e n c a=>(d.2 b$ f b o e).trans$ u.keep b o e n c a,λb o e n c a=>?_,u.free,λb o e a=>?_,u.jm,u.Yi,u.Zk⟩
 ·obtain⟨p,q⟩:=u.slot b o e n c a;exact⟨p,(d.2 b$ f b o e).trans q⟩
 ·obtain⟨m,q⟩:=u.there b o e a;exact⟨m,(d.2 b$ f b o e).trans q⟩
def Ï(ok:Qh P w H a)(f:yd C a d)(h:H C=ŋ):Qh P w H d:=λb g e=>by
 refine(ok b g e).Rj (λc j i q=>(f.2 c ?_).trans q) (λk q=>q) λk k q=>q;rintro rfl
 simp_all
def V5(r:Qc T b H c)(d:b[n]?=W1 a)(e:Ha T b H y v)(h:Rb T E (Ha T) b H (Ei (O n) [y] c) Q):ZP (ϖ a) [v] H Q:=
 XP E b H c _ [y] (ϖ a) [v] Q r (by rw[Ha];exact⟨a,rfl,d⟩) (xb.cons e xb.nil) h
def uI{m m'}{k:b->M c}(h:m a=m' a):rc m k a=rc m' k a:=by unfold rc;rw[h]
theorem UK{m:M b}{k}{l:c->M d}:rc (rc m k) l=rc m λa=>rc (k a) l:=by
 funext e;unfold rc;cases m e<;>rfl
def AF(x y:D):M D:=λa=>match wf a x,wf a y with
 |some xs,W1 b=>if xs.length+b.length<=Yf then J (ώ$ xs++b) a else Ϙ
 |_,_=>Ϙ
def Ji(x y:D):M D:=match x,y with
 | U i,U j=>ret (U$ i+j)
 | ϐ xs,ϐ c=>if xs.length+c.length<=Yf then ret (ϐ$ xs++c)else Jb
 | ϒ a,ϒ b=>if a.length+b.length<=100000 then ret (ϒ$ a++b)else Jb
 |x,y=>AF x y
def ξ(h:n<=100000):n<=sizeLine:=zb h ⋯
section
variable{a b c:Fa}{fa fb fc:Ev->M D}{pos:Dd}
def D8{c}{t b}{l:b'}(u:IsTup s.heap t (#[]:Array Value))(q:IsTup s.heap b l.toArray)(p:Q (Db b) s):wpAny (model c w) A (De .Add (Db t)$ Db b) Q F s:=by
 obtain⟨⟨m,o,j,x⟩,k,r,n,hd⟩:=id u;obtain⟨⟨i,e,d,h⟩,a,f,v,g⟩:=id q;subst r hd f g;exact bv ⟨_,k,rfl⟩ ⟨_,a,rfl⟩ Fo Xs Kh vh (eh _ _)
  (tuple_addW0 t b #[] l.toArray n v o e x h rfl) ⟨k,a,p⟩
def dR{b}{st}(I:gb X b st H s)(C:Rc v i)(B:Rc u h)(r:Qc T d H e)(t:Ha T d H x v)(z:Ha T d H y u)(a:Rb T E (Ha T) d H (AF x y e) Q) :
  wpAny (model X.prog X.w) X.A (De .Add i h) (EP X b st Q) X.xe s:=by
 unfold AF at a;cases c:wf e x with
 |none=>rw[c]at a;exact a.elim
 |some xs=>
  cases f:wf e y with
  |none=>rw[c,f]at a;exact a.elim
  |some ό=>
   rw[c,f]at a;dsimp only at a;by_cases g:xs.length+ό.length<=Yf
   ·rw[ja g]at a;obtain⟨p,F,rfl,m,j⟩:=r.ls t c;obtain⟨q,G,rfl,n,k⟩:=r.ls z f;exact UT b s st H _ _ i h Q I C B ⟨p,q,F,G,rfl,rfl,m,n,by rw[<-j.length,<-k.length];exact EA g,λl o=>EJ a r (xb.append j k) o⟩
   ·rw[ra g]at a;exact a.elim
def AX(S:T.K=X.K):Ph X (De .Add)$ rD T Ji:=by
 rintro d s st H v u z w Q I m k ⟨E,W,Y,x,y,r,g,h,c⟩;cases x with
 |int i=>
  cases y with
  |int j=>exact ß d s st H v u z w Q I m k ⟨i,j,jo g,jo h,Rb.here c r (by rw[Ha])⟩
  |_=>trivial
 |str a=>
  cases y with
  |str b=>
   unfold Ji at c;dsimp only at c;by_cases f:a.length+b.length<=100000
   ·rw[ja f]at c;exact U3 d s st H v u z w Q I m k ⟨a,b,by simpa [Ha]using g,by simpa [Ha]using h,ξ f,Rb.here c r (by rw[Ha])⟩
   ·rw[ra f]at c;exact c.elim
  |_=>exact dR I m k r g h c
 |Sa xs=>
  cases y with
  |Sa D=>
   unfold Ji at c;dsimp only at c;by_cases f:xs.length+D.length<=Yf
   ·rw[ja f]at c;have G:=g;have ό:=h;obtain⟨p,P,rfl,A,o⟩:=g;obtain⟨q,R,rfl,B,t⟩:=h;cases P with
    |nil=>
     have n:xs=[]:=by have:=o.length;simpa using this
     subst n;cases m;cases k;obtain⟨L,M,N,_⟩:=L2.gb.tuple I (Yg.of A);obtain⟨C,ϊ,ϋ,_⟩:=L2.gb.tuple I (Yg.of B);cases M;exact D8 N ϋ ⟨ϖ q,H,I,rfl,Rb.here c r ⋯⟩
    |cons v0 V=>
     refine t7 d s st H _ _ z w Q I m k ⟨p,q,_,R,rfl,rfl,Yg.of A,Yg.of B,by simp,?_,λe=>?_,λe l F=>?_⟩
     ·rw[<-o.length,<-t.length];exact EA f
     ·subst e;have n:D=[]:=by have:=t.length;simpa using this
      subst n;exact Rb.here c r ⋯
     ·exact kP c r (xb.append o t) F
   ·rw[ra f]at c;exact c.elim
  |_=>trivial
 |_=>exact dR I m k r g h c
noncomputable def SO(a:D->D->M D)(c:M D)(y:D):D->M D:=Dz$ rj (rc c$ a y)$ ret$ Ϗ į
def iO(o a:D->D->M D)(c:M D)(x y:D):M D:=rc (o x y)$ SO a c y
def kO(o a:D->D->M D)(b c:M D)(x:D):M D:=rc b$ iO o a c x
def eV(o e:D->D->M D)(a b c:Ev->M D):Ev->M D:=λd=>rc (a d)$ kO o e (b d)$ c d
def bW(Z:Ph X (Nb j) r)(hs:yk T r o)(g:Ph X (Nb d) L)(i:yk T L ό)(ϊ:FE T X a fa)(V:FE T X b fb)(W:FE T X c fc)
  (Y:lastMarks [j,d] [b,c]=į:=by with_unfolding_all rfl):FE T X (.Compare a [j,d] [b,c] pos)$ eV o ό fa fb fc:=by
 intro e s st H Q I h;refine B2 Z g ϊ V W Y e s st H Q I ?_;obtain⟨μ,q,σ,f,hr,hp⟩:=h;refine⟨μ,q,σ,f,hr,hp.bind λx t l v H1 D E r1 q1 p1=>⟨l,q,t,f.mono E,r1,p1.bind λy A m w ϋ D F r2 K p2=>(hs _ m ϋ A x y v w _ r2 (Ha.mono F _ _ q1) K$ p2.bind λz B n u H3 D G N q3 p3=>?_)⟩⟩;obtain⟨k,rfl,S,p4⟩:=ZI q3 p3;refine⟨k,S,?_⟩;cases k with
 |true=>
  exact⟨n,q,B,((f.mono E).mono F).mono G,N,p4.bind λz C p u5 P D R r5 q5 p5=>i _ p P C y z w u5 Q r5 (Ha.mono R _ _$ Ha.mono G _ _ K) q5 p5⟩
 |false=>unfold rj at p4;rw[ra yb]at p4 ⊢;exact Rb.here p4 N (by rw[Ha])
def Hm(a:ud k A):A.units+9<cLine:=by have:=a.un;lia
end
def wq(K:ϗ)(d:Str->Option Value)(x:Str)(e:Stmt)(c:ab):Prop:=
 ∃ f b,d x=W1 (Db f)/\bI K x x e f b/\∀ a:b',a.length=c.length->bindArgs b ⟨a,[]⟩=pure (c.zip a)
def Uh(T:Tb)(P:xa)(w:Na)(d:Str->Option Value)(a:Heap)(k:Nat)(x:Str)(ps:ab)(e:gV->M D):Prop:=
 ∃ f c,d x=W1 (Db f)/\Ϲ T.K (Db f)=š/\(∀ b:b',b.length=ps.length->bindArgs c ⟨b,[]⟩=pure (ps.zip b))/\oh P w T.K d a (Xk P w) k f c ps (ro T ps.length e)
section
def Ps(h:Uh T X.prog X.w X.mg X.base k x ps g)(m:T.K=X.K)(t:ud k X.A)(r:Gl X x)
  (n:FA T X (e::a) i) (c: ~~~((x == ("__debug__" : Str))=į)) (q:(na (e::a) X.env=(į,Ib e X.env)::na a X.env)⁻¹) (d:((Zb b$ na a X.env).any (·.1)=į)⁻¹) :
  FE T X (Ϡ (Ϝ x p) (e::a) [] b)$ we ps.length g [] i:=by
 obtain⟨f,u,s,l,o,j⟩:=h;rw[m]at l j;exact zN j t r s l (.all o) Ϣ (λv v=>xb.nil) n c q d
variable{P:xa}{w:Na}{K:ϗ}{mg:Str->Option Value}{base:Heap}{ca:Nat->Addr}{tx:Tx}
def dz{st}(h:wq K mg x st ps)(S:gc N ps$ qf st)
  (i:∀ f a A b s H E,ud k (A.deeper$ dg x (qf st) s.heap.objs.size f a)->im ⟨K,ca,tx⟩ (Ap (Xk P w) P w K mg base N x (qf st) f a A b s H E) (Fj st) g) :
  Uh ⟨K,ca,tx⟩ P w mg base (k+1) x ps$ Xg N.length g:=by
 obtain⟨f,o,j,F,c⟩:=h;obtain⟨oc,p,kV,e,pm,n,a,ct,m,rfl,l,d⟩:=F.ex;exact⟨f,_,j,F.kp,c,sD l d S$ i f a⟩
def Uh.Ic{k}{x}{ps}{a}(h:Uh T P w mg base k x ps a):Uh T P w mg base k x ps (λb=>Lake.Ic$ a b):=by
 obtain⟨f,c,d,e,g,i⟩:=h;exact⟨f,c,d,e,g,HK i⟩
def oN{st}{kV d pm b ct}(X:K.In h)(G:h.Ns mainGlobals mg)
  (j:∀ kV d pm e b ct i,i.length=ps.length->bindArgs (ϯ x x (ul st) (Fj st) (qf st) Yb kV d pm e b ct) ⟨i,[]⟩=pure (ps.zip i))
  (a:W.nsIn K mainGlobals x=W1 (W1$ Db f)) (l:K.lookup f=W1 ⟨oc,m,.func$ ϯ x x (ul st) (Fj st) (qf st) Yb kV d pm e b ct,g⟩)
  (c:W.codeIn K b x=š) (k:Ϲ K (Db f)=š):wq K mg x st ps:=
 ⟨f,_,Zs X G a,yX l c k,j kV d pm e b ct⟩
def mkI(X:K.In h)(G:h.Ns mainGlobals mg)(a:W.nsIn K mainGlobals x=W1 (W1$ Mh i t)):∃ t,mg x=W1 (Mh i t):=⟨t,Zs X G a⟩
end
def tN(T:Tb)(P:xa)(w:Na)(d:Str->Option Value)(k:Nat)(x:Str)(ps:ab)(e:gV->M D):Prop:=
 ∃ f c,d x=W1 (Db f)/\(∀ b:b',b.length=ps.length->bindArgs c ⟨b,[]⟩=pure (ps.zip b))/\∀ a:Heap,oh P w T.K d a (Xk P w) k f c ps (ro T ps.length e)
def ē{K}{st}(h:wq K i x st ps)(S:gc N ps$ qf st)
  (m:∀ a f b A c s H E,ud k (A.deeper$ dg x (qf st) s.heap.objs.size f b)->im ⟨K,j,tx⟩ (Ap (Xk P w) P w K i a N x (qf st) f b A c s H E) (Fj st) g) :
  tN ⟨K,j,tx⟩ P w i (k+1) x ps$ Xg N.length g:=by
 obtain⟨f,r,n,F,d⟩:=h;obtain⟨oc,t,kV,l,pm,q,b,ct,p,rfl,o,e⟩:=F.ex;exact⟨f,_,n,d,λa=>sD o e S$ m a f b⟩
structure Hd where
 t:Nat->Option Bool
 nm:Option Nat
 g:Ev->M Fl
noncomputable def C2(i:Nat):Fl->M Fl
 | ϙ a=>ret (ϙ$ a.set i ŋ)
 | .rt d=>ret (.rt d)
 | .bk a=>ret (.bk$ a.set i ŋ)
 | .ct a=>ret (.ct$ a.set i ŋ)
 | .xc _ _=>Jb
noncomputable def Y3:Fl->M Fl
 | ϙ a=>ret (ϙ a)
 | .rt d=>ret (.rt d)
 | .bk a=>ret (.bk a)
 | .ct a=>ret (.ct a)
 | .xc _ _=>Jb
def hit(h:Hd)(a:Ev)(x:Xn):M Fl:=match h.nm with
 |none=>rc (h.g a) Y3
 |some i=>rc (h.g$ a.set i$ W1$ .tw x.cls) (C2 i)
def mY(a:Ev)(x:Xn):List Hd->M Fl
 |[]=>Jb
 |h::r=>match h.t x.cls with
  |some š=>hit h a x
  |some į=>mY a x r
  |none=>Jb
def vK(b:List Hd):Fl->M Fl
 | .xc a x=>mY a x b
 | ϙ a=>ret (ϙ a)
 | .rt d=>ret (.rt d)
 | .bk a=>ret (.bk a)
 | .ct a=>ret (.ct a)
def FJ(g:Ev->M Fl)(a:List Hd):Ev->M Fl:=λb=>rc (g b)$ vK a
abbrev Cx.bJ(X:Cx)(a:List$ Addr × Obj)(xe:Value->Shared->Prop):Cx:={ X with xe:=xe,pn:=X.pn++a }
section
variable{pins:List$ Addr × Obj}{st:St}{H:Hp}{s:Shared}{e:Value}{xe:Value->Shared->Prop}
def Ě(I:gb X pins st H s):gb (Cx.bJ X pins xe) [] st H s:=
 ⟨⟨I.ok.mod,I.ok.kind,I.ok.glob,I.ok.blt,I.ok.above,I.ok.inj,I.ok.has,I.ok.qE,I.ok.hd,I.ok.frames,I.ok.Mp,I.ok.oJ,I.ok.bs,I.ok.Jv,I.ok.ju,I.ok.Ku,I.ok.Hk,I.ok.sB⟩,I.os,I.bare,I.base,I.loc,I.cell,I.free,I.uh,λp a=>I.pin p ⋯,I.pc,I.len⟩
def sJ(I:gb (Cx.bJ X pins xe) b st H s):gb X pins st H s:=
 ⟨⟨I.ok.mod,I.ok.kind,I.ok.glob,I.ok.blt,I.ok.above,I.ok.inj,I.ok.has,I.ok.qE,I.ok.hd,I.ok.frames,I.ok.Mp,I.ok.oJ,I.ok.bs,I.ok.Jv,I.ok.ju,I.ok.Ku,I.ok.Hk,I.ok.sB⟩,I.os,I.bare,I.base,I.loc,I.cell,I.free,I.uh,λp a=>I.pin p$ Va _ a,I.pc,I.len⟩
def M3{D}(h:SP (Cx.bJ X pins xe) [] D f c):SP X pins D f c:=by
 cases f with
 |next=>obtain⟨a,b,I,q⟩:=h;exact⟨a,b,sJ I,q⟩
 |brk=>obtain⟨a,b,I,q⟩:=h;exact⟨a,b,sJ I,q⟩
 |cont=>obtain⟨a,b,I,q⟩:=h;exact⟨a,b,sJ I,q⟩
 |ret u=>obtain⟨v,a,b,I,r,q⟩:=h;exact⟨v,a,b,sJ I,r,q⟩
end
set_option tactic.hygienic true in
def C4(h:FS T X q$ Qe i f):FS T X q$ Qe i$ Mi f:=by
 rintro o s st H D I ⟨r,ρ,σ,C,t,ϋ⟩;refine h o s st H D I ⟨r,ρ,σ,C,t,?_⟩;have a:Rb T EN _ r H (xs ρ (Ic _) _ σ) _:=ϋ;show Rb T EN _ r H (xs ρ _ _ σ) _;unfold xs Ic at a;unfold xs;cases e:f ρ σ with
 |Jb=>rw[e]at a;exact a
 |ex x c=>
  rw[e]at a;unfold ig at a;dsimp only at a ⊢;by_cases g:c.take σ.length=σ
  ·rw[ja g]at a;intro ό A w l u p;cases A with
   |xc F Q N=>
    obtain⟨E,y⟩:=Qc.down t u l g;obtain⟨L,P⟩:=p;refine a r _ w y E ⟨⟨L.1,λj d b=>?_⟩,P⟩;obtain⟨v,m,n⟩:=L.2 j d b;obtain⟨G,_,B⟩:=C.2 j d b;exact⟨v,m,Ha.down l.pre d G v B n⟩
   |_=>exact p.elim
  ·rw[ra g]at a;exact a.elim
 |ok d c=>
  rw[e]at a;unfold ig at a;dsimp only at a ⊢;by_cases g:c.take σ.length=σ
  ·rw[ja g]at a;cases z:fz σ.length c 6 d with
   |none=>rw[z]at a;exact a.elim
   |some d'=>
    rw[z]at a;intro ό A w l u p;cases A with
    |nx F=>
     obtain⟨E,y⟩:=Qc.down t u l g;have k:=p;refine a r _ w y E ⟨by simpa using k.1,λj x b=>?_⟩;rw[Ef]at b;by_cases K:i=j
     ·subst K;rw[ja rfl]at b;split at b
      ·rename_i R
       cases b;obtain⟨v,m,n⟩:=k.2 i d ⋯;exact⟨v,m,HW l.pre u 6 d d' v (by rw[t.len];exact z) n⟩
      ·cases b
     ·rw[ra K]at b;obtain⟨v,m,n⟩:=k.2 j x ⋯;obtain⟨G,_,B⟩:=C.2 j x b;exact⟨v,m,Ha.down l.pre x G v B n⟩
    |_=>exact p.elim
  ·rw[ra g]at a;exact a.elim
noncomputable def lF:gV->Option (List Bool)
 |[]=>W1 []
 | Ϗ b::r=>(lF r).map (b::·)
 |_::_=>ŋ
noncomputable def Hr:gV->Option (dd)
 |[]=>W1 []
 | U b::r=>(Hr r).map (b::·)
 |_::_=>ŋ
theorem IT{T:Tb}{i:ac}{H:Hp}:∀ {c:gV} {a:em} {bs:List Bool},xb T i H c a->lF c=W1 bs->a=bs.map Ϭ
 |[],a,bs,r,h=>by cases h;rw[xb]at r;exact r
 |d::c,a,bs,r,h=>by
  obtain⟨v,w,rfl,e,g⟩:=r;cases d with
  |bl b=>
   obtain⟨j,f,rfl⟩:=Ka.mp h;rw[Ha]at e;subst e;rw[IT g f];rfl
  |_=>cases h
theorem lE{T:Tb}{i:ac}{H:Hp}:∀ {c:gV} {a:em} {bs:dd},xb T i H c a->Hr c=W1 bs->a=bs.map ϥ
 |[],a,bs,r,h=>by cases h;rw[xb]at r;exact r
 |d::c,a,bs,r,h=>by
  obtain⟨v,w,rfl,e,g⟩:=r;cases d with
  |int b=>
   obtain⟨j,f,rfl⟩:=Ka.mp h;rw[Ha]at e;subst e;rw[lE g f];rfl
  |_=>cases h
def GC(xs:gV):M D:=λa=>match xs with
 |[x]=>(match (jl a x).bind lF with
  |some bs=>J (Ϗ$ bs.all id) a
  |none=>Ϙ)
 |_=>Ϙ
def kE(xs:gV):M D:=λa=>match xs with
 |[x]=>(match (jl a x).bind Hr with
  |some bs=>J (U bs.sum) a
  |none=>Ϙ)
 |_=>Ϙ
def aV(K:ϗ)(g:List Bool->Bool):em->Hp->VK->Prop:=λxs H Q=>∃ p a,xs=[ϖ p]/\(Xe K H p (a.map Ϭ)\/Yg K H p (a.map Ϭ))/\Q (Ϭ$ g a) H
def EU(K:ϗ):em->Hp->VK->Prop:=λxs H Q=>∃ (p:Addr) (bs:dd),xs=[ϖ p]/\(Xe K H p (bs.map ϥ)\/Yg K H p (bs.map ϥ))/\Q (ϥ bs.sum) H
theorem ZQ:∀ {a:List Bool} {us:b'},ke (a.map Ϭ) us->us=a.map Dj
 |[],us,h=>by cases h;rfl
 |b::a,us,h=>by
  cases h with
  |cons r t=>cases r;rw[ZQ t];rfl
theorem eU{c:Type}(g:c->Bool)(d:c):∀ (a:List c),(List.range a.length).all (λi=>g$ a.getD i d)=a.all g
 |[]=>rfl
 |b::a=>by
  rw[Ua,Zp,jf,Ek,jf];rw[<-eU g d a];congr 1
def ų(d:List Bool):TruthOf c w A (λi v=>(d.map Dj).toArray[i]?=W1 v) (λi=>d.getD i į):=by
 intro i v s Q E f g;simp only[List.getElem?_toArray,Ta]at f;cases e:d[i]? with
 |none=>simp_all
 |some b=>
  rw[e]at f;cases f;have a:Q (d.getD i į) s:=g;rw[Kn,e]at a;exact Mc a
def VW{s:Shared}{a:Heap}(k:∀ b u,b ∉ [s.heap.objs.size]->(s.heap.push o).get? b=W1 u->a.get? b=W1 u):∀ b u,s.heap.get? b=W1 u->a.get? b=W1 u:=λb u e=>
 k b u (λz=>absurd (wa e) ⋯)$ ga _ e
def KU{st}(n:X.A.handled=ŋ)(I:gb X d st H s)(g:Xe X.K H p l\/Yg X.K H p l)
  (h:∀ a It m St s2,ke l a->Walks X.prog X.w X.A.in1 It m [It] a.toArray.size (λi v=>a.toArray[i]?=W1 v) St->St 0 s2.heap->(∀ b∈m,b<s2.heap.objs.size)->
   (∀ h' tk,(∀ b o,b ∉ [It]->s2.heap.get? b=W1 o->h'.get? b=W1 o)->gb X d st H { s2 with heap:=h',toks:=tk })->Q (Db It) s2):wpAny (model X.prog X.w) X.A.in1 (pyIter$ Db p) Q E s:=by
 rcases g with g|g
 ·obtain⟨a,k,pl,q⟩:=I.list g;have c:p<s.heap.objs.size:=by obtain⟨_,e,_⟩:=pl.isList;exact wa e
  refine Yh pl.isList$ h a s.heap.objs.size [s.heap.objs.size,p] _ _ k (Cj (A:=X.A.in1) n _ p (Aa c) a.toArray) ⟨⟨_,Ea _ rfl,rfl,rfl⟩,pl.isList.push _⟩ (λb f=>?_) (λh' tk j=>I.kept$ VW j);rw[Ed];simp at f;rcases f with rfl|rfl
  ·exact cc _
  ·exact Kc c
 ·obtain⟨a,k,pl,q⟩:=I.tuple g;have c:=pl.lt;refine zB (pl)$ h a s.heap.objs.size [s.heap.objs.size,p] _ _ k (Walks.tuple (A:=X.A.in1) n _ p (Aa c) a.toArray) ⟨⟨_,Ea _ rfl,rfl,rfl⟩,fK (pl) _⟩ (λb f=>?_) (λh' tk j=>I.kept$ VW j);rw[Ed];simp at f;rcases f with rfl|rfl
  ·exact cc _
  ·exact Kc c
def zkb(f:X.Fd=š):xn X (Ϟ "all") (aV X.K λa=>a.all id):=by
 rintro b s st H xs n Q I r ⟨p,a,rfl,h,q⟩;obtain⟨u,rfl,rfl⟩:=Nt r;refine call_all_walk (KU (I.ok.hd f) I h λj It l St s2 k W d m e=>?_);have c:=ZQ k;subst c;refine⟨_,_,_,_,_,_,λi=>a.getD i į,rfl,W,d,ų a,λh' tk g=>⟨Ϭ _,H,e h' tk g,?_,q⟩⟩;rw[Pa,Ja];exact eb Dj$ eU id į a
theorem uU:∀ (a:dd) (n:Nat),n<=a.length->preSum (λi=>a.getD i 0) n=(a.take n).sum
 |a,0,_=>by simp[preSum]
 |a,n+1,h=>by
  rw[preSum,uU a n ⋯,List.take_succ_eq_append_getElem ⋯,List.sum_append];simp[show n<a.length by lia]
def l8(n:X.Fd=š):xn X (Ϟ "sum")$ EU X.K:=by
 rintro g s st H xs A Q I r ⟨p,a,rfl,y,q⟩;obtain⟨u,rfl,rfl⟩:=Nt r;refine call_sum_walkG (KU (I.ok.hd n) I y λd It z St s2 h W k o m=>⟨_,_,_,_,_,_,λi=>a.getD i 0,rfl,W,k,o,λi v f=>?_,λh' tk t' w=>⟨ϥ a.sum,H,m h' tk w,⟨t',?_⟩,q⟩⟩)
 ·simp at f;obtain⟨x,c,l⟩:=DJ h f;rw[Ta]at c;cases e:a[i]? with
  |none=>simp_all
  |some b=>
   rw[e]at c;cases c;obtain⟨t,rfl⟩:=l
   simp_all
 ·have j:d.toArray.size=a.length:=by rw[Pa,<-h.length,Ja]
  rw[j,uU a _$ va _,Uc]
def VT{g:gV->Option c}{a:c}(h:(jl d x).bind g=W1 a):∃ b,jl d x=W1 b/\g b=W1 a:=pf.mp h
def C3(j:T.K=X.K):pr T (aV X.K λa=>a.all id) GC:=by
 intro E o H m xs l Q r p h
 match xs with
 |[]=>trivial
 |[x]=>
  obtain⟨v,w,rfl,k,d⟩:=p;rw[xb]at d;subst d;unfold GC at h;cases e:(jl m x).bind lF with
  |none=>simp only[e]at h;exact h.elim
  |some a=>
   simp only[e]at h;obtain⟨n,f,g⟩:=VT e;obtain⟨b,l,rfl,i,c⟩:=iA r k f;rw[j,IT i g]at c;exact⟨b,a,rfl,c,Rb.here h r (by rw[Ha])⟩
 |_::_::_=>exact h.elim
def F2(i:T.K=X.K):pr T (EU X.K) kE:=by
 intro E n H l xs k Q r p h
 match xs with
 |[]=>trivial
 |[x]=>
  obtain⟨v,w,rfl,j,c⟩:=p;rw[xb]at c;subst c;unfold kE at h;cases e:(jl l x).bind Hr with
  |none=>simp[e]at h;exact h.elim
  |some bs=>
   simp[e]at h;obtain⟨m,d,f⟩:=VT e;obtain⟨b,k,rfl,g,a⟩:=iA r j d;rw[i,lE g f]at a;exact⟨b,bs,rfl,a,Rb.here h r (by rw[Ha])⟩
 |_::_::_=>trivial
noncomputable def QC(xs:gV):M D:=match xs with
 |[U i,U j]=>ret (U$ max i j)
 |_=>Jb
noncomputable def aF(xs:gV):M D:=match xs with
 |[U i,U j]=>ret (U$ min i j)
 |_=>Jb
def LX(p:xb T a H [x,y] b):∃ v u,b=[v,u]/\Ha T a H x v/\Ha T a H y u:=by
 obtain⟨v,w,rfl,c,d⟩:=p;obtain⟨u,f,rfl,e,p4⟩:=d;rw[xb]at p4;subst p4;exact⟨v,u,rfl,c,e⟩
def YL:pr T (λxs H Q=>∃ i j,xs=[ϥ i,ϥ j]/\Q (ϥ$ if j > i then j else i) H) QC:=by
 intro E k H l xs g Q r p h;have c:∃ i j,xs=[U i,U j]:=by
  unfold QC at h;rcases xs with _|⟨a,_|⟨b,_|_⟩⟩<;>try exact h.elim
  all_goals cases a<;>try exact h.elim
  all_goals cases b<;>try exact h.elim
  exact⟨_,_,rfl⟩
 obtain⟨i,j,rfl⟩:=c
 ·obtain⟨v,u,rfl,d,f⟩:=LX p;refine⟨i,j,by rw[jo d,jo f],?_⟩;have e:(if j > i then j else i)=max i j:=by rw[Int.max_def];split<;>split<;>lia
  rw[e];exact Rb.here h r (by rw[Ha])
def kS:pr T (λxs H Q=>∃ i j,xs=[ϥ i,ϥ j]/\Q (ϥ$ if j<i then j else i) H) aF:=by
 intro E k H l xs g Q r p h;have c:∃ i j,xs=[U i,U j]:=by
  unfold aF at h;rcases xs with _|⟨a,_|⟨b,_|_⟩⟩<;>try exact h.elim
  all_goals cases a<;>try exact h.elim
  all_goals cases b<;>try exact h.elim
  exact⟨_,_,rfl⟩
 obtain⟨i,j,rfl⟩:=c
 ·obtain⟨v,u,rfl,d,f⟩:=LX p;refine⟨i,j,by rw[jo d,jo f],?_⟩;have e:(if j<i then j else i)=min i j:=by rw[Int.min_def];split<;>split<;>lia
  rw[e];exact Rb.here h r (by rw[Ha])
noncomputable def At(a:dd):dd:=a.foldl step_dedup []
def ER a:Cf (λi=>a.getD i 0) a.length=At a:=by
 unfold Cf At;congr 1;apply Dk;intro i;by_cases h:i<a.length<;>simp[h]
def SH(x:D):M D:=λa=>match (wf a x).bind Hr with
 |some ns=>if ns.length<=Yf then J (U (At ns).length) a else Ϙ
 |none=>Ϙ
def F9(K:ϗ):em->Hp->VK->Prop:=λxs H Q=>∃ (p:Addr) (ns:dd),xs=[ϖ p]/\Xe K H p (ns.map ϥ)/\ns.length<=Yf/\∀ l,H l=ŋ->Q (ϖ l) (Qa H l (.set (λk=>(At ns).any (·== k)) (At ns).length))
def hW(h:n<=Yf):n+1<scanBound:=nv (Nat.succ_le_succ h) ⋯
def j3(i:X.Fd=š):xn X (Wh "set")$ F9 X.K:=by
 rintro g s n H xs t Q I r ⟨p,f,rfl,l,k,q⟩;obtain⟨u,rfl,rfl⟩:=Nt r;obtain⟨a,h,pl,m⟩:=I.list l;have c:a.length=f.length:=by rw[<-h.length,Ja]
 refine call_set_list (I.ok.hd i) pl.isList (GM h) (by rw[Pa,c];exact hW k) λh' tk d j=>?_;rw[show a.toArray.size=f.length by rw[Pa,c],ER]at d;refine⟨ϖ s.heap.objs.size,_,I.laid (λb o e=>j b o (wa e) e) (va _) ?_,rfl,q _$ I.pc.fresh$ va _⟩;exact d
def Ä:xn X (Ϟ "len") (λxs H Q=>∃ p S n,xs=[ϖ p]/\H p=W1 (.set S n)/\Q (ϥ n) H):=by
 rintro a s st H xs w Q I r ⟨p,S,n,rfl,g,q⟩;obtain⟨u,rfl,h⟩:=Nt r;cases h;obtain⟨o,j,i,t,b,c,d,k,l,m,e,f⟩:=(I.pc p _ g)
 have v:scanBound<=2 ^ 62:=by decide
 refine call_len_set b c d e ⋯ ⟨ϥ n,H,I.tok _,⟨_,by rw[f]⟩,q⟩
def ë(Z:T.K=X.K)(ό:X.Fd=š)(N:Gl X "len")(ϋ:X.mg "len" = ŋ)(n:Gl X "set")(q:X.mg "set" = ŋ)(L:FE T X e f)
  (y:(na [e] X.env=(į,Ib e X.env)::na [] X.env)⁻¹) (r:((Zb b$ na [] X.env).any (·.1)=į)⁻¹)
  (i:(na [Ϡ (Ϝ "set" t) [e] [] b] X.env=(į,Ib (Ϡ (Ϝ "set" t) [e] [] b) X.env)::na [] X.env)⁻¹) (g:((Zb k$ na [] X.env).any (·.1)=į)⁻¹) :
  FE T X (Ϡ (Ϝ "len" p) [Ϡ (Ϝ "set" t) [e] [] b] [] k)$ Pc SH f:=by
 intro j s ϊ H Q I h;refine rG Ä N ϋ uy (qq (AM (j3 ό) n q rfl (qq L Tu y) ⋯ ⋯ y r) Tu i) ⋯ ⋯ i g j s ϊ H Q I ?_;obtain⟨V,ρ,σ,G,R,P⟩:=h;refine⟨V,ρ,σ,G,R,P.bind λd w u v W D Y z S c=>?_⟩;unfold SH at c;cases m:(wf w d).bind Hr with
 |none=>rw[m]at c;exact c.elim
 |some ns=>
  rw[m]at c;dsimp only at c;by_cases o:ns.length<=Yf
  ·rw[ja o]at c;obtain⟨ys,A,B⟩:=pf.mp m;obtain⟨a,vs,rfl,E,F⟩:=z.ls S A;have C:=lE F B;subst C;exact⟨a,ns,rfl,Xe.of E,o,λl x=>⟨l,_,_,rfl,rf,c u _ _ (lj x) (z.fresh x) (by rw[Ha])⟩⟩
  ·rw[ra o]at c;exact c.elim
def gy(xs:gV)(lo a:Option Int):gV:=(xs.drop$ HT.Pf xs.length 0 lo).take$ HT.Pf xs.length xs.length a - HT.Pf xs.length 0 lo
def ž{xs}{lo a}(h:HT.Pf xs.length 0 lo=0/\HT.Pf xs.length xs.length a=xs.length):gy xs lo a=xs:=by
 unfold gy;rw[h.1,h.2];simp
def MM{xs}(r:xb T c H xs b) lo a:xb T c H (gy xs lo a)$ TB b lo a:=by
 unfold gy TB;rw[r.length];exact xb.take _$ xb.drop _ r
end Lake
namespace HT
open Spec
variable{prog:xa}{w:Na}{A:Ia}{E:Value->Shared->Prop}{s:Shared}
def wj{lo d}(b:IsTup s.heap t a)(j:s.heap.IsSliceOf i vl k Yb)(pl:ek vl lo)(n:ek k d)
  (u:Pf a.size 0 lo=0/\Pf a.size a.size d=a.size) (h:Q (Db t) s):wpAny (model prog w) A (ai (Db t)$ Db i) Q E s:=by
 obtain⟨m,g,f,l⟩:=id j;have e:s.TypeIs (Db i) "slice":=⟨m,g,f⟩
 unfold ai;try with_reducible refine Xb ?_
 refine ba$ RD b.typeIs ⋯ ?_;refine ba$ Sf b.typeIs ec
  (gd ec b.typeIs Iz ?_$ xB _ _)
 show wpAny _ _ (Vf _ >>= _) _ _ s;refine ba$ yZ b$ ba$ gj e$ ba$ AV j pl n ?_;have c:(((Pf a.size 0 lo):Int) == 0 && (1:Int) == 1 && (Pf a.size a.size d - Pf a.size 0 lo) == a.size)=š:=by
  simp_all
 show wpAny _ _ (if (((Pf a.size 0 lo):Int) == 0 && 1 == 1 && (Pf a.size a.size d - Pf a.size 0 lo) == a.size)=š then _ else _) _ _ s;rw[ja c];obtain⟨o,q,p,r⟩:=id b;refine ba$ ba$ gj b.typeIs$ da$ ba$ lm ?_;first
  |exact da _
  |exact da _
  |exact ba$ da$ da ⟨_,rfl,da h⟩
end HT
namespace Lake
open Spec L2
def WS(K:ϗ):V->Option Int->Option Int->Hp->VK->Prop:=λx lo b H Q=>∃ a xs,x=ϖ a/\Yg K H a xs/\(HT.Pf xs.length 0 lo=0/\HT.Pf xs.length xs.length b=xs.length)/\Q (ϖ a) H
def Z5:Rv X$ WS X.K:=by
 rintro e s m H x v vl n lo i l Q I rx f pl h ⟨a,xs,rfl,g,j,q⟩;cases rx;obtain⟨b,r,d,k⟩:=I.tuple g;have c:b.toArray.size=xs.length:=by rw[Pa];exact r.length.symm
 exact⟨"tuple",_,ec.lookup,d.typeIs,HT.wj d f pl h ⋯ ⟨ϖ a,H,I,rfl,q⟩⟩
abbrev PF:=Option$ Ev->M D
noncomputable def UM(d:D):M$ Option Int:=match d with
 | U i=>ret (W1 i)
 |_=>Jb
def gA(p:PF):Ev->M (Option Int):=match p with
 |none=>λb=>ret ŋ
 |some f=>λa=>rc (f a) UM
def tP(T:Tb)(X:Cx)(f:Ev->M (Option Int)):TO:=λd H Q=>∃ c e g,Jh T c H e d/\Qc T c H g/\Rb T (XE X d) (λh h a b=>b=a) c H (f e g) Q
abbrev FO(T:Tb)(X:Cx)(e:Option Fa)(p:PF):Prop:=PO X e$ tP T X$ gA p
theorem zto:FO T X ŋ ŋ:=by
 rintro a s d H Q I ⟨f,g,h,e,c,b⟩;exact P6 a s d H Q I$ Rb.here b c rfl
def ε(g:FE T X e f):FO T X (W1 e)$ W1 f:=by
 intro a s n H Q I h;refine T7 g a s n H Q I ?_;obtain⟨o,ρ,σ,c,k,j⟩:=h;refine⟨o,ρ,σ,c,k,Rb.bind j λd q p v r u t m l b=>?_⟩;cases d with
 |int i=>exact⟨i,jo l,Rb.here b m rfl⟩
 |_=>exact b.elim
def YW(x:D)(lo b:Option Int):M D:=λa=>match x with
 | ϐ xs=>J (ϐ$ gy xs lo b) a
 | ϭ ns=>J (ώ$ gy (ns.map U) lo b) a
 |x=>(match wf a x with
  |some xs=>J (ώ$ gy xs lo b) a
  |none=>Ϙ)
def JA(x:D)(lo:Option Int)(a:Option Int):M D:=YW x lo a
def uM(x:D)(a:M$ Option Int)(lo:Option Int):M D:=rc a$ JA x lo
def JP(lo a:M$ Option Int)(x:D):M D:=rc lo$ uM x a
def rC(f:Ev->M D)(lo b:PF):Ev->M D:=λa=>rc (f a)$ JP (gA lo a)$ gA b a
def zly{lo ϊ}{pl V}(Z:T.K=X.K)(he:FE T X e f)(hl:FO T X lo pl)(hh:FO T X ϊ V):FE T X (ϡ e (.Slice lo ϊ ŋ B) C)$ rC f pl V:=by
 intro w s W H Q I h;refine Ë (Rv.or yia$ Rv.or Z5 F1) he hl hh w s W H Q I ?_;obtain⟨μ,ρ,σ,z,hr,hp⟩:=h;refine⟨μ,ρ,σ,z,hr,hp.bind λd ϋ ό v H1 l R r1 q1 p1=>⟨ό,ρ,ϋ,z.mono R,r1,p1.bind λl P L g H2 l S r2 q2 B=>⟨L,ρ,P,(z.mono R).mono S,r2,B.bind λu m N i y l Y x q3 c=>?_⟩⟩⟩;have E:=q2;have F:=q3;subst E;subst F;have rd:=Ha.mono Y _ _$ Ha.mono S _ _ q1;have b:∀ ys,wf m d=W1 ys->Rb T (XE X W) (Ha T) N y (J (ώ$ gy ys g i) m) Q->aY X.K v g i y Q\/WS X.K v g i y Q\/bX X.K v g i y Q:=λys r p4=>by
  obtain⟨a,j,rfl,o,k⟩:=x.ls rd r;exact ϕ$ ϕ ⟨a,j,rfl,Xe.of o,λp t=>EJ p4 x (MM k g i) t⟩
 cases d with
 |Sa xs=>
  have G:=rd;obtain⟨p,j,rfl,o,k⟩:=rd;by_cases A:HT.Pf j.length 0 g=0/\HT.Pf j.length j.length i=j.length
  ·refine ϕ$ ϔ ⟨p,j,rfl,Yg.of o,A,Rb.here c x ?_⟩;rw[ž (by rw[k.length];exact A)];exact G
  ·exact ϔ ⟨p,j,rfl,Yg.of o,A,λq t=>kP c x (MM k g i) t⟩
 |ref n=>
  unfold JA YW at c;dsimp only at c;cases r:wf m _ with
  |none=>rw[r]at c;exact c.elim
  |some ys=>rw[r]at c;exact b ys r c
 |qa ys=>exact b ys rfl c
 |Wg ns=>
  obtain⟨p,rfl,o⟩:=rd;have k:=o.seq;rw[Z]at k;exact ϕ$ ϕ ⟨p,_,rfl,k,λp t=>EJ c x (MM (fJ ns) g i) t⟩
 |_=>exact c.elim
def AK(K:ϗ)(j:Str->Option Value)(x:Str)(e:Stmt)(g:ab)(i:b'):Prop:=
 ∃ f b,j x=W1 (Db f)/\Ϲ K (Db f)=š/\(∃ (oc:Value) (k:Option Addr) (h kV c pm:Value) (an:Option Addr) (a ct:Value) (d:Array (Option Value)),
  b=ϯ x x (ul e) (Fj e) (qf e) h kV c pm an a ct/\K.lookup f=W1 ⟨oc,k,.func b,d⟩/\W.codeIn K a x=š)/\wr K b g []/\wr K b g i
def yt(T:Tb)(P:xa)(w:Na)(c:Str->Option Value)(a:Heap)(k:Nat)(x:Str)(ps:ab)(d:b')(e:gV->M D):Prop:=
 ∃ f b,c x=W1 (Db f)/\Ϲ T.K (Db f)=š/\wr T.K b ps []/\wr T.K b ps d/\oh P w T.K c a (Xk P w) k f b ps (ro T ps.length e)
section
def ä(h:yt T X.prog X.w X.mg X.base k x ps n g)(o:T.K=X.K)(u:ud k X.A)(s:Gl X x)
  (q:FA T X (e::a) i) (c: ~~~((x == ("__debug__" : Str))=į)) (r:(na (e::a) X.env=(į,Ib e X.env)::na a X.env)⁻¹) (d:((Zb b$ na a X.env).any (·.1)=į)⁻¹) :
  FE T X (Ϡ (Ϝ x p) (e::a) [] b)$ we ps.length g [] i:=by
 obtain⟨f,v,t,m,l,_,j⟩:=h;rw[o]at m j l;exact zN j u s t m l Ϣ (λy y=>xb.nil) q c r d
def ű(h:yt T X.prog X.w X.mg X.base k x ps l m)(s:T.K=X.K)(z:ud k X.A)(v:Gl X x)(B:ke b l)(i:∀ C H,xb T C H a b)
  (t:FA T X (e::c) n) (g: ~~~((x == ("__debug__" : Str))=į)) (u:(na (e::c) X.env=(į,Ib e X.env)::na c X.env)⁻¹) (j:((Zb d$ na c X.env).any (·.1)=į)⁻¹) :
  FE T X (Ϡ (Ϝ x p) (e::c) [] d)$ we ps.length m a n:=by
 obtain⟨f,E,y,r,_,q,o⟩:=h;rw[s]at r o q;exact zN o z v y r q B i t g u j
def ı:ke [V.Sb] [Yb]:=ϟ rfl Ϣ
def B1 a H:xb T a H [Ϛ] [V.Sb]:=xb.cons (by rw[Ha]) xb.nil
variable{P:xa}{w:Na}{K:ϗ}{mg:Str->Option Value}{base:Heap}{ca:Nat->Addr}{tx:Tx}
def B8{st}(h:AK K mg x st ps d)(S:gc N ps$ qf st)
  (l:∀ f a A b s H E,ud k (A.deeper$ dg x (qf st) s.heap.objs.size f a)->im ⟨K,ca,tx⟩ (Ap (Xk P w) P w K mg base N x (qf st) f a A b s H E) (Fj st) g) :
  yt ⟨K,ca,tx⟩ P w mg base (k+1) x ps d$ Xg N.length g:=by
 obtain⟨f,t,n,m,⟨oc,u,r,kV,j,pm,q,a,ct,p,rfl,o,c⟩,e,i⟩:=h;exact⟨f,_,n,m,e,i,sD o c S$ l f a⟩
def yt.Ic{k}{x}{ps}{a}{b}(h:yt T P w mg base k x ps a b):yt T P w mg base k x ps a (λc=>Lake.Ic$ b c):=by
 obtain⟨f,d,e,g,i,j,l⟩:=h;exact⟨f,d,e,g,i,j,HK l⟩
def yvl{st}{m w}{kV e pm b ct}(X:K.In h)(G:h.Ns mainGlobals mg)
  (y:∀ t kV e pm i b ct s o n g,s.heap.get? t=W1 o->o.data=ϩ j.toArray n->((g++[]).length=ps.length->Se s (ϯ x x (ul st) (Fj st) (qf st) (Db t) kV e pm i b ct) ⟨g,[]⟩ (ps.zip$ g++[]))/\
   ((g++j).length=ps.length->Se s (ϯ x x (ul st) (Fj st) (qf st) (Db t) kV e pm i b ct) ⟨g,[]⟩ (ps.zip$ g++j)))
  (a:W.nsIn K mainGlobals x=W1 (W1$ Db f)) (l:K.lookup f=W1 ⟨oc,z,.func$ ϯ x x (ul st) (Fj st) (qf st) (Db t) kV e pm i b ct,m⟩)
  (c:W.codeIn K b x=š) (k:Ϲ K (Db f)=š) (d:K.lookup t=W1 ⟨u,v,ϩ j.toArray r,w⟩):AK K mg x st ps j:=
 ⟨f,_,Zs X G a,k,⟨oc,z,_,kV,e,pm,i,b,ct,m,rfl,l,c⟩,λs g p q=>(y t kV e pm i b ct s _ r g (p _ _ d) rfl).1 q,λs g p q=>(y t kV e pm i b ct s _ r g (p _ _ d) rfl).2 q⟩
end
noncomputable def mF(l:List$ Nat × Bool):Nat->Option Bool:=λc=>l.lookup c
theorem kW:∀ {l:List$ Nat × Bool} {c:Nat} {b:Bool},l.lookup c=W1 b->(c,b)∈l
 |[],_,_,h=>by simp at h
 |(n,d)::r,c,b,h=>by
  rw[Pb]at h;cases e:c == n with
  |true=>simp_all
  |false=>rw[e]at h;exact la _$ kW h
def Uh.qd(h:Uh T P w c a k x ps b):Uh T P w c a k x ps$ Lake.qd b:=by rw[Vp];exact h
def yt.qd(h:yt T P w d a k x ps b c):yt T P w d a k x ps b$ Lake.qd c:=by rw[Vp];exact h
section
variable{μ:ac}{H:Hp}{σ:Da}
def qi(σ:Da):D->Option (Nat × List (Str × D))
 | ϸ c ns ds=>if ns.length=ds.length then W1 (c,ns.zip ds)else ŋ
 | O n=>match σ[n]? with
  |some (ϓ c a)=>W1 (c,a)
  |_=>ŋ
 |_=>ŋ
theorem iX:∀ {b:ab} {ds:gV} {a:List$ Str × V},a.map (·.1)=b->xb T μ H ds (a.map (·.2))->Ls T μ H (b.zip ds) a
 |[],ds,[],_,h=>by
  cases ds with
  |nil=>exact Ϣ
  |cons d ds=>have:=h.length;simp at this
 |[],ds,f::a,e,_=>by simp at e
 |n::b,ds,[],e,_=>by simp at e
 |n::b,[],f::a,e,h=>by have:=h.length;simp at this
 |n::b,d::ds,f::a,e,h=>by
  simp at e;obtain⟨v,r,c,i,j⟩:=h;simp at c;obtain⟨g,rfl⟩:=c;exact ϟ ⟨e.1.symm,by rw[g];exact i⟩$ iX e.2 j
def Gy(r:Qc T μ H σ)(h:Ha T μ H d v)(e:qi σ d=W1 (c,k)):∃ a f b,v=ϖ a/\H a=W1 (.ub (T.ca c) f b)/\Ls T μ H k b:=by
 cases d with
 |obj m ns ds=>
  unfold qi at e;by_cases l:ns.length=ds.length
  ·simp[l]at e;obtain⟨rfl,rfl⟩:=e;obtain⟨a,f,b,rfl,_,g,i,s⟩:=h;exact⟨a,f,b,rfl,g,iX i s⟩
  ·simp[l]at e
 |ref n=>
  unfold qi at e;dsimp only at e;cases j:σ[n]? with
  |none=>simp_all
  |some o=>
   rw[j]at e;obtain⟨a,rfl,_,q⟩:=r.at h j;cases o with
   |ub m p=>cases e;obtain⟨f,b,g,i⟩:=q;exact⟨a,f,b,rfl,g,i⟩
   |qa _=>cases e
   |za _=>cases e
   |Ub _=>cases e
   |Ie _=>cases e
 |_=>cases e
theorem WC{f:Str}:∀ {b:List$ Str × D} {c:List$ Str × V},Ls T μ H b c->(∀ d,b.lookup f=W1 d->∃ v,c.lookup f=W1 v/\Ha T μ H d v)/\(b.lookup f=ŋ->c.lookup f=ŋ)
 |_,_,Ϣ=>⟨λd e=>by simp at e,λp=>rfl⟩
 |(g,x)::b,(o,v)::c,ϟ ⟨e,h⟩ t=>by
  have i:=e;subst i;obtain⟨j,k⟩:=WC t;by_cases l:(f == g)=š
  ·refine⟨λd q=>?_,λq=>?_⟩;all_goals simp_all
  ·have a:(f == g)=į:=by simpa using l
   refine⟨λd q=>?_,λq=>?_⟩
   ·rw[Pb,a]at q;obtain⟨w,m,n⟩:=j d q;exact⟨w,by rw[Pb,a];exact m,n⟩
   ·rw[Pb,a]at q;rw[Pb,a];exact k q
def xI(T:Tb)(a:dl)(f:Str):Prop:=∀ c,a.contains c=š->Iq T.K (T.ca c)/\Px T.K (T.ca c) f
def Vb(a:dl)(f:Str)(x:D):M D:=λσ=>match qi σ x with
 |some (c,b)=>if a.contains c=š then (match b.lookup f with
  |some d=>J d σ
  |none=>Ϙ)else Ϙ
 |none=>Ϙ
def P8(E:T.K=X.K)(G:xI T cs f)(ό:FE T X e g)
  (F:(Lc e f X.env (Ib e X.env)=Ib e X.env)⁻¹):FE T X (ϝ e f m)$ Pc (Vb cs f) g:=by
 intro j s P H Q I h;refine γ ό F j s P H Q I ?_;obtain⟨μ,ρ,σ,C,N,L⟩:=h;refine⟨μ,ρ,σ,C,N,Rb.bind L λd n S v ϊ D V r ϋ b=>?_⟩;unfold Vb at b;cases k:qi n d with
 |none=>rw[k]at b;exact b.elim
 |some p=>
  obtain⟨c,u⟩:=p;rw[k]at b;dsimp only at b;by_cases i:cs.contains c=š
  ·rw[ja i]at b;obtain⟨a,t,R,rfl,x,z⟩:=Gy r ϋ k;cases l:u.lookup f with
   |none=>rw[l]at b;exact b.elim
   |some y=>
    rw[l]at b;obtain⟨w,A,B⟩:=(WC z).1 y l;obtain⟨o,q⟩:=G c i;rw[E]at o q;exact⟨a,_,t,R,w,rfl,x,o,q,A,Rb.here b r B⟩
  ·rw[ra i]at b;exact b.elim
noncomputable def Mg(f:Str)(v:D):List (Str × D)->List (Str × D)
 |[]=>[(f,v)]
 |(g,x)::r=>if g=f then (g,v)::r else (g,x)::Mg f v r
theorem gP{f:Str}{d:D}{v:V}(hd:Ha T μ H d v):∀ {b:List$ Str × D} {c:List$ Str × V},Ls T μ H b c->Ls T μ H (Mg f d b) (En f v c)
 |_,_,Ϣ=>ϟ ⟨rfl,hd⟩ Ϣ
 |(g,x)::b,(j,w)::c,ϟ ⟨e,h⟩ t=>by
  have i:=e;subst i;unfold Mg En;by_cases a:g=f
  ·rw[ja a,ja a];exact ϟ ⟨rfl,hd⟩ t
  ·rw[ra a,ra a];exact ϟ ⟨rfl,h⟩$ gP hd t
def Ls.mono(e:Wc μ H a b)(h:Ls T μ H c d):Ls T a b c d:=Paired.qp h λf f q=>⟨q.1,Ha.mono e _ _ q.2⟩
def Ls.length(h:Ls T μ H a b):a.length=b.length:=Paired.length h
def Bw(b:dl)(f:Str)(d x:D):M Unit:=λσ=>match x with
 | O n=>(match σ[n]? with
  |some (ϓ c a)=>if (b.contains c && decide (a.length<1000))=š then J () (σ.set n$ ϓ c$ Mg f d a)else Ϙ
  |_=>Ϙ)
 |_=>Ϙ
def Ds(ρ:Ev)(b:dl)(f:Str)(d x:D):M Fl:=λσ=>match Bw b f d x σ with
 | J _ a=>J (ϙ ρ) a
 |_=>Ϙ
def YK(ρ:Ev)(a:dl)(f:Str)(b:Ev->M D)(d:D):M Fl:=xs ρ (b ρ)$ Ds ρ a f d
def El(b:dl)(f:Str)(d c:Ev->M D):Ev->M Fl:=λa=>xs a (d a)$ YK a b f c
def Ý(S:T.K=X.K)(ϊ:xI T m f)(V:FE T X o C)(hv:FE T X e E)
  (hs:(Fg e (W1$ ϝ o f h) k.line X.env=pure į)⁻¹):FS T X (ϻ [ϝ o f h] e k)$ El m f E C:=by
 intro j s P H D I Y;refine X7 V hv hs j s P H D I ?_;obtain⟨μ,ρ,σ,i,Z,W⟩:=Y;refine⟨μ,ρ,σ,i,Z,W.xs i λd w u v H1 d q r1 q1 p1=>⟨u,ρ,w,i.mono q,r1,p1.xs (i.mono q) λx y l vo A d B ϋ q2 b=>?_⟩⟩;unfold Ds Bw at b;cases x with
 |ref n=>
  dsimp only at b;cases r:y[n]? with
  |none=>rw[r]at b;exact b.elim
  |some ob=>
   rw[r]at b;cases ob with
   |qa _=>exact b.elim
   |za _=>exact b.elim
   |Ub _=>exact b.elim
   |Ie _=>exact b.elim
   |ub c R=>
    dsimp only at b;by_cases g:(m.contains c && decide (R.length<1000))=š
    ·rw[ja g]at b;rw[Ca,Bb]at g;obtain⟨a,rfl,ό,p,Q,F,G⟩:=ϋ.at q2 r;have ex:Wc l A l$ Qa A a$ .ub (T.ca c) p$ En f v Q:=Xr (ya ό) F (λd z=>by cases z) (λd d z=>by cases z);have t:=ϋ.write (ob:=ϓ c _) ό ⟨p,_,rf,gP (Ha.mono ex _ _$ Ha.mono B _ _ q1)$ Ls.mono ex G⟩;obtain⟨L,N⟩:=ϊ c g.1;rw[S]at L N;exact⟨a,_,p,Q,rfl,F,L,N,by rw[<-G.length];exact g.2,b _ (Ϻ P) _ t.1 t.2$ (i.mono q).mono B |>.mono t.1⟩
    ·rw[ra g]at b;exact b.elim
 |_=>exact b.elim
noncomputable def Xx(n:Nat):Gi D->Gi D
 | J Ϛ a=>J (O n) a
 | J _ _=>Ϙ
 | .ex x a=>.ex x a
 | Ϙ=>Ϙ
def Bj(c n:Nat)(b:gV->M D)(a:gV):M D:=λσ=>if a.length+1=n then Xx σ.length (b (O σ.length::a)$ σ++[ϓ c []])else Ϙ
def pp(c n:Nat)(a:gV->M D)(b:Ev->M (gV)):Ev->M D:=λd=>rc (b d)$ Bj c n a
def Dq(T:Tb)(P:xa)(w:Na)(e:Str->Option Value)(a:Heap)(k:Nat)(f:Addr)(ps:ab)(d:gV->M D):Prop:=
 ∃ c,(∀ b:b',b.length=ps.length->bindArgs c ⟨b,[]⟩=pure (ps.zip b))/\oh P w T.K e a (Xk P w) k f c ps (ro T ps.length d)
def dX(T:Tb)(P:xa)(w:Na)(b:Str->Option Value)(a:Heap)(k:Nat)(x:Str)(c:Nat)(ps:ab)(d:gV->M D):Prop:=
 ∃ f,b x=W1 (Db$ T.ca c)/\Mk T.K (T.ca c) f/\Dq T P w b a k f ps d
def GS{ps:ab}(r:Qc T μ H σ)(q:xb T μ H j w)(p:Rb T E (Ha T) μ H (Bj c ps.length m j σ) Q) :
  ∀ x a,H x=ŋ->H a=ŋ->a≠x->ro T ps.length m (ϖ x::(w++[])) (Qa (Qa H a$ .own x) x$ .ub (T.ca c) a []) (λv z=>v=.Sb/\Q (ϖ x) z) E:=by
 intro x a B h o;unfold Bj at p;by_cases n:j.length+1=ps.length
 ·rw[ja n]at p;have b:Wc μ H μ$ Qa H a$ .own x:=lj h;have t:Qc T μ (Qa H a$ .own x) σ:=r.fresh h;have i:Qa H a (.own x) x=ŋ:=by unfold Qa;rw[ra$ Cd o];exact B
  have f:Wc μ _ _$ Qa _ x$ .ub (T.ca c) a []:=Du i;have F:Qc T _ _$ σ++[ϓ c []]:=t.push i ⟨a,[],rf,Ϣ⟩;refine⟨μ++[x],σ++[ϓ c []],O σ.length::j,xb.cons (dC t) (by rw[be];exact xb.mono (b.trans f) _ _ q),by rw[Ua];exact n,F,?_⟩;cases e:m _ _ with
  |Jb=>rw[e]at p;exact p.elim
  |ex y u=>rw[e]at p;exact λg l k s=>p g l ((b.trans f).trans k) s
  |ok d u=>
   rw[e]at p;intro g v l k s C;have A:d=Ϛ:=by cases d<;>first|rfl|exact p.elim
   subst A;exact⟨C,p g _ l ((b.trans f).trans k) s$ Ha.mono k _ _$ dC t⟩
 ·rw[ra n]at p;exact p.elim
def SQ{st}(M:Mk X.K C f)(F:oh X.prog X.w X.K X.mg X.base (Xk X.prog X.w) k f m ps t)(ό:ud (k+1) X.A)(E:wr X.K m ps j)(hd:ke c j)
  (I:gb X b st H s) (r:ke n d)
  (h:∀ x l,H x=ŋ->H l=ŋ->l≠x->t (ϖ x::(n++c)) (Qa (Qa H l$ .own x) x$ .ub C l []) (λv y=>v=.Sb/\Q (ϖ x) y) (XE X st)) :
  wpAny (model X.prog X.w) X.A (call (Db C) d) (EP X b st Q) X.xe s:=by
 have p:=h _ s.heap.objs.size (I.pc.fresh$ Ch _) (I.pc.fresh$ va _)$ Aa$ cc _;have i:=gb.made (C:=C) I;have q:ke (ϖ _::(n++c))$ Db (s.heap.objs.size+1)::(d++j):=ϟ rfl$ r.append hd;have G:(Db (s.heap.objs.size+1)::d++j).length=ps.length:=by
  have e:=q.length;rw[F.len _ _ _ _ p]at e
  grind
 refine ij$ G8 I.Li M.makes M.init (Xh.mp M.fn) (lf (F.Xg _ X.stack _ _ _ _ _ _ _ (ό.make C d [])
  (i.UE.make C d []) (E _ _ i.Li G) q p) λr P a=>?_)
 cases r with
 |error e=>obtain⟨B,m,o,g,L⟩:=a;exact L.GK b _ _ e P i g
 |ok D=>
  cases D with
  |ret u=>
   obtain⟨v,o,z,ϋ,rfl,N⟩:=i.after a;exact⟨ϋ,⟨ϖ _,o,z,rfl,N⟩⟩
  |next=>exact ϱ a
  |brk=>exact ϱ a
  |cont=>exact ϱ a
def S3(h:dX T X.prog X.w X.mg X.base k x c ps n)(y:T.K=X.K)(ό:ud (k+1) X.A)(E:Gl X x)
  (z:FA T X (e::b) o) (i: ~~~((x == ("__debug__" : Str))=į)) (C:(na (e::b) X.env=(į,Ib e X.env)::na b X.env)⁻¹) (j:((Zb a$ na b X.env).any (·.1)=į)⁻¹) :
  FE T X (Ϡ (Ϝ x p) (e::b) [] a)$ pp c ps.length n o:=by
 obtain⟨f,F,g,Z,B,t⟩:=h;rw[y]at g t;rintro d s st H Q I ⟨μ,S,σ,v,l,G⟩;exact Re$ uF I E F (gh I.ok.mod.gx g.kp (Zc (z a d s st H _ I ⟨μ,S,σ,v,l,G.bind λV ϊ R P u D Y ϋ L N=>GS ϋ L N⟩) λus s1 ⟨P,u,m,r,q⟩=>⟨m.Li,(SQ g t ό (.all B) Ϣ m r q)⟩) C j) i
structure VM(T:Tb)(P:xa)(w:Na)(mg:Str->Option Value)(base:Heap)(k:Nat)(m:Str)(c:Nat)(ps:ab)(fn:gV->M D):Prop where
 cl:Iq T.K (T.ca c)
 ex:∃ f,eu T.K (T.ca c) m f/\Dq T P w mg base k f ps fn
abbrev Mt:=List$ Nat × (gV->M D)
noncomputable def cp:Mt->Nat->Option (gV->M D)
 |[],_=>ŋ
 |(c,fn)::r,d=>if c == d then W1 fn else cp r d
noncomputable def Vg(n:Nat)(b:gV->M D)(x:D)(a:gV):M D:=if a.length+1=n then b (x::a)else Jb
def Ci(b:Mt)(n:Nat)(m:Str)(a:M$ gV)(x:D):M D:=λσ=>match qi σ x with
 |some (c,gs)=>(match cp b c,gs.lookup m with
  |some fn,ŋ=>rc a (Vg n fn x) σ
  |_,_=>Ϙ)
 |none=>Ϙ
def Zd(c:Mt)(n:Nat)(m:Str)(f:Ev->M D)(b:Ev->M (gV)):Ev->M D:=λa=>rc (f a)$ Ci c n m$ b a
theorem CN:∀ {a:Mt} {c:Nat} {fn:gV->M D},cp a c=W1 fn->(c,fn)∈a
 |[],_,_,h=>by cases h
 |(d,g)::r,c,fn,h=>by
  unfold cp at h;by_cases e:(d == c)=š
  ·rw[ja e]at h;cases h
   simp_all
  ·rw[ra e]at h;exact la _$ CN h
def oW(hK:T.K=X.K)(he:FE T X o f)(h:∀ q∈ό,VM T X.prog X.w X.mg X.base k m q.1 ps q.2)(hr:ud k X.A)(ha:FA T X (e::n) ϋ)
  (V:(na (e::n) X.env=(į,Ib e X.env)::na n X.env)⁻¹) (S:((Zb b$ na n X.env).any (·.1)=į)⁻¹)
  (ht:(Ib (Ϡ (ϝ o m i) (e::n) [] b) X.env=(do
   let ov <-Ib o X.env
   Ig i.atName
   let (f,first) <-Ld [ov] (Dh ov m pl)
   dn b f first (Zb b$ na (e::n) X.env) (Ng b$ Me [] X.env)))⁻¹) :
  FE T X (Ϡ (ϝ o m i) (e::n) [] b)$ Zd ό ps.length m f ϋ:=by
 rintro j s st H Q I ⟨μ,ρ,σ,hE,ϊ,hp⟩;refine Ui (Zc (he j s st H (λx t=>∃ a c G l C,x=ϖ a/\t a=W1 (.ub (T.ca c) G l)/\cp ό c=W1 C/\l.lookup m=ŋ/\tL T X ϋ st t λZ L=>ro T ps.length C (x::(Z++[])) L Q$ XE X st) I ⟨μ,ρ,σ,hE,ϊ,hp.bind λd F a0 v t D e1 r1 q1 g=>?_⟩) λu s1 ⟨x,t,I1,rx,a,c,G,l,C,ex,ea,p,B,q⟩=>?_) ht
 ·unfold Ci at g;cases N:qi F d with
  |none=>rw[N]at g;exact g.elim
  |some z=>
   obtain⟨c,gs⟩:=z;rw[N]at g;dsimp only at g;cases p:cp ό c with
   |none=>rw[p]at g;exact g.elim
   |some C=>
    cases B:gs.lookup m with
    |some y=>rw[p,B]at g;exact g.elim
    |none=>
     rw[p,B]at g;dsimp only at g;obtain⟨a,G,l,rfl,h1,h2⟩:=Gy r1 q1 N;refine⟨a,c,G,l,C,rfl,h1,p,(WC h2).2 B,a0,ρ,F,hE.mono e1,r1,g.bind λds a2 a1 Z L D e2 r2 Y E=>?_⟩;unfold Vg at E;by_cases R:ds.length+1=ps.length
     ·rw[ja R]at E;exact⟨a1,a2,d::ds,xb.cons (Ha.mono e2 _ _ q1) (by rw[be];exact Y),by rw[Ua];exact R,r2,E⟩
     ·rw[ra R]at E;exact E.elim
 ·subst ex;obtain rfl:u=Db a:=rx;obtain⟨hC,f',P,fd,hb,hF⟩:=h _ (CN p);rw[hK]at hC P hF;exact vP I1 ea hC P B$ gh I.ok.mod.gx P.kp (Zc (ha b j s1 st t _ I1 q) λZ s2 ⟨l,L,I2,r,Y⟩=>⟨I2.Li,(yE (vs:=ϖ a::l) hF hr (.all hb) Ϣ I2 (ϟ rfl r) Y)⟩) V S
def V2(hK:T.K=X.K)(he:FE T X o f)(h:∀ q∈F,VM T X.prog X.w X.mg X.base k m q.1 ps q.2)(hr:ud k X.A)
  (ht:(Ib (Ϡ (ϝ o m e) [] [] g) X.env=(do
   let S <-Ib o X.env
   Ig e.atName
   let (f,first) <-Ld [S] (Dh S m pl)
   dn g f first (Zb g$ na [] X.env) (Ng g$ Me [] X.env)))⁻¹) :
  FE T X (Ϡ (ϝ o m e) [] [] g)$ Zd F ps.length m f Za:=by
 rintro B s st H Q I ⟨μ,ρ,σ,hE,ϋ,hp⟩;refine Ui (Zc (he B s st H (λx p=>∃ a c E n l,x=ϖ a/\p a=W1 (.ub (T.ca c) E n)/\cp F c=W1 l/\n.lookup m=ŋ/\ro T ps.length l (x::([]++[])) p Q (XE X st)) I ⟨μ,ρ,σ,hE,ϋ,hp.bind λd i C v p D e1 V ϊ b=>?_⟩) λu s1 ⟨x,p,G,rx,a,c,E,n,l,ex,Y,j,r,q⟩=>?_) ht
 ·unfold Ci at b;cases ό:qi i d with
  |none=>rw[ό]at b;exact b.elim
  |some z=>
   obtain⟨c,gs⟩:=z;rw[ό]at b;dsimp only at b;cases j:cp F c with
   |none=>rw[j]at b;exact b.elim
   |some l=>
    cases r:gs.lookup m with
    |some y=>rw[j,r]at b;exact b.elim
    |none=>
     rw[j,r]at b;dsimp only at b;obtain⟨a,E,n,rfl,Z,h2⟩:=Gy V ϊ ό;have t:Rb T _ _ C p (Vg ps.length l d [] i) Q:=b;unfold Vg at t;by_cases N:([]:gV).length+1=ps.length
     ·rw[ja N]at t;exact⟨a,c,E,n,l,rfl,Z,j,(WC h2).2 r,C,i,[d],xb.cons ϊ xb.nil,N,V,t⟩
     ·rw[ra N]at t;exact t.elim
 ·subst ex;obtain rfl:u=Db a:=rx;obtain⟨P,f',L,fd,hb,R⟩:=h _ (CN j);rw[hK]at P L R;exact vP G Y P L r$ W.callWith_K0 G.Li L.kp$ yE (vs:=[ϖ a]) R hr (.all hb) Ϣ G (ϟ rfl Ϣ) q
structure G3(T:Tb)(P:xa)(w:Na)(mg:Str->Option Value)(base:Heap)(k:Nat)(x m:Str)(c:Nat)(ps:ab)(fn:gV->M D):Prop where
 gl:mg x=W1 (Db (T.ca c))
 sp:W.specialIn T.K (Db (T.ca c)) (Ai "__getattribute__")=W1 (W1 (Ϟ "type.__getattribute__"))
 ex:∃ f mc,W.readsIn T.K (T.ca c) mc=š/\W.findCls T.K (Db (T.ca c)) mc m=W1 (.val (Db f))/\Ϲ T.K (Db f)=š/\Dq T P w mg base k f ps fn
def KY(h:G3 T X.prog X.w X.mg X.base k x m c ps l)(R:T.K=X.K)(hr:ud k X.A)(V:Gl X x)(S:FA T X (e::d) F)
  (n: ~~~((x == ("__debug__" : Str))=į)) (u:(na (e::d) X.env=(į,Ib e X.env)::na d X.env)⁻¹) (q:((Zb a$ na d X.env).any (·.1)=į)⁻¹)
  (ht:(Ib (Ϡ (ϝ (Ϝ x p) m b) (e::d) [] a) X.env=(do
   let ϋ <-Ib (Ϝ x p) X.env
   Ig b.atName
   let (f,first) <-Ld [ϋ] (Dh ϋ m pl)
   dn a f first (Zb a$ na (e::d) X.env) (Ng a$ Me [] X.env)))⁻¹) :
  FE T X (Ϡ (ϝ (Ϝ x p) m b) (e::d) [] a)$ we ps.length l [] F:=by
 rintro i s st H Q I ⟨μ,ρ,σ,P,t,Z⟩;obtain⟨Y,g,f,mc,G,ό,L,fd,ϊ,N⟩:=h;rw[R]at g G ό L N;refine Ui (uF I V Y (W.method_cls I.Li g$ W.cls_value I.Li G ό rfl$ gh I.ok.mod.gx L (Zc (S a i _ st H (λv B=>ro T ps.length l (v++[]) B Q$ XE X st) (I.tok _) ⟨μ,ρ,σ,P,t,Z.bind λE z y v B D e1 r1 p1 j=>?_⟩) λus s2 ⟨v,H2,C,r,q2⟩=>⟨C.Li,?_⟩) u q) n) ht
 ·unfold Pp at j;by_cases o:(E++[]).length=ps.length
  ·rw[ja o]at j;exact⟨y,z,E++[],p1.append xb.nil,o,r1,j⟩
  ·rw[ra o]at j;exact j.elim
 ·exact yE N hr (.all ϊ) Ϣ C r q2
end
structure su(K:ϗ)(C:Addr)(x qual:Str)(st:Stmt)(ps:ab)(f:Addr):Prop where
 ex:∃ fd,bI K x qual st f fd/\∀ us:b',us.length=ps.length->bindArgs fd ⟨us,[]⟩=pure (ps.zip us)
section
variable{P:xa}{w:Na}{K:ϗ}{mg:Str->Option Value}{base:Heap}{ca:Nat->Addr}{tx:Tx}
def JV{st}(h:su K C x a st ps f)(S:gc N ps$ qf st)
  (j:∀ b A c s H E,ud k (A.deeper$ dg a (qf st) s.heap.objs.size f b)->im ⟨K,ca,tx⟩ (Ap (Xk P w) P w K mg base N a (qf st) f b A c s H E) (Fj st) g) :
  Dq ⟨K,ca,tx⟩ P w mg base (k+1) f ps$ Xg N.length g:=by
 obtain⟨o,F,d⟩:=h.ex;obtain⟨oc,p,kV,i,pm,n,b,ct,m,rfl,l,e⟩:=F.ex;exact⟨_,d,sD l e S$ j b⟩
def Dq.Ic{T}{k}{f}{ps}{a}(h:Dq T P w mg base k f ps a):Dq T P w mg base k f ps (λb=>Lake.Ic$ a b):=by
 obtain⟨c,d,e⟩:=h;exact⟨c,d,HK e⟩
def Dq.qd(h:Dq T P w mg base k f ps a):Dq T P w mg base k f ps$ Lake.qd a:=by rw[Vp];exact h
end
noncomputable def iu(s:Stmt)(j:Nat):Stmt:=match s with
 | .ClassDef _ _ _ b _ _ _ _ _ _ _=>b.getD j (.Pass ⟨0,0,0,0⟩)
 |s=>s
def IU{K:ϗ}{st}{kV d pm b ct}
  (i:∀ kV d pm e b ct h,h.length=ps.length->bindArgs (ϯ x a (ul st) (Fj st) (qf st) Yb kV d pm e b ct) ⟨h,[]⟩=pure (ps.zip h))
  (l:K.lookup f=W1 ⟨oc,j,.func$ ϯ x a (ul st) (Fj st) (qf st) Yb kV d pm e b ct,g⟩)
  (c:W.codeIn K b a=š) (k:Ϲ K (Db f)=š):su K C x a st ps f:=⟨⟨_,yX l c k,i kV d pm e b ct⟩⟩
section
variable{T:Tb}{P:xa}{w:Na}{mg:Str->Option Value}{base:Heap}
def JJ(T:Tb)(P:xa)(w:Na)(mg:Str->Option Value)(base:Heap)(k:Nat)(m:Str)(ps:ab)(a:Mt):Prop:=∀ q∈a,VM T P w mg base k m q.1 ps q.2
def R8:JJ T P w mg base k m ps []:=λq h=>nomatch h
def U2(l:Iq T.K$ T.ca c)(n:eu T.K (T.ca c) m f)(o:Dq T P w mg base j f ps e)(p:j<=k)(h:JJ T P w mg base k m ps g):JJ T P w mg base k m ps$ (c,e)::g:=λq d=>by
 rcases La.mp d with rfl|d
 ·obtain⟨i,a,b⟩:=o;exact⟨l,f,n,i,a,b.mono p⟩
 ·exact h q d
end
end Lake
namespace Lake
open L2
def nr{a b:c}(h:a=b):a=b:=h
section
variable{α β:Type}{ρ:Ev}{σ:Da}
@[simp] theorem Jc a σ(k:α->M β):(J a σ).bind k=k a σ:=rfl
@[simp] theorem yhu(a:α) σ:ret a σ=J a σ:=rfl
@[simp] theorem fj m(k:α->M β) σ:rc m k σ=(m σ).bind k:=rfl
@[simp] theorem WP d:eC d ρ σ=J d σ:=rfl
@[simp] theorem js d r:pa 0 (W1 d::r) σ=J d σ:=rfl
@[simp] theorem xC i o r:pa (i+1) (o::r) σ=pa i r σ:=rfl
@[simp] theorem zsj o a b:Eb o a b ρ σ=(a ρ σ).bind (qM o$ b ρ):=rfl
@[simp] theorem zrs o m x:qM o m x σ=(m σ).bind (o x):=rfl
@[simp] theorem ZL o a:Pc o a ρ σ=(a ρ σ).bind o:=rfl
@[simp] theorem yi7 b:AD (Ϗ b) σ=J b σ:=rfl
@[simp] theorem ymv(p q:M α):rj p q š σ=p σ:=rfl
@[simp] theorem ymu(p q:M α):rj p q į σ=q σ:=rfl
@[simp] theorem zwr c:KN c σ=J (!c) σ:=rfl
@[simp] theorem zqo(k:Bool->M α) b:Dz k (Ϗ b) σ=k b σ:=rfl
@[simp] theorem znz c:fP c σ=J (Ϗ$ !c) σ:=rfl
@[simp] theorem ylp f:eT f ρ σ=(f ρ σ).bind AD:=rfl
@[simp] theorem zrp a b:wG a b ρ σ=(a ρ σ).bind (rj (b ρ)$ ret į):=rfl
@[simp] theorem ybn a b:AC a b ρ σ=(a ρ σ).bind (rj (ret š)$ b ρ):=rfl
@[simp] theorem zrq a:Bp a ρ σ=(a ρ σ).bind KN:=rfl
@[simp] theorem zsi a b:VI a b ρ σ=(a ρ σ).bind (Dz$ rj (b ρ)$ ret$ Ϗ į):=rfl
@[simp] theorem ycs a b:bN a b ρ σ=(a ρ σ).bind (Dz$ rj (ret$ Ϗ š)$ b ρ):=rfl
@[simp] theorem zsn a:AW a ρ σ=(a ρ σ).bind (Dz fP):=rfl
@[simp] theorem yco t a b:Pv t a b ρ σ=(t ρ σ).bind (rj (a ρ)$ b ρ):=rfl
@[simp] theorem bC:Za ρ σ=J [] σ:=rfl
@[simp] theorem ED e r:Ba e r ρ σ=(e ρ σ).bind (qP$ r ρ):=rfl
@[simp] theorem zG m x:qP m x σ=(m σ).bind (cN x):=rfl
@[simp] theorem JE x xs:cN x xs σ=J (x::xs) σ:=rfl
@[simp] theorem zss a:ah a ρ σ=(a ρ σ).bind Zx:=rfl
@[simp] theorem yja:Zx [] σ=J (ϐ []) σ:=rfl
@[simp] theorem yjb a:Zx [a] σ=J (ϐ [a]) σ:=rfl
@[simp] theorem yjc a b:Zx [a,b] σ=J (ϐ [a,b]) σ:=rfl
@[simp] theorem yjd a b c:Zx [a,b,c] σ=J (ϐ [a,b,c]) σ:=rfl
@[simp] theorem yje a b c d:Zx [a,b,c,d] σ=J (ϐ [a,b,c,d]) σ:=rfl
@[simp] theorem yjf a b c d e:Zx [a,b,c,d,e] σ=J (ϐ [a,b,c,d,e]) σ:=rfl
@[simp] theorem ycp a:Fn a ρ σ=(a ρ σ).bind Wv:=nr rfl
theorem EV(h:Nat.ble a.length 1000=š):Wv a σ=J (ώ a) σ:=by unfold Wv;rw[ja (show a.length<=Yf from Oi h)];rfl
@[simp] theorem zsl a:vr a ρ σ=(a ρ σ).bind CJ:=rfl
@[simp] theorem yfj:CJ [] σ=J (O σ.length) (σ++[ϑ []]):=nr rfl
@[simp] theorem yom g i j:oI g (U i) (U j) σ=J (U$ g i j) σ:=nr rfl
@[simp] theorem yoi g i j:oB g (U i) (U j) σ=J (Ϗ$ g i j) σ:=nr rfl
theorem JN(h:C i j=š):jB C g (U i) (U j) σ=J (U$ g i j) σ:=by
 show (if C i j=š then ret _ else Jb) σ=_;rw[ja h];rfl
@[simp] theorem zwy i j(h:0<j)(a:j<1073741824):rB (U i) (U j) σ=J (U$ i / j) σ:=JN (by simp[RN,h,a])
@[simp] theorem uX i j(h:0<j):Mm (U i) (U j) σ=J (U$ i % j) σ:=JN (by simp[rP,h])
theorem RI(h:Zz i j=š):NC (U i) (U j) σ=J (U$ i ^ j.toNat) σ:=JN h
@[simp] theorem p12:NC (U 10) (U 12) σ=J (U 1000000000000) σ:=RI (by simp[Zz])
@[simp] theorem p6:NC (U 10) (U 6) σ=J (U 1000000) σ:=RI (by simp[Zz])
@[simp] theorem p4:NC (U 10) (U 4) σ=J (U 10000) σ:=RI (by simp[Zz])
@[simp] theorem p40:NC (U 10) (U 40) σ=J (U$ 10 ^ 40) σ:=RI (by simp[Zz])
@[simp] theorem zxd i:vT (U i) σ=J (U$ -i) σ:=nr rfl
@[simp] theorem zn5 i j:Ji (U i) (U j) σ=J (U$ i+j) σ:=nr rfl
theorem zn7{xs a}(h:xs.length+a.length<=Yf):Ji (ϐ xs) (ϐ a) σ=J (ϐ$ xs++a) σ:=by show (if _ then _ else _:M D) σ=_;rw[ja h];rfl
def YI{xs a}(h:xs.length+a.length<=Yf):Ji (ώ xs) (ώ a) σ=J (ώ$ xs++a) σ:=by
 show (if _ then _ else _:Gi D)=_;rw[ja h]
@[simp] theorem zog σ:Zr Ϛ Ϛ σ=J (Ϗ š) σ:=nr rfl
@[simp] theorem zof b:Zr (U b) Ϛ σ=J (Ϗ į) σ:=nr rfl
@[simp] theorem zoh b:Zr (ϐ b) Ϛ σ=J (Ϗ į) σ:=nr rfl
@[simp] theorem zis σ:ZK Ϛ Ϛ σ=J (Ϗ į) σ:=nr rfl
@[simp] theorem zir b:ZK (U b) Ϛ σ=J (Ϗ š) σ:=nr rfl
theorem DH(h:bp σ 8 x y=W1 b):Zi x y σ=J (Ϗ b) σ:=by unfold Zi;rw[h]
def aI(h:bp σ 8 x y=W1 b):Ki x y σ=J (Ϗ$ !b) σ:=by unfold Ki;rw[h]
@[simp] theorem zwz i j:Zi (U i) (U j) σ=J (Ϗ$ i == j) σ:=DH rfl
@[simp] theorem zxc i j:Ki (U i) (U j) σ=J (Ϗ$ !(i == j)) σ:=aI rfl
@[simp] theorem zw0 i j:Zi (ϒ i) (ϒ j) σ=J (Ϗ$ i == j) σ:=DH rfl
theorem Ly{xs}(h:rp xs k=W1 d):Fb (ϐ xs) (U k) σ=J d σ:=by show (match rp xs k with|some d=>_|none=>_)=_;rw[h]
def nE{xs}(h:rp xs k=W1 d):Fb (ώ xs) (U k) σ=J d σ:=by show (match rp xs k with|some d=>_|none=>_)=_;rw[h]
@[simp] theorem ym3 a r:Fb (ϐ$ a::r) (U 0) σ=J a σ:=Ly$ kq rfl
@[simp] theorem ym4 a b r:Fb (ϐ$ a::b::r) (U 1) σ=J b σ:=Ly$ kq rfl
@[simp] theorem ym5 a b c r:Fb (ϐ$ a::b::c::r) (U 2) σ=J c σ:=Ly$ kq rfl
@[simp] theorem ym6 a b c d r:Fb (ϐ$ a::b::c::d::r) (U 3) σ=J d σ:=Ly$ kq rfl
@[simp] theorem OW xs:tq [ϐ xs] σ=J (U xs.length) σ:=nr rfl
@[simp] theorem TN xs:tq [ώ xs] σ=J (U xs.length) σ:=nr rfl
@[simp] theorem zoj xs:tq [ϭ xs] σ=J (U xs.length) σ:=by show J (U ((xs.map U).length:Nat)) σ=_;rw[Ja]
@[simp] theorem zk0 o a:Pl o a ρ σ=(a ρ σ).bind o:=rfl
@[simp] theorem RK n f a b:we n f a b ρ σ=(b ρ σ).bind (Pp n f a):=rfl
@[simp] theorem yl6 f a:Pp 1 f [] [a] σ=f [a] σ:=by unfold Pp;rw[ja ⋯];simp
@[simp] theorem ñ f a b:Pp 2 f [] [a,b] σ=f [a,b] σ:=by unfold Pp;rw[ja ⋯];simp
@[simp] theorem å f a b c:Pp 3 f [] [a,b,c] σ=f [a,b,c] σ:=by unfold Pp;rw[ja ⋯];simp
@[simp] theorem ydu f a b c:Pp 3 f [c] [a,b] σ=f [a,b,c] σ:=by unfold Pp;rw[ja ⋯];simp
@[simp] theorem yl9 f a b c d:Pp 4 f [] [a,b,c,d] σ=f [a,b,c,d] σ:=by unfold Pp;rw[ja ⋯];simp
@[simp] theorem yma f a b c d e:Pp 5 f [] [a,b,c,d,e] σ=f [a,b,c,d,e] σ:=by unfold Pp;rw[ja ⋯];simp
@[simp] theorem zyw:Lg ρ σ=J (ϙ ρ) σ:=rfl
@[simp] theorem Bf g h:Lb g h ρ σ=(g ρ σ).bind (QG h):=rfl
@[simp] theorem Af h ρ:QG h (ϙ ρ) σ=h ρ σ:=rfl
@[simp] theorem zy8 h d:QG h (.rt d) σ=J (.rt d) σ:=rfl
@[simp] theorem zy6 h ρ:QG h (.bk ρ) σ=J (.bk ρ) σ:=rfl
noncomputable def zk(ρ:Ev)(k:α->M Fl):Gi α->Gi Fl
 | J a b=>k a b
 | .ex x b=>J (.xc ρ x) b
 | Ϙ=>Ϙ
@[simp] theorem Bl ρ(m:M α) k:xs ρ m k σ=zk ρ k (m σ):=by unfold xs zk;cases m σ<;>rfl
@[simp] theorem Qj ρ k(a:α):zk ρ k (J a σ)=k a σ:=rfl
@[simp] theorem zyy f:Ah f ρ σ=zk ρ aN (f ρ σ):=Bl ..
@[simp] theorem zyl d:aN d σ=J (.rt d) σ:=rfl
@[simp] theorem cZ f:ci f ρ σ=zk ρ (XM ρ) (f ρ σ):=Bl ..
@[simp] theorem TR d:XM ρ d σ=J (ϙ ρ) σ:=rfl
@[simp] theorem À i f:Qe i f ρ σ=zk ρ (Au i ρ) (f ρ σ):=Bl ..
@[simp] theorem o9 i d:Au i ρ d σ=J (ϙ$ ρ.set i$ W1 d) σ:=rfl
@[simp] theorem yhx t a b:Cg t a b ρ σ=zk ρ (rj (a ρ)$ b ρ) (t ρ σ):=Bl ..
@[simp] theorem zyq f a:CL f a ρ σ=zk ρ (RH a ρ) (f ρ σ):=Bl ..
@[simp] theorem ybm i j a b:RH (vj 2$ Nf (Cc i)$ Nf (Cc j) Lj) ρ (ϐ [a,b]) σ=J (ϙ$ (ρ.set i$ W1 a).set j$ W1 b) σ:=rfl
@[simp] theorem zy1 g a:FJ g a ρ σ=(g ρ σ).bind (vK a):=rfl
@[simp] theorem yaq a:vK a (ϙ ρ) σ=J (ϙ ρ) σ:=rfl
@[simp] theorem fw n g a:Xg n g a σ=Tn (g (a.map W1++List.replicate (n - a.length) ŋ) σ):=rfl
@[simp] theorem jV d:Tn (J (.rt d) σ)=J d σ:=rfl
@[simp] theorem BO:Tn (J (ϙ ρ) σ)=J Ϛ σ:=rfl
@[simp] theorem ydy f:Ic f σ=ig σ (f σ):=nr rfl
@[simp] theorem Bo f:Mi f ρ σ=ig σ (f ρ σ):=nr rfl
theorem Az(h:cl d=š):fz k σ m d=W1 d:=by cases m<;>(unfold fz;rw[ja h])
def JS(h:cl d=š)(b:a.take σ.length=σ):ig σ (J d a)=J d σ:=by
 unfold ig;dsimp only;rw[ja b,Az h]
@[simp] theorem zhm(h:cl d=š):ig σ (J d σ)=J d σ:=JS h Uc
theorem wU{j j':Da}{xs}(h:zf xs=š):ig σ (J (O σ.length)$ σ++[ϑ xs]++j)=J (ώ xs) σ:=by
 unfold ig;dsimp only;rw[ja ⋯];have e:fz σ.length (σ++[ϑ xs]++j) 6 (O σ.length)=W1 (ώ xs):=by
  unfold fz;dsimp only;rw[ra$ Bd _];have:(σ++[ϑ xs]++j)[σ.length]?=W1 (ϑ xs):=by simp
  rw[this];dsimp only;have d:∀ a m,zf a=š->Wl (fz σ.length (σ++[ϑ xs]++j) m) a=W1 a:=by
   intro a m;induction a with
   |nil=>intro _;rfl
   |cons y a f=>
    intro c;have b:cl y=š/\zf a=š:=by simpa [zf]using c
    unfold Wl;rw[Az b.1,f b.2]
  rw[d xs 5 h];rfl
 rw[e]
@[simp] theorem yb6 i:cl (U i)=š:=nr rfl
@[simp] theorem ykr i:cl (Ϗ i)=š:=nr rfl
@[simp] theorem ycb i:cl (ϒ i)=š:=nr rfl
@[simp] theorem yb8:cl Ϛ=š:=nr rfl
@[simp] theorem ycd xs:cl (ϐ xs)=zf xs:=nr rfl
@[simp] theorem yb7 xs:cl (ώ xs)=zf xs:=nr rfl
@[simp] theorem yca n:cl (O n)=į:=nr rfl
@[simp] theorem zr4:zf []=š:=by simp[zf]
@[simp] theorem q7 d a:zf (d::a)=(cl d && zf a):=by simp[zf]
theorem Tp:∀ {a:gV},(∀ d∈a,cl d=š)->zf a=š
 |[],_=>by simp
 |d::a,h=>by rw[q7,h d ua,Tp λx b=>h x$ la _ b];rfl
def zH{f:a->D}{l:List a}(h:∀ x,cl (f x)=š):zf (l.map f)=š:=Tp λd hd=>by obtain⟨x,_,rfl⟩:=Ya.mp hd;exact h x
@[simp] theorem zko(l:dd):zf (l.map U)=š:=zH yb6
@[simp] theorem nM xs a:zf (xs++a)=(zf xs && zf a):=by
 induction xs with
 |nil=>simp
 |cons x xs b=>simp[b,Jz]
theorem Z9{xs}{k}(a:0<=k)(h:k<xs.length):rp xs k=W1 (xs.getD k.toNat Ϛ):=by
 obtain⟨n,rfl⟩:=Int.eq_ofNat_of_zero_le a;have b:n<xs.length:=by lia
 refine kq ?_;show xs[n]?=W1 (xs.getD n Ϛ);rw[Kn,Xc b];rfl
def N9{a:dd}{k:Int}(b:0<=k)(h:k<a.length):rp (a.map U) k=W1 (U$ a.getD k.toNat 0):=by
 rw[Z9 b (by simpa using h)];have c:k.toNat<a.length:=by lia
 simp[c]
@[simp] theorem ynv a:Wv [a] σ=J (ώ [a]) σ:=nr rfl
@[simp] theorem ynu:Wv [] σ=J (ώ []) σ:=nr rfl
@[simp] theorem ynw a b:Wv [a,b] σ=J (ώ [a,b]) σ:=nr rfl
@[simp] theorem bO xs:df (σ++[ϑ xs]) σ.length=W1 xs:=by simp[df]
@[simp] theorem QA a b:(σ++[a]).set σ.length b=σ++[b]:=by
 rw[Le _ _$ va _];simp
@[simp] theorem zk3 o f a:Ju o f a ρ σ=(f ρ σ).bind (Dt o$ a ρ):=rfl
theorem eF{xs}(h:wf σ x=W1 xs):Dt o m x σ=(m σ).bind (o x):=by unfold Dt;rw[h];rfl
def PM{xs}(h:xs.length<1000):Ei (O σ.length) [d] (σ++[ϑ xs])=J Ϛ (σ++[ϑ$ xs++[d]]):=by
 unfold Ei;simp only[bO];rw[ja (show xs.length<Yf from h),QA]
def Ť{ws:dd}(h:jl σ x=W1 (ws.map U)):YC a (U w) x σ=J (Ϗ (if a then !(ws.any (·== w))else ws.any (·== w))) σ:=by
 have b:∀ l:dd,(l.map U).all az=š:=λl=>by rw[Ek];exact Xa.2 λd d=>rfl
 have c:∀ l:dd,((l.map U).any λz=>bB z$ U w)=l.any (·== w):=λl=>by rw[VD];rfl
 unfold YC;rw[h];simp only[b,c,show az (U w)=š from rfl,BB,sg]
@[simp] theorem CV xs:jl σ (ώ xs)=W1 xs:=nr rfl
@[simp] theorem zjk xs:jl σ (ϐ xs)=W1 xs:=nr rfl
@[simp] theorem UH f:Fh f ρ σ=(f ρ σ).bind Kx:=nr rfl
@[simp] theorem zjh a:Kx (ϐ a) σ=J (.seq a) σ:=nr rfl
@[simp] theorem RQ a:Kx (ώ a) σ=J (.seq a) σ:=nr rfl
@[simp] theorem zz8 f:Wr f ρ σ=(f ρ σ).bind qu:=nr rfl
theorem AJ(h:-(2 ^ 62)<=j)(a:j<2 ^ 62):qu (U j) σ=J (.seq$ qr j.toNat) σ:=by
 unfold qu;dsimp only;rw[ja (by simp only[uw,Vp,Ca,Bb];exact⟨h,a⟩)]
@[simp] theorem pM b c a:Zl b c a ρ σ=zk ρ (IF c a ρ) (b ρ σ):=Bl ..
@[simp] theorem EK c a b:IF c a ρ (.seq b) σ=qk c a b ρ σ:=nr rfl
@[simp] theorem VO b a:qk b a [] ρ σ=J (ϙ ρ) σ:=nr rfl
theorem FH(h:tg d ρ=W1 a):qk tg body (d::b) ρ σ=(body a σ).bind (lw$ qk tg body b):=by
 show (match tg d ρ with|none=>Jb|some a=>rc (body a) (lw$ qk tg body b)) σ=_;rw[h];rfl
@[simp] theorem tz i body d a:qk (Cc i) body (d::a) ρ σ=(body (ρ.set i$ W1 d) σ).bind (lw$ qk (Cc i) body a):=FH rfl
@[simp] theorem Wj k:lw k (ϙ ρ) σ=k ρ σ:=nr rfl
@[simp] theorem Ĳ k:lw k (.bk ρ) σ=J (ϙ ρ) σ:=nr rfl
theorem fC(h:m σ=J a b):qt m σ=J a b:=by unfold qt;rw[h]
end
section
variable{α β:Type}{ρ:Ev}{σ:Da}
@[simp] theorem zjj a:jl σ (ϭ a)=W1 (a.map U):=nr rfl
theorem zw8(b:0<=k)(h:k<a.length):Fb (ϭ a) (U k) σ=J (U$ a.getD k.toNat 0) σ:=by
 simp[Fb,N9 b h]
@[simp] theorem zob c i:Yy c (U i) σ=J (Ϗ$ match c with | .int=>š|_=>į) σ:=nr rfl
@[simp] theorem zw4 c i:Yy c (Ϗ i) σ=J (Ϗ$ match c with | .int=>š | .bool=>š|_=>į) σ:=nr rfl
@[simp] theorem zoe xs:Yy .tuple (ϐ xs) σ=J (Ϗ š) σ:=nr rfl
@[simp] theorem zhb o d a b c:eV o d a b c ρ σ=(a ρ σ).bind (kO o d (b ρ)$ c ρ):=nr rfl
noncomputable def pl:Nat->D->Bool
 |_,Ϛ=>š
 |_,Ϗ _=>š
 |_,U _=>š
 |_,ϒ _=>š
 |n+1,ϐ xs=>xs.all (pl n)
 |n+1,ώ xs=>xs.all (pl n)
 |_,_=>į
theorem bM{f:D->D->Option Bool}:∀ {xs:gV},(∀ x∈xs,f x x=W1 š)->ln f xs xs=W1 š
 |[],_=>rfl
 |x::xs,h=>by unfold ln;rw[h x ua,bM λy a=>h y$ la _ a];rfl
theorem PJ:∀ (n:Nat) (x:D),pl n x=š->bp σ n x x=W1 š
 |0,x,h=>by cases x<;>first|exact eb W1$ Ke _|rfl|cases h
 |n+1,x,h=>by
  cases x with
  |Sb=>rfl
  |bl b=>exact eb W1$ Ke _
  |int b=>exact eb W1$ Ke _
  |str b=>exact eb W1$ Ke _
  |Sa xs=>
   replace h:=Xa.1 h;exact bM λy a=>PJ n y$ h y a
  |qa xs=>
   replace h:=Xa.1 h;exact bM λy a=>PJ n y$ h y a
  |_=>trivial
def BH(h:pl 8 x=š):Zi x x σ=J (Ϗ š) σ:=DH$ PJ 8 x h
def nw(h:pl 8 x=š):Ki x x σ=J (Ϗ į) σ:=aI$ PJ 8 x h
@[simp] theorem zpm f b a:nI f b a ρ σ=zk ρ (dP ρ b a) (f ρ σ):=Bl ..
@[simp] theorem zg4 o a b c x:kO o a b c x σ=(b σ).bind (iO o a c x):=nr rfl
@[simp] theorem zg6 o a c x y:iO o a c x y σ=(o x y σ).bind (SO a c y):=nr rfl
@[simp] theorem zg5 a c y b:SO a c y (Ϗ b) σ=rj (rc c$ a y) (ret$ Ϗ į) b σ:=nr rfl
@[simp] theorem zpu b a d:dP ρ b a d σ=zk ρ (iM ρ a d) (b ρ σ):=Bl ..
@[simp] theorem zpv a d x:iM ρ a d x σ=zk ρ (eB ρ d x) (a ρ σ):=Bl ..
theorem iJ(h:cl d=š):ig σ (J d$ σ++[a])=J d σ:=JS h ⋯
@[simp] theorem zgq(f:a->Bool)(l:List a):lF (l.map λx=>Ϗ$ f x)=W1 (l.map f):=by
 induction l with
 |nil=>rfl
 |cons x l b=>exact eb (Option.map (f x::·)) b
@[simp] theorem MY l:Hr (l.map U)=W1 l:=by
 induction l with
 |nil=>rfl
 |cons x l a=>exact eb (Option.map (x::·)) a
theorem OP{f:a->Bool}{l:List a}:GC [ώ (l.map λx=>Ϗ$ f x)] σ=J (Ϗ$ l.all f) σ:=by
 unfold GC;simp
def B3(h:l.length<=1000):SH (ώ$ l.map U) σ=J (U (At l).length) σ:=by
 unfold SH;rw[show (wf σ$ ώ$ l.map U).bind Hr=W1 l from MY l];dsimp only;rw[ja (show l.length<=Yf from h)]
theorem JL:∀ (l s:dd),(l.foldl PyProof.Rows.step_dedup s).length<=s.length+l.length/\((l.foldl PyProof.Rows.step_dedup s).length=s.length+l.length ↔ (l.Nodup/\∀ x∈l,x ∉ s))
 |[],s=>by simp
 |x::l,s=>by
  rw[Bm];by_cases h:s.any (·== x)=š
  ·have i:x∈s:=by simpa using h
   rw[show PyProof.Rows.step_dedup s x=s by unfold PyProof.Rows.step_dedup;rw[ja h]];obtain⟨g,d⟩:=JL l s;refine⟨by simp;lia,λe=>?_,λe=>absurd i$ e.2 x ua⟩;simp[Ua]at e;lia
  ·have i:x ∉ s:=by simpa using h
   rw[show PyProof.Rows.step_dedup s x=s++[x] by unfold PyProof.Rows.step_dedup;rw[ra h]];obtain⟨g,d⟩:=JL l (s++[x]);simp only[Kb,Ua,vg]at g d;refine⟨by simp[Ua];lia,?_⟩;rw[Ua,show s.length+(l.length+1)=s.length+(0+1)+l.length by lia,d,rg];constructor
   ·rintro ⟨a,b⟩;refine⟨⟨λj=>(b x j) ⋯,a⟩,λy f=>?_⟩;rcases La.mp f with rfl|f;all_goals grind
   ·rintro ⟨⟨a,b⟩,c⟩;refine⟨b,λy f k=>?_⟩;all_goals grind
def t4 l:((At l).length:Int)=(l.length:Int) ↔ l.Nodup:=by
 have:=(JL l []).2;simp at this;unfold At;rw[<-this];lia
end
section
variable{ρ:Ev}{σ:Da}
@[simp] theorem lS c n a b:pp c n a b ρ σ=(b ρ σ).bind (Bj c n a):=nr rfl
theorem rE(h:a.length+1=n):Bj c n b a σ=Xx σ.length (b (O σ.length::a)$ σ++[ϓ c []]):=by unfold Bj;rw[ja h]
@[simp] theorem BL c b a:Bj c 2 b [a] σ=Xx σ.length (b [O σ.length,a]$ σ++[ϓ c []]):=rE rfl
@[simp] theorem GQ c d a b:Bj c 3 d [a,b] σ=Xx σ.length (d [O σ.length,a,b]$ σ++[ϓ c []]):=rE rfl
@[simp] theorem YU c g a b d e f:Bj c 6 g [a,b,d,e,f] σ=Xx σ.length (g [O σ.length,a,b,d,e,f]$ σ++[ϓ c []]):=rE rfl
@[simp] theorem Zy n:Xx n (J Ϛ σ)=J (O n) σ:=nr rfl
@[simp] theorem SC a f c b:El a f c b ρ σ=zk ρ (YK ρ a f b) (c ρ σ):=Bl ..
@[simp] theorem TC a f b d:YK ρ a f b d σ=zk ρ (Ds ρ a f d) (b ρ σ):=Bl ..
theorem mD(h:cs.contains c=š)(a:fs.length<1000):Ds ρ cs f d (O σ.length) (σ++[ϓ c fs])=J (ϙ ρ) (σ++[ϓ c$ Mg f d fs]):=by
 have e:Bw cs f d (O σ.length) (σ++[ϓ c fs])=J () (σ++[ϓ c$ Mg f d fs]):=by
  have:(σ++[ϓ c fs])[σ.length]?=W1 (ϓ c fs):=by simp
  unfold Bw;simp only[this];rw[ja ⋯];simp
 unfold Ds;rw[e]
def Fm(h:b.length=a.length):qi σ (ϸ c b a)=W1 (c,b.zip a):=by unfold qi;dsimp only;rw[ja h]
def Sh(h:qi σ x=W1 (c,fs))(a:cs.contains c=š)(b:fs.lookup f=W1 d):Vb cs f x σ=J d σ:=by
 unfold Vb;rw[h];dsimp only;rw[ja a,b]
@[simp] theorem OT b n m f a:Zd b n m f a ρ σ=(f ρ σ).bind (Ci b n m$ a ρ):=nr rfl
theorem on(h:qi σ x=W1 (c,gs))(f:cp d c=W1 a)(e:gs.lookup m=ŋ):Ci d n m b x σ=(b σ).bind (Vg n a x):=by
 unfold Ci;rw[h];dsimp only;rw[f,e];rfl
def Tw(h:a.length+1=n):Vg n b x a σ=b (x::a) σ:=by unfold Vg;rw[ja h]
@[simp] theorem k8 a x:Vg 1 a x [] σ=a [x] σ:=Tw rfl
@[simp] theorem Q9 b x a:Vg 2 b x [a] σ=b [x,a] σ:=Tw rfl
@[simp] theorem zwe c x a b:Vg 3 c x [a,b] σ=c [x,a,b] σ:=Tw rfl
@[simp] theorem zwg e x a b c d:Vg 5 e x [a,b,c,d] σ=e [x,a,b,c,d] σ:=Tw rfl
theorem lJ(h:zf (a.map (·.2))=š):ig σ (J (O σ.length)$ σ++[ϓ c a])=J (ϸ c (a.map (·.1)) (a.map (·.2))) σ:=by
 unfold ig;dsimp only;rw[ja ⋯];have e:fz σ.length (σ++[ϓ c a]) 6 (O σ.length)=W1 (ϸ c (a.map (·.1)) (a.map (·.2))):=by
  unfold fz;dsimp only;rw[ra$ Bd _];have:(σ++[ϓ c a])[σ.length]?=W1 (ϓ c a):=by simp
  have i:∀ b (m:Nat),zf b=š->Wl (fz σ.length (σ++[ϓ c a]) m) b=W1 b:=by
   intro b m;induction b with
   |nil=>intro _;rfl
   |cons y b g=>
    intro f;have d:cl y=š/\zf b=š:=by simpa using f
    unfold Wl;rw[Az d.1,g d.2]
  simp_all
 rw[e]
@[simp] theorem yb9 c b a:cl (ϸ c b a)=zf a:=by simp[cl]
@[simp] theorem zom i j:aF [U i,U j] σ=J (U$ min i j) σ:=nr rfl
@[simp] theorem zol i j:QC [U i,U j] σ=J (U$ max i j) σ:=nr rfl
@[simp] theorem zod i:Yy .str (ϒ i) σ=J (Ϗ š) σ:=nr rfl
@[simp] theorem zoc c:Yy c Ϛ σ=J (Ϗ į) σ:=by cases c<;>rfl
end
end Lake
namespace L2
open Spec
section
variable{κ:Type}[DecidableEq κ]
noncomputable def dm(a:List$ κ × V)(k:κ):Option V:=(a.find? λb=>decide$ b.1=k).map (·.2)
noncomputable def Pj(a:List$ κ × V)(k:κ)(v:V):List$ κ × V:=
 if (a.any λb=>decide$ b.1=k)=š then a.map (λb=>if b.1=k then (b.1,v)else b)else a++[(k,v)]
theorem Ĉ:dm ([]:List (κ × V)) k=ŋ:=rfl
def CG{k:κ}(e:p.1=k):dm (p::r) k=W1 p.2:=by simp[dm,yc,e]
def BE{k:κ}(e:¬ p.1=k):dm (p::r) k=dm r k:=by simp[dm,yc,e]
theorem BY(k:κ):∀ a:List$ κ × V,(a.any λb=>decide$ b.1=k)=(dm a k).isSome
 |[]=>rfl
 |p::r=>by
  rw[kf];by_cases e:p.1=k
  ·simp only[CG e,ib e,Bool.true_or,Option.isSome_some]
  ·rw[BE e,pb e,AB];exact BY k r
def NG a(k:κ) v:(Pj a k v).length<=a.length+1:=by
 unfold Pj;split
 ·rw[Ja];lia
 ·rw[Kb,Ua,vg];lia
theorem Po.rh(r:Po o u):o.isSome=u.isSome:=by
 cases o with
 |none=>cases u with
  |none=>rfl
  |some _=>exact(show False from r).elim
 |some _=>cases u with
  |none=>exact(show False from r).elim
  |some _=>rfl
def KV.val(r:KV a g)(k:κ):Po (dm a k)$ gn g k:=by
 unfold KV at r;induction r with
 |nil=>exact ϵ
 |@cons p q ps d h t j=>
  obtain⟨f,i⟩:=h;by_cases e:p.1=k
  ·have c:q.1=k:=f.symm.trans e;have b:gn (q::d) k=W1 q.2:=by simp[gn,yc,c]
   rw[CG e,b];exact i
  ·have c:¬ q.1=k:=λz=>e$ f.trans z;have b:gn (q::d) k=gn d k:=by simp[gn,yc,c]
   rw[BE e,b];exact j
def KV.any(r:KV a c)(k:κ):(a.any λb=>decide$ b.1=k)=c.any λb=>decide$ b.1=k:=by
 unfold KV at r;induction r with
 |nil=>rfl
 |cons h t d=>rw[kf,kf,d,h.1]
def KV.UA(r:KV b d)(k:κ)(i:Rc y u) :
  KV (b.map λa=>if a.1=k then (a.1,y)else a) (d.map λa=>if a.1=k then (a.1,u)else a):=by
 unfold KV at r ⊢;induction r with
 |nil=>exact Ϣ
 |@cons p q ps j h t g=>
  rw[db,db];refine ϟ ?_ g;obtain⟨c,f⟩:=h;by_cases e:p.1=k
  ·rw[ja e,ja$ c.symm.trans e];exact⟨c,i⟩
  ·rw[ra e,ra (λz=>e$ c.trans z)];exact⟨c,f⟩
def KV.put(r:KV a b)(k:κ)(c:Rc y u):KV (Pj a k y)$ stored b k u:=by
 unfold Pj stored;rw[r.any k];by_cases e:(b.any λd=>decide$ d.1=k)=š
 ·rw[ja e,ja e];exact r.UA k c
 ·rw[ra e,ra e];exact Paired.snoc r ⟨rfl,c⟩
def KV.length(r:KV a b):a.length=b.length:=Paired.length r
end
def cz(r:Rc (kV k) u):(Hj P w).is k u=š:=by
 cases k with
 |inl i=>obtain⟨t,e⟩:=(show ∃ t,u=Mh i t from r);subst e;exact Ů P w i t
 |inr x=>obtain⟨t,e⟩:=(show ∃ t,u=Cv x t from r);subst e;exact C1 P w x t
abbrev KT(H:Hp):List (TK × V)->List (TK × Addr × Value)->Prop:=Paired λp q=>p.1=q.1/\NR H 5 (.inr p.1) (ϖ q.2.1)/\Rc p.2 q.2.2
def KT.val(r:KT H a xs) k:Po (dm a k) ((Yq xs k).map (·.2)):=by
 induction r with
 |nil=>exact ϵ
 |@cons p q ps d h t i=>
  obtain⟨f,_,g⟩:=h;by_cases e:p.1=k
  ·have c:q.1=k:=f.symm.trans e;have b:Yq (q::d) k=W1 q.2:=by simp[Yq,yc,c]
   rw[CG e,b];exact g
  ·have c:¬ q.1=k:=λz=>e$ f.trans z;have b:Yq (q::d) k=Yq d k:=by simp[Yq,yc,c]
   rw[BE e,b];exact i
def KT.UA(r:KT H a xs) k(i:Rc y u) :
  KT H (a.map λc=>if c.1=k then (c.1,y)else c)$ xs.map$ putAt k u:=by
 induction r with
 |nil=>exact Ϣ
 |@cons p q ps j h t g=>
  rw[db,db];refine ϟ ?_ g;obtain⟨b,d,f⟩:=h;unfold putAt;by_cases e:p.1=k
  ·rw[ja e,ja$ b.symm.trans e];exact⟨b,d,i⟩
  ·rw[ra e,ra (λz=>e$ b.trans z)];exact⟨b,d,f⟩
def KT.put(r:KT H a xs) k(d:NR H 5 (.inr k)$ ϖ b)(c:Rc y u) :
  KT H (Pj a k y)$ storedH xs k b u:=by
 have e:(a.any λf=>decide$ f.1=k)=(Yq xs k).isSome:=by
  rw[BY,(r.val k).rh,Nj]
 unfold Pj storedH;rw[e];by_cases q:(Yq xs k).isSome=š
 ·rw[ja q,ja q];exact r.UA k c
 ·rw[ra q,ra q];exact Paired.snoc r ⟨rfl,d,c⟩
def KT.keeps(r:KT H a xs)(e:∀ b d,H b=W1 (.Sa d)->c b=W1 (.Sa d)):KT c a xs:=
 Paired.qp r λf f z=>⟨z.1,NR.keeps e 5 z.2.1,z.2.2⟩
section
variable{P:xa}{w:Na}{H:Hp}{h:Heap}{a:Addr}
def qX(ok:Qh P w H h)(e:Rd H a u):Uj P w H h a u:=e.ok ok
def Ht(ok:Qh P w H h)(e:Rd H a$ ϛ b):b.length<=sizeLine/\(a == ff)=į/\∃ c,KV b c/\h.DictOf (Hj P w) a c:=
 show Uj P w H h a (ϛ b)from qX ok e
def qH(ok:Qh P w H h)(e:H a=W1 (ϛ b)):b.length<=sizeLine/\(a == ff)=į/\∃ c,KV b c/\h.DictOf (Hj P w) a c:=Ht ok$ ϔ e
theorem IX(ok:Qh P w H h):∀ (n:Nat) {k:NK n} {v:V} {u:Value},NR H n k v->Rc v u->Jp P w h n k u
 |0,_,_,_,e,r=>by cases (show _=kV _ from e);exact cz r
 |_+1,.inl _,_,_,e,r=>by cases (show _=kV _ from e);exact cz r
 |n+1,.inr ks,_,_,e,r=>by
  obtain⟨b,a,rfl,e,p⟩:=e;cases (show _=Db b from r);obtain⟨_,d,q,t⟩:=(show Uj P w H h b (.Sa a)from ok b _ e)
  have f:∀ {ks:List$ NK n} {a:em} {c:b'},Paired (NR H n) ks a->ke a c->Paired (Jp P w h n) ks c:=by
   intro ks a c p;induction p generalizing c with
   |nil=>intro q;cases q;exact Ϣ
   |cons r _ g=>intro q;cases q with|cons i j=>exact ϟ (IX ok n r i)$ g j
  exact⟨b,d.toArray,rfl,t,by simpa using f p q⟩
theorem cF(ok:Qh P w H h)(e:NR H 5 (.inr ks)$ ϖ a):(lG P w).is h ks a:=IX ok 5 e rfl
def uE(ok:Qh P w H h)(e:Rd H a$ .dT b):b.length<=sizeLine/\(a == ff)=į/\
  ∃ xs,KT H b xs/\h.DictOfH (lG P w) a xs:=by
 obtain⟨z,y,xs,r,o,i,g,j,k,n,s,u⟩:=(show Uj P w H h a (.dT b)from qX ok e)
 refine⟨z,y,xs,r,o,i,g,j,k,n,s,λx c=>?_,u⟩;have d:∀ {l:List$ TK × V} {m:List$ TK × Addr × Value},KT H l m->∀ x∈m,(lG P w).is h x.1 x.2.1:=by
  intro l m q;induction q with
  |nil=>intro x c;exact nomatch c
  |@cons p q ps A f t v=>
   intro x c;rcases La.mp c with e|c
   ·subst e;exact cF ok (by rw[<-f.1];exact f.2.1)
   ·exact v x c
 exact d r x c
def R1(ok:Qh P w H h)(e:H a=W1 (.dT b)):b.length<=sizeLine/\(a == ff)=į/\
  ∃ xs,KT H b xs/\h.DictOfH (lG P w) a xs:=uE ok$ ϔ e
end
def aj(H:Hp)(a:Addr)(y:V)(r:Option V):Prop:=
 (∃ c k,Rd H a (ϛ c)/\y=kV k/\r=dm c k)\/∃ c k b,Rd H a (.dT c)/\y=ϖ b/\NR H 5 (.inr k) (ϖ b)/\r=dm c k
def oz(H:Hp)(a:Addr)(y v:V)(d:Hp):Prop:=
 (∃ c k,H a=W1 (ϛ c)/\y=kV k/\c.length<sizeLine/\d=Qa H a (ϛ$ Pj c k v))\/
 ∃ c k b,H a=W1 (.dT c)/\y=ϖ b/\NR H 5 (.inr k) (ϖ b)/\c.length<sizeLine/\d=Qa H a (.dT$ Pj c k v)
def aj.t(e:H a=W1 (.dT c))(d:NR H 5 (.inr k)$ ϖ b):aj H a (ϖ b)$ dm c k:=ϕ ⟨c,k,b,ϔ e,rfl,d,rfl⟩
def oz.k{H}{a}{b}{k}{v}(e:H a=W1 (ϛ b))(c:b.length<sizeLine):oz H a (kV k) v$ Qa H a$ ϛ$ Pj b k v:=ϔ ⟨b,k,e,rfl,c,rfl⟩
def oz.t{k}(e:H a=W1 (.dT c))(d:NR H 5 (.inr k)$ ϖ b)(f:c.length<sizeLine) :
  oz H a (ϖ b) v$ Qa H a$ .dT$ Pj c k v:=ϕ ⟨c,k,b,e,rfl,d,f,rfl⟩
section
variable{pins:List$ Addr × Obj}{σ:St}{H:Hp}{s:Shared}{a:Addr}{y v:V}{u r:Value}{o:Option V}{A:Ia}{E:Value->Shared->Prop}
def gb.mH(I:gb X pins σ H s):ff<s.heap.objs.size:=by
 have h:mainGlobals<s.heap.objs.size:=(I.mod.glob.keeps I.bk).lt;exact Pq ⋯ h
def ę(D:A.units+7<cLine)(I:gb X pins σ H s)(g:aj H a y$ W1 v)(r:Rc y u)(h:∀ f t,gb X pins σ H t->Rc v f->Q f t) :
  wpAny (model X.prog X.w) A (ai (Db a) u) Q E s:=by
 rcases g with⟨q,k,e,j,l⟩|⟨q,k,b,e,j,x,l⟩
 ·subst j;obtain⟨z,hd,C,c,i⟩:=Ht I.pc e;obtain⟨f,n,d⟩:=Po.some_of (v:=v) (o:=gn C k) (by rw[l];exact c.val k);exact wpAny_getItem_of (cz r) i.mapOf n$ h f _ (I.tok _) d
 ·subst j;cases (show u=Db b from r);obtain⟨z,hd,xs,c,i⟩:=uE I.pc e;obtain⟨f,n,d⟩:=Po.some_of (v:=v) (o:=(Yq xs k).map (·.2)) (by rw[l];exact c.val k);obtain⟨p,B,m⟩:=Ka.mp n;refine wpAny_getItem_heap (show A.units+1+5<cLine by lia) (cF I.pc x) i B ?_;rw[m];exact h f _ (I.tok _) d
def X0(p:A.units+7<cLine)(I:gb X pins σ H s)(g:aj H a y o)(j:Rc y u)(h:∀ m,gb X pins σ H m->Q (Dj o.isSome) m) :
  wpAny (model X.prog X.w) A (Nb .In u$ Db a) Q E s:=by
 rcases g with⟨i,k,e,f,l⟩|⟨i,k,b,e,f,n,l⟩
 ·subst f;obtain⟨z,hd,r,c,d⟩:=Ht I.pc e;refine wpAny_in_of (cz j) hd d.mapOf ?_;rw[<-(c.val k).rh,<-l];exact h _$ I.tok _
 ·subst f;cases (show u=Db b from j);obtain⟨z,hd,xs,c,d⟩:=uE I.pc e;refine wpAny_in_heap (show A.units+1+5<cLine by lia) (cF I.pc n) hd d ?_;have q:=(c.val k).rh;rw[Nj]at q;rw[<-q,<-l];exact h _$ I.tok _
def L8(p:A.units+7<cLine)(I:gb X pins σ H s)(g:aj H a y o)(j:Rc y u)(h:∀ m,gb X pins σ H m->Q (Dj$ !o.isSome) m) :
  wpAny (model X.prog X.w) A (Nb .NotIn u$ Db a) Q E s:=by
 rcases g with⟨i,k,e,f,l⟩|⟨i,k,b,e,f,n,l⟩
 ·subst f;obtain⟨z,hd,r,c,d⟩:=Ht I.pc e;refine wpAny_notIn_of (cz j) hd d.mapOf ?_;rw[<-(c.val k).rh,<-l];exact h _$ I.tok _
 ·subst f;cases (show u=Db b from j);obtain⟨z,hd,xs,c,d⟩:=uE I.pc e;refine wpAny_notIn_heap (show A.units+1+5<cLine by lia) (cF I.pc n) hd d ?_;have q:=(c.val k).rh;rw[Nj]at q;rw[<-q,<-l];exact h _$ I.tok _
def zE(I:gb X pins σ H s)(i:XF$ H a)(h:yd a s.heap h')(g:∃ q,h'.get? a=W1 q)(c:Uj X.prog X.w (Qa H a d) h' a d) :
  gb X pins σ (Qa H a d) { s with heap:=h',toks:=t' }:=
 I.write (x:=a) (e:=a) i (ϔ rfl) (λb q f z=>(h.2 b f).trans z) g c
def pF(z:b.length<=sizeLine)(hd:(a == ff)=į)(c:KV b d)(g:e.DictOf (Hj P w) a d) :
  Uj P w f e a$ ϛ b:=⟨z,hd,d,c,g⟩
def Ĩ(T:A.units+7<cLine)(I:gb X pins σ H s)(g:oz H a y v B)(G:Rc y u)(F:Rc v r)(h:∀ ό,gb X pins σ B ό->Q () ό) :
  wpAny (model X.prog X.w) A (cq (Db a) u r) Q E s:=by
 rcases g with⟨d,k,e,o,l,n⟩|⟨d,k,b,e,o,C,l,n⟩
 ·subst o n;obtain⟨z,hd,S,f,m⟩:=qH I.pc e;have x:S.length<=sizeLine:=by rw[<-f.length];exact z
  have p:(Pj d k v).length<=sizeLine:=by have:=NG d k v;lia
  refine wpAny_setItem_pairs (hsz:=x) (cz G) m λh' i t=>h _ ?_;have R:∃ q,h'.get? a=W1 q:=let ⟨q,_,_,j,_⟩:=i;⟨q,j⟩;exact zE I (by rw[e];exact ϵ) t R$ pF p hd (f.put k F) i
 ·subst o n;cases (show u=Db b from G);obtain⟨z,hd,xs,f,m⟩:=R1 I.pc e;have x:xs.length<=sizeLine:=by rw[<-Paired.length f];exact z
  have p:(Pj d k v).length<=sizeLine:=by have:=NG d k v;lia
  refine wpAny_setItem_heap (hsz:=x) (show A.units+1+5<cLine by lia) (cF I.pc C) m λh' i t=>h _ ?_;obtain⟨q,L,K,j,M,N,ϋ,_,P⟩:=i;refine zE I (by rw[e];exact ϵ) t ⟨q,j⟩ ⟨p,hd,_,(f.put k C F).keeps λc ϊ D=>?_,q,L,K,j,M,N,ϋ,P⟩;rw[Xd$ IP D e (λz=>nomatch z)];exact D
end
def IL(i:Fa):Prop:=∀ b a,Xo i į b a=operate [b,a] (ai b a)
def yaf{T t}
  (p:typeLookup (Wh T) "__getitem__" = pure (W1$ Ϟ t)) (q:IL b)
  (h:wpAny (model a w) A (Ib c j) (λo f=>wpAny (model a w) A (Ib b j) (λi d=>d.TypeIs o T/\wpAny (model a w) A (ai o i) Q E d) E f) E s) :
  wpAny (model a w) A (Ib (ϡ c b m) j) Q E s:=by
 refine yB (ic h (λo f k=>ic k (λi d e=>?_) λu u x=>x) λu u x=>x);obtain⟨n,e⟩:=e;unfold RZ;refine ba ?_;rw[getitemInPython_of_ne n.not_modules];refine ba$ bh n p ?_;have Mf:wpAny (model a w) A (Xo b į o i) (λr g=>wpAny (model a w) A (letTemporaryGo c o r >>= λu=>pure r) Q E g) E d:=by
  rw[q o i];exact wpAny_operating (ic e (λr g l=>ba$ wpAny_letTemporaryGo$ da l) λu u x=>x)
 first
  |exact da$ ba Mf
  |exact ba$ da$ ba Mf
  |exact ba Mf
def zdw(I:gb X c h H s)(g:aj H a y o):s.TypeIs (Db a) "dict":=by
 rcases g with⟨f,k,e,_,_⟩|⟨f,k,b,e,_,_,_⟩
 ·obtain⟨_,_,i,_,d⟩:=Ht I.pc e;exact d.typeIs
 ·obtain⟨_,_,xs,_,d⟩:=uE I.pc e;exact d.typeIs
noncomputable def J0(e ty:TE):TE:=λc H Q=>e c H λx d=>ty c d λy b=>∃ a v,x=ϖ a/\aj b a y (W1 v)/\Q v b
section
variable{o i e value:Fa}{pos pos' tpos:Dd}{td ty tv:TE}
def Ç(p:X.A.units+7<cLine)(m:PE X o td)(l:PE X i ty)(n:IL i):PE X (ϡ o i pos)$ J0 td ty:=by
 intro b s e H Q I h;refine yaf PySem.F.slot_dict_getitem.lookup n (Zc (m b s e H _ I h) λu s1 ⟨x,H1,j,rx,q⟩=>Zc (l b s1 e H1 _ j q) λw s2 ⟨y,f,d,t,a,v,ex,g,r⟩=>?_);subst ex;obtain rfl:u=Db a:=rx;exact⟨zdw d g,ę p d g t λB z k c=>⟨v,f,k,c,r⟩⟩
end
def nZ(h:Heap)(a:ff<h.objs.size):Uj P w H (h.push { cls:=Wh "dict",data:=.dict #[] }) h.objs.size$ ϛ []:=
 ⟨Bh _,Od.mpr$ Cd$ Aa a,[],Ϣ,cQ h⟩
def Š(h:Heap)(a:ff<h.objs.size):Uj P w H (h.push { cls:=Wh "dict",data:=.dict #[] }) h.objs.size$ .dT []:=
 ⟨Bh _,Od.mpr$ Cd$ Aa a,[],Ϣ,_,#[],0,Ea _ rfl,⟨rfl,rfl,rfl⟩,rfl,rfl,Lz⟩
def Ζ:TE:=λa H Q=>∀ p,H p=ŋ->Q (ϖ p) (Qa H p$ ϛ [])
def K0:TE:=λa H Q=>∀ p,H p=ŋ->Q (ϖ p) (Qa H p$ .dT [])
section
variable{pos:Dd}
def zY:PE X (.Dict [] [] pos) Ζ:=λb s c H Q I h=>
 YG ⟨ϖ s.heap.objs.size,_,I.laid (a:=s.heap.objs.size) (o:=ϛ []) (t':=s.toks) (λb b q=>ga _ q) (va _)$ nZ s.heap I.mH,rfl,h _$ I.pc.fresh$ va _⟩
def zow:PE X (.Dict [] [] pos) K0:=λb s c H Q I h=>
 YG ⟨ϖ s.heap.objs.size,_,I.laid (a:=s.heap.objs.size) (o:=.dT []) (t':=s.toks) (λb b q=>ga _ q) (va _)$ Š s.heap I.mH,rfl,h _$ I.pc.fresh$ va _⟩
end
section
variable{pins:List$ Addr × Obj}{σ:St}{H:Hp}{s:Shared}{a:Addr}{kvs:List$ jc × V}{A:Ia}{E:Value->Shared->Prop}
def zku(I:gb X pins σ H s)(e:Rd H a$ ϛ kvs)(h:∀ p g,H p=ŋ->gb X pins σ (Qa H p$ ϛ kvs) g->Q (Db p) g):wpAny (model X.prog X.w) A (call (Wh "dict") [Db a]) Q E s:=by
 obtain⟨z,hd,k,c,i⟩:=Ht I.pc e;refine kt_call_dict hd i (by rw[<-c.length];exact z) λh' d j=>?_;refine h _ _ (I.pc.fresh$ va _)$ I.laid (a:=s.heap.objs.size) (o:=ϛ kvs) (t':=s.toks) (λb q f=>?_) (va _)$ pF z (Od.mpr$ Cd$ Aa I.mH) c d;exact(j.2 b$ Aa$ wa f).trans$ ga _ f
end
end L2
namespace Lake
open Spec L2
noncomputable def mr:D->Option jc
 | U i=>W1 (.inl i)
 | ϒ x=>W1 (.inr x)
 |_=>ŋ
noncomputable def Rf(b:Da):D->Option (List$ jc × D)
 | Ϩ ks xs=>if ks.length=xs.length then W1 (ks.zip xs)else ŋ
 | O n=>(match b[n]? with
  |some (ύ a)=>W1 a
  |some (ϣ a)=>W1 a
  |_=>ŋ)
 |_=>ŋ
noncomputable def Qn(a:List$ jc × D)(k:jc):Option D:=(a.find? λb=>decide$ b.1=k).map (·.2)
noncomputable def Df(a:List$ jc × D)(k:jc)(d:D):List$ jc × D:=
 if a.any (λb=>decide$ b.1=k)then a.map λb=>if b.1=k then (b.1,d)else b else a++[(k,d)]
section
variable{μ:ac}{H:Hp}
def bA(h:Ha T μ H y v)(e:mr y=W1 k):v=kV k:=by
 cases y<;>cases e<;>rw[Ha]at h<;>exact h
theorem qG:∀ {ks:List jc} {ds:gV} {a:List$ jc × V},a.map (·.1)=ks->xb T μ H ds (a.map (·.2))->Jg T μ H (ks.zip ds) a
 |ks,[],a,c,b=>by
  rw[xb]at b;have:a=[]:=by simpa using b
  subst this;rw[<-c];exact Ϣ
 |ks,d::ds,a,c,b=>by
  obtain⟨v,r,e,f,g⟩:=b;cases a with
  |nil=>cases e
  |cons p a=>
   cases e;rw[<-c];exact ϟ ⟨rfl,f⟩$ qG rfl g
def Uy(r:Qc T μ H i)(h:Ha T μ H x v)(e:Rf i x=W1 f):∃ a b,v=ϖ a/\Rd H a (ϛ b)/\Jg T μ H f b:=by
 cases x with
 |za ks xs=>
  obtain⟨a,b,rfl,_,c,d,j⟩:=h;unfold Rf at e;dsimp only at e;split at e
  ·cases e;exact⟨a,b,rfl,c,qG d j⟩
  ·cases e
 |ref n=>
  unfold Rf at e;dsimp only at e;cases q:i[n]? with
  |none=>simp_all
  |some o=>
   rw[q]at e;cases o with
   |za g=>
    cases e;obtain⟨a,rfl,_,b,c,d⟩:=r.at h q;exact⟨a,b,rfl,ϔ c,d⟩
   |Ub g=>
    cases e;obtain⟨a,rfl,_,ob,b,c,d⟩:=r.at h q;exact⟨a,b,rfl,ϕ ⟨ob,c⟩,d⟩
   |_=>cases e
 |_=>cases e
def sE(h:Jg T μ H a c) k:(Qn a k=ŋ/\dm c k=ŋ)\/∃ d v,Qn a k=W1 d/\dm c k=W1 v/\Ha T μ H d v:=by
 induction h with
 |nil=>exact ϔ ⟨rfl,rfl⟩
 |@cons p q ps l h t j=>
  obtain⟨g,i⟩:=h;by_cases e:p.1=k
  ·have b:=g.symm.trans e;exact ϕ ⟨p.2,q.2,by unfold Qn;rw[yc,ib e];rfl,CG b,i⟩
  ·have b:=λz=>e$ g.trans z;have f:Qn (p::ps) k=Qn ps k:=by unfold Qn;rw[yc,pb e]
   rw[f,BE b];exact j
def Ū(h:Jg T μ H a c) k:(a.any λb=>decide$ b.1=k)=(c.any λb=>decide$ b.1=k):=by
 induction h with
 |nil=>rfl
 |@cons p q ps e h t d=>simp_all
theorem VQ{d e:Type}{F:d->e->Prop}{f:d->d}{g:e->e}(c:∀ a b,F a b->F (f a) (g b)):∀ {l:List d} {m:List e},Paired F l m->Paired F (l.map f) (m.map g)
 |_,_,Ϣ=>Ϣ
 |_,_,ϟ h t=>ϟ (c _ _ h) (VQ c t)
theorem nY{d e:Type}{F:d->e->Prop}{a:d}{b:e}(c:F a b):∀ {l:List d} {m:List e},Paired F l m->Paired F (l++[a]) (m++[b])
 |_,_,Ϣ=>ϟ c Ϣ
 |_,_,ϟ h t=>ϟ h (nY c t)
def IM(h:Jg T μ H a b) k(hd:Ha T μ H d v):Jg T μ H (Df a k d)$ Pj b k v:=by
 unfold Df Pj;rw[Ū h k];split
 ·refine VQ (λp q h=>?_) h;by_cases e:p.1=k;all_goals simp_all
 ·exact nY ⟨rfl,hd⟩ h
def Jg.mono(e:Wc μ H b c)(h:Jg T μ H a d):Jg T b c a d:=Paired.qp h λf f z=>⟨z.1,Ha.mono e _ _ z.2⟩
def _root_.L2.aj.kr(e:Rd H a$ ϛ b):aj H a (kV k)$ dm b k:=ϔ ⟨b,k,e,rfl,rfl⟩
def zj(x y:D):M D:=λb=>match mr y with
 |some k=>(match Rf b x with
  |some a=>(match Qn a k with
   |some d=>J d b
   |none=>Ϙ)
  |none=>Ϙ)
 |none=>Ϙ
def VP(Z:X.A.units+9<cLine)(F:FE T X o p)(E:FE T X i fi)(K:IL i):FE T X (ϡ o i g)$ Eb zj p fi:=by
 intro c s st H Q I h;refine Ç ⋯ F E K c s st H Q I ?_;obtain⟨μ,ρ,σ,q,ό,G⟩:=h;refine⟨μ,ρ,σ,q,ό,G.bind λx m l v W D t R ϋ N=>⟨l,ρ,m,q.mono t,R,N.bind λy n V u Y D z r P b=>?_⟩⟩;unfold zj at b;cases f:mr y with
 |none=>rw[f]at b;exact b.elim
 |some k=>
  rw[f]at b;cases e:Rf n x with
  |none=>rw[e]at b;exact b.elim
  |some L=>
   rw[e]at b;dsimp only at b;obtain⟨a,vs,rfl,B,C⟩:=Uy r (Ha.mono z _ _ ϋ) e;obtain rfl:=bA P f;rcases sE C k with⟨j,_⟩|⟨d,w,j,S,ϊ⟩
   ·rw[j]at b;exact b.elim
   ·rw[j]at b;exact⟨a,w,rfl,by rw[<-S];exact aj.kr B,Rb.here b r ϊ⟩
noncomputable def vM:R2:=λy x H Q=>∃ a o,x=ϖ a/\aj H a y o/\Q (Ϭ o.isSome) H
def RJ(e:X.A.units+9<cLine):Ph X (Nb .In) vM:=by
 rintro b s i H y x f u Q I d rx ⟨a,o,rfl,g,q⟩;obtain rfl:u=Db a:=rx;exact X0 ⋯ I g d λh c=>⟨Ϭ o.isSome,H,c,rfl,q⟩
def Gn(y x:D):M D:=λb=>match mr y with
 |some k=>(match Rf b x with
  |some a=>J (Ϗ (Qn a k).isSome) b
  |none=>Ϙ)
 |none=>Ϙ
theorem FX:yk T vM Gn:=by
 intro E μ H σ y x u v Q r q p h;unfold Gn at h;cases c:mr y with
 |none=>rw[c]at h;exact h.elim
 |some k=>
  rw[c]at h;cases b:Rf σ x with
  |none=>rw[b]at h;exact h.elim
  |some j=>
   rw[b]at h;obtain⟨a,l,rfl,g,i⟩:=Uy r p b;obtain rfl:=bA q c;refine⟨a,dm l k,rfl,aj.kr g,Rb.here h r ?_⟩;rcases sE i k with⟨e,f⟩|⟨d,w,e,f,m⟩
   ·rw[e,f];rfl
   ·rw[e,f];rfl
noncomputable def v4:EH:=λx y v H Q=>∃ a b,x=ϖ a/\oz H a y v b/\Q b
def LQ(k:X.A.units+9<cLine):GN X v4:=by
 rintro b s st H o i v e l u Q I h f j ⟨a,c,rfl,g,q⟩;obtain rfl:e=Db a:=h;exact Ĩ ⋯ I g f j λm d=>⟨c,d,q⟩
def Im(ρ:Ev)(d x:D)(y:D):M Fl:=λσ=>match x with
 | O n=>(match mr y with
  |some k=>(match σ[n]? with
   |some (ύ a)=>if a.length<Yf then J (ϙ ρ) (σ.set n$ ύ$ Df a k d)else Ϙ
   |_=>Ϙ)
  |none=>Ϙ)
 |_=>Ϙ
def EL(ρ:Ev)(a:Ev->M D)(d x:D):M Fl:=xs ρ (a ρ)$ Im ρ d x
def FP(ρ:Ev)(b a:Ev->M D)(d:D):M Fl:=xs ρ (b ρ)$ EL ρ a d
def Zq(f c b:Ev->M D):Ev->M Fl:=λa=>xs a (f a)$ FP a c b
def HL(hu:X.A.units+9<cLine)(Z:FE T X e f)(ho:FE T X o Q)(hi:FE T X i fi)
  (Y:∀ v,xi (ϡ o i b) X.env v=(do
   let t <-Ld [v] (Ib o X.env);let F <-Ld [v,t] (Ib i X.env)
   Ig b
   Ld [v,t,F] (cq t F v)
   fE [v,t,F] []):=by intro _;rfl)
  (hs:(yi [ϡ o i b] e p.line X.env=pure į)⁻¹) (hw:(zi [ϡ o i b] e X.env=pure ŋ)⁻¹)
  (W:((Ad [ϡ o i b] X.env).map (·.2)=[xi (ϡ o i b) X.env])⁻¹):FS T X (ϻ [ϡ o i b] e p)$ Zq f Q fi:=by
 intro m s st H D I hq;refine LI Z (uK ho hi (LQ hu) Y) hs hw W m s st H D I ?_;obtain⟨μ,ρ,σ,g,hr,hp⟩:=hq;refine⟨μ,ρ,σ,g,hr,hp.xs g λd L ό v H1 d h r1 q1 p1=>⟨ό,ρ,L,g.mono h,r1,p1.xs (g.mono h) λx N K vo H2 d r r2 q2 p2=>⟨K,ρ,N,(g.mono h).mono r,r2,p2.xs ((g.mono h).mono r) λy ϋ q vi P d u ϊ q3 c=>?_⟩⟩⟩;have hx:=Ha.mono u _ _ q2;unfold Im at c;cases x with
 |ref n=>
  dsimp only at c;cases w:mr y with
  |none=>rw[w]at c;exact c.elim
  |some k=>
   rw[w]at c;cases B:ϋ[n]? with
   |none=>rw[B]at c;exact c.elim
   |some ob=>
    rw[B]at c;cases ob with
    |za l=>
     dsimp only at c;by_cases E:l.length<Yf
     ·rw[ja E]at c;obtain⟨a,rfl,S,V,R,C⟩:=ϊ.at hx B;obtain rfl:=bA q3 w;have G:=ϊ.write (ob:=ύ _) S ⟨_,rf,by
       have ex:Wc q P q$ Qa P a$ ϛ$ Pj V k v:=Xr (ya S) R (λd z=>by cases z) (λd d z=>by cases z);exact IM (Jg.mono ex C) k$ Ha.mono ex _ _$ Ha.mono u _ _$ Ha.mono r _ _ q1⟩
      have j:V.length=l.length:=by unfold Jg at C;exact(Paired.length C).symm
      exact⟨a,_,rfl,oz.k R (by rw[j];exact Ma E ⋯),c _ (Ϻ st) _ G.1 G.2$ ((g.mono h).mono r).mono u |>.mono G.1⟩
     ·rw[ra E]at c;exact c.elim
    |_=>exact c.elim
 |_=>exact c.elim
noncomputable def yq:Ev->M D:=λb a=>J (O a.length)$ a++[ύ []]
def ĵ:FE T X (.Dict [] [] b) yq:=by
 rintro a s f H Q I ⟨μ,h,i,g,d,e⟩;exact zY a s f H Q I λp c=>(e _ _ _ (Du c) (d.push c ⟨[],rf,Ϣ⟩)$ dC d)
def WU:FE T X (.Dict [] [] c)$ eC$ Ϩ [] []:=by
 rintro a s h H Q I ⟨μ,j,k,i,d,g⟩;exact zY a s h H Q I λp b=>(g μ _ _ (lj b) (d.fresh b)$ by rw[Ha];exact⟨p,[],rfl,λf=>(by obtain⟨u,e,_⟩:=d.mem f;rw[b]at e;cases e),(ϔ rf),rfl,xb.nil⟩)
def qO:em->Hp->VK->Prop:=λxs H Q=>∃ a b,xs=[ϖ a]/\Rd H a (ϛ b)/\∀ p,H p=ŋ->Q (ϖ p) (Qa H p$ ϛ b)
def fV:xn X (Wh "dict") qO:=by
 rintro b s h H xs i Q I r ⟨a,f,rfl,e,q⟩;obtain⟨u,rfl,rfl⟩:=Nt r;exact zku I e λp g d c=>⟨ϖ p,_,c,rfl,q p d⟩
def WB(c:gV):M D:=λb=>match c with
 |[x]=>(match Rf b x with
  |some a=>J (Ϩ (a.map (·.1)) (a.map (·.2))) b
  |none=>Ϙ)
 |_=>Ϙ
theorem oV:∀ {a:List$ jc × D} {b:List$ jc × V},Jg T μ H a b->b.map (·.1)=a.map (·.1)/\xb T μ H (a.map (·.2)) (b.map (·.2)):=by
 intro _ _ h;induction h with
 |nil=>exact⟨rfl,xb.nil⟩
 |cons h _ i=>exact⟨by rw[db,db,i.1,h.1],xb.cons h.2 i.2⟩
def ŭ:pr T qO WB:=by
 intro E μ H o e s Q r p h
 match e with
 |[]=>trivial
 |[x]=>
  unfold WB at h;dsimp only at h;cases c:Rf o x with
  |none=>rw[c]at h;exact h.elim
  |some j=>
   rw[c]at h;obtain⟨v,q,rfl,k,rfl⟩:=p;obtain⟨a,ws,rfl,f,g⟩:=Uy r k c;refine⟨a,ws,rfl,f,λl b=>?_⟩;obtain⟨m,n⟩:=oV g;exact h μ _ _ (lj b) (r.fresh b) (by rw[Ha];exact⟨l,ws,rfl,λi=>(by obtain⟨u,d,_⟩:=r.mem i;rw[b]at d;cases d),(ϔ rf),m,xb.mono (lj b) _ _ n⟩)
 |_::_::_=>trivial
end
structure InK(K:ϗ)(C:Addr):Prop where
 cl:L2.Iq K C
 a:W.findIn K (Db C) "__class__" = W1 (W1 (Ϟ "object.__class__"))
 n:W.specialIn K (Ϟ "object.__class__") "__get__" = W1 (W1 (Ϟ "getset_descriptor.__get__"))
 t:W.takesIn K (Ϟ "object.__class__")=W1 š
 m:W.mroIn K C (Wh "object")=W1 š
def j7(K:ϗ)(c:Addr):em->Hp->VK->Prop:=λxs H Q=>∃ a C d e b,xs=[ϖ a,ϖ c]/\H a=W1 (.ub C d e)/\InK K C/\Ϫ K (Db C) (Db c)=W1 b/\Q (Ϭ b) H
def zke:xn X (Ϟ "isinstance")$ j7 X.K cv:=by
 rintro c s i H xs j Q I r ⟨a,C,g,h,b,rfl,d,Z,e,q⟩;obtain⟨u,u2,rfl,f,rfl⟩:=CI r;exact EQ I f (.ub d Z.cl Z.a Z.n Z.t Z.m) e λtk=>⟨Ϭ b,H,I.tok _,rfl,q⟩
def CF(t:Nat->Option Bool)(x:D):M D:=λa=>match qi a x with
 |some (c,_)=>(match t c with|some b=>J (Ϗ b) a|none=>Ϙ)
 |none=>Ϙ
def MH(K:ϗ)(a:Nat->Addr)(b:Addr)(l:List$ Nat × Bool):Prop:=∀ p∈l,InK K (a p.1)/\Ϫ K (Db$ a p.1) (Db b)=W1 p.2
def g8{K}:MH K a b []:=λc h=>nomatch h
def Aw{K}(z:InK K$ a c)(h:Ϫ K (Db$ a c) (Db d)=W1 b)(r:MH K a d l):MH K a d$ (c,b)::l:=λp e=>by
 rcases La.mp e with rfl|e
 ·exact⟨z,h⟩
 ·exact r p e
def N7(hK:T.K=X.K)(F:FE T X e f)(G:Gl X "isinstance")(ό:X.mg "isinstance" = ŋ)(q:Gl X y)(o:(y == ("__debug__" : Str))=į)(E:X.mg y=W1 (Db g))
  (ϋ:MH X.K T.ca g l)
  (u:(na [e,Ϝ y k] X.env=(į,Ib e X.env)::na [Ϝ y k] X.env)⁻¹) (r:((Zb j$ na [Ϝ y k] X.env).any (·.1)=į)⁻¹) :
  FE T X (Ϡ (Ϝ "isinstance" p) [e,Ϝ y k] [] j)$ Pc (CF$ mF l) f:=by
 intro i s R H Q I h;refine rG (zke (cv:=g)) G ό cK (qq F (qq (rH (v:=ϖ g) q E rfl o) Tu) u) ⋯ ⋯ u r i s R H Q I ?_;obtain⟨W,Z,σ,C,N,L⟩:=h;refine⟨W,Z,σ,C,N,L.bind λx t Y v H1 D e1 w P d=>?_⟩;unfold CF at d;cases m:qi t x with
 |none=>rw[m]at d;exact d.elim
 |some z=>
  obtain⟨c,fs⟩:=z;rw[m]at d;dsimp only at d;cases n:mF l c with
  |none=>rw[n]at d;exact d.elim
  |some b=>
   rw[n]at d;obtain⟨a,A,S,rfl,B,_⟩:=Gy w P m;obtain⟨ϊ,V⟩:=ϋ _ (kW n);exact⟨a,T.ca c,A,S,b,rfl,B,ϊ,V,Rb.here d w (by rw[Ha])⟩
def zw5(h:qi a x=W1 (c,d))(e:mF l c=W1 b):CF (mF l) x a=J (Ϗ b) a:=by
 unfold CF;rw[h];dsimp only;rw[e]
noncomputable def NB(o:Int->Int->Int)(i:Nat)(ρ:Ev)(x d:D):M Fl:=λσ=>match x,d with
 | U a,U b=>J (ϙ$ ρ.set i$ W1$ U$ o a b) σ
 |_,_=>Ϙ
def bw(o:Int->Int->Int)(i:Nat)(f:Ev->M D):Ev->M Fl:=λa=>match a[i]? with
 |some (W1 x)=>xs a (f a) (NB o i a x)
 |_=>λb=>Ϙ
def dM(h:a[i]?=W1 (W1 x)):bw o i f a b=zk a (NB o i a x) (f a b):=by
 unfold bw;rw[h];exact Bl ..
@[simp] theorem zro o i c a b d:NB o i c (U a) (U b) d=J (ϙ$ c.set i$ W1$ U$ o a b) d:=nr rfl
section
variable{e:Fa}{f:Ev->M D}{pos:Dd}
def aS(C:qK X n$ jT o)(w:X.N.Nodup)(B:X.N[i]?=W1 x)(G:Loc X.env.scope x)(z:FE T X e f)(A:X.fn x=š\/X.env.scope.names.lookup x=W1 .local:=by first|exact .inl rfl|exact .inr rfl|assumption) :
  FS T X (.AugAssign (Ϝ x j) n e pos)$ bw o i f:=by
 intro h s st H D I F;refine Ţ w B G z C A h s st H D I ?_;obtain⟨L,p,ϋ,l,E,c⟩:=F;unfold bw at c;cases k:p[i]? with
 |none=>rw[k]at c;exact c.elim
 |some q=>
  cases q with
  |none=>rw[k]at c;exact c.elim
  |some d=>
   rw[k]at c;obtain⟨v,t,u⟩:=l.2 i d k;refine⟨v,t,L,p,ϋ,l,E,c.xs l λy P M R Q J r K ό m=>?_⟩;cases d with
   |int a=>
    cases y with
    |int b=>
     subst u ό;exact⟨a,b,rfl,rfl,Rb.here (g:=Ϻ _) m K$ (l.mono r).set i (by rw[Ha])⟩
    |_=>exact m.elim
   |_=>exact m.elim
end
def IA(o:D->gV->M D)(m:M$ gV)(x:D):M D:=λa=>match Rf a x with
 |some _=>rc m (o x) a
 |none=>Ϙ
def NI(o:D->gV->M D)(f:Ev->M D)(b:Ev->M (gV)):Ev->M D:=λa=>rc (f a)$ IA o$ b a
def zV:V->em->Hp->VK->Prop:=λx c H Q=>∃ a b k d,x=ϖ a/\c=[kV k,d]/\H a=W1 (ϛ b)/\b.length<sizeLine/\
 (∀ v,dm b k=W1 v->Q v H)/\(dm b k=ŋ->Q d (Qa H a$ ϛ$ Pj b k d))
def WA(x:D)(xs:gV):M D:=λb=>match x,xs with
 | O n,[y,d]=>(match mr y with
  |some k=>(match b[n]? with
   |some (ύ a)=>if a.length<Yf then (match Qn a k with
    |some e=>J e b
    |none=>J d (b.set n$ ύ$ Df a k d))else Ϙ
   |_=>Ϙ)
  |none=>Ϙ)
 |_,_=>Ϙ
section
variable{o e:Fa}{es:List Fa}{f:Ev->M D}{fs:Ev->M (gV)}{name:Str}{apos cpos:Dd}{id:String}{r:V->em->Hp->VK->Prop}{g:D->gV->M D}
def K5:Lx X "dict.setdefault" zV:=by
 rintro j s st H x K v ό Q I rx E ⟨a,b,k,d,rfl,rfl,i,G,n,o⟩;cases rx;obtain⟨u,r,rfl,D,l⟩:=E.two;obtain⟨z,hd,m,c,h⟩:=qH I.pc i;have C:m.length<=sizeLine:=by rw[<-c.length];exact z
 have g:(Pj b k d).length<=sizeLine:=by have:=NG b k d;lia
 refine Sm nl h.typeIs PySem.F.entry_dict_setdefault (PySem.F.args_dict_setdefault_3 _ _ _) (kt_meets_setdefault _ a (cz D) hd r) ⟨m,h,C,λw B=>?_,λt h' f A=>?_⟩
 ·have q:=c.val k;rw[B]at q;cases e:dm b k with
  |none=>rw[e]at q;exact absurd q (by simp[Po])
  |some x=>rw[e]at q;exact⟨x,H,I.tok _,q,n x e⟩
 ·have q:=c.val k;rw[t]at q;cases e:dm b k with
  |some x=>rw[e]at q;exact absurd q (by simp[Po])
  |none=>
   have p:∃ q,h'.get? a=W1 q:=let ⟨q,_,_,y,_⟩:=f;⟨q,y⟩;exact⟨d,_,zE I (by rw[i];exact ϵ) A p$ pF g hd (c.put k l) f,l,o e⟩
def vY(I:gb X b h H s)(g:Rd H p$ ϛ c):s.TypeIs (Db p) "dict"/\∀ a,Db p=Db a->∃ d,s.heap.get? a=W1 d/\d.dict=ŋ:=by
 obtain⟨_,_,_,_,o,_,_,e,ex,_⟩:=Ht I.pc g;refine⟨⟨o,e,ex.1⟩,λa f=>?_⟩;cases f;exact⟨o,e,ex.2.1⟩
def Z4(r:V->em->Hp->VK->Prop)(d:TE):TE:=λe H Q=>d e H λx c=>(∃ a b,x=ϖ a/\Rd c a (ϛ b))/\r x [] c Q
def Q0(r:V->em->Hp->VK->Prop)(f:TE)(t:TA):TE:=λd H Q=>f d H λx c=>(∃ a b,x=ϖ a/\Rd c a (ϛ b))/\t d c λxs e=>r x xs e Q
def DO(t:qm "dict")(e:mQ "dict" name id)(f:HB (Ϟ id)=pure (Wh "method_descriptor"))(n:Lx X id r)(p:PE X o i)
  (c:(Lc o name X.env (Ib o X.env)=Ib o X.env)⁻¹) (d:((apos.endLine == cpos.line)=š)⁻¹):PE X (Ϡ (ϝ o name apos) [] [] cpos)$ Z4 r i:=by
 intro b s j H Q I h;refine wpAny_Call_method0_late c d (Zc (p b s j H _ I h) λv s1 ſ=>?_);obtain⟨x,H1,g,w,ty,u⟩:=ſ;obtain⟨a,q,rfl,m⟩:=ty;cases w;obtain⟨k,l⟩:=vY g m;exact⟨"dict",id,t,e,f,k,l,Vh rfl$ PySem.evalArgs_none$ n b s1 j H1 (ϖ a) [] (Db a) [] Q g rfl Ϣ u⟩
def i5(E:qm "dict")(g:mQ "dict" name id)(j:HB (Ϟ id)=pure (Wh "method_descriptor"))(A:Lx X id r)(B:PE X o n)(y:PA X (e::es) t)
  (c:(Lc o name X.env (Ib o X.env)=Ib o X.env)⁻¹)
  (f:(((Zb cpos$ na (e::es) X.env).all (λx=>!x.1) && (Ng cpos$ Me [] X.env).all (λx=>x.1.isSome)
   && decide ((e::es).length+([]:List kj).length+(if ([]:List kj).isEmpty then 0 else 1)<30))=š)⁻¹)
  (d:((apos.endLine == cpos.line)=š)⁻¹) (C:(na (e::es) X.env=(į,Ib e X.env)::na es X.env)⁻¹) (i:((Zb cpos$ na es X.env).any (·.1)=į)⁻¹) :
  PE X (Ϡ (ϝ o name apos) (e::es) [] cpos)$ Q0 r n t:=by
 intro b s k H Q I h;refine mv c f d rfl (Zc (B b s k H _ I h) λv s1 ſ=>?_);obtain⟨x,H1,l,ό,ty,F⟩:=ſ;obtain⟨a,D,rfl,z⟩:=ty;cases ό;obtain⟨u,w⟩:=vY l z;refine⟨"dict",id,E,g,j,u,w,?_⟩;have m:=y cpos b s1 k H1 _ l F;rw[C]at m ⊢;exact Vh ⋯$ Oq (Zc m λus s2 ⟨L,p,q,K,G⟩=>A b s2 k p (ϖ a) L _ us Q q rfl K G)
def vS(R:qm "dict")(l:mQ "dict" name id)(q:HB (Ϟ id)=pure (Wh "method_descriptor"))(K:Lx X id r)(ϋ:OC T r g)(L:FE T X o f)(ό:FA T X (e::es) fs)
  (c:(Lc o name X.env (Ib o X.env)=Ib o X.env)⁻¹)
  (i:(((Zb cpos$ na (e::es) X.env).all (λx=>!x.1) && (Ng cpos$ Me [] X.env).all (λx=>x.1.isSome)
   && decide ((e::es).length+([]:List kj).length+(if ([]:List kj).isEmpty then 0 else 1)<30))=š)⁻¹)
  (d:((apos.endLine == cpos.line)=š)⁻¹) (p:(na (e::es) X.env=(į,Ib e X.env)::na es X.env)⁻¹) (b:((Zb cpos$ na es X.env).any (·.1)=į)⁻¹) :
  FE T X (Ϡ (ϝ o name apos) (e::es) [] cpos)$ NI g f fs:=by
 intro j s V H Q I h;refine i5 R l q K L ό c i d p b j s V H Q I ?_;obtain⟨Y,B,Z,y,N,M⟩:=h;refine⟨Y,B,Z,y,N,M.bind λx m t v H1 J E A z k=>?_⟩;unfold IA at k;cases n:Rf m x with
 |none=>rw[n]at k;exact k.elim
 |some xs=>
  rw[n]at k;obtain⟨a,W,rfl,G,h2⟩:=Uy A z n;exact⟨⟨a,W,rfl,G⟩,t,B,m,y.mono E,A,k.bind λD w u ws C J F ϊ P S=>(ϋ _ u C w x D _ ws Q ϊ (Ha.mono F _ _ z) P S)⟩
def z8:OC T zV WA:=by
 intro E G H M x xs v N Q r p q h;cases x with
 |ref n=>
  match xs with
  |[]=>exact h.elim
  |[_]=>exact h.elim
  |[y,d]=>
   obtain⟨w,z,rfl,ό,K⟩:=q;obtain⟨D,f,rfl,B,C⟩:=K;rw[xb]at C;subst C;unfold WA at h;cases m:mr y with
   |none=>simp[m]at h;exact h.elim
   |some k=>
    simp[m]at h;cases b:M[n]? with
    |none=>simp[b]at h;exact h.elim
    |some ob=>
     cases ob with
     |za j=>
      simp[b]at h;by_cases o:j.length<Yf
      ·rw[ja o]at h;obtain⟨a,rfl,A,s,u,g⟩:=r.at p b;obtain rfl:=bA ό m;have i:s.length=j.length:=by unfold Jg at g;exact(Paired.length g).symm
       refine⟨a,s,k,D,rfl,rfl,u,by rw[i];exact XY o,λv e=>?_,λe=>?_⟩
       ·rcases sE g k with⟨l,f⟩|⟨I,L,l,f,F⟩
        ·rw[f]at e;cases e
        ·rw[f]at e;cases e;rw[l]at h;exact Rb.here h r F
       ·rcases sE g k with⟨l,f⟩|⟨I,L,l,f,F⟩
        ·rw[l]at h;have t:=r.write (ob:=ύ _) A ⟨_,rf,by
          have ex:Wc G H G$ Qa H a$ ϛ$ Pj s k D:=Xr (ya A) u (λJ z=>by cases z) (λJ J z=>by cases z);exact IM (Jg.mono ex g) k$ Ha.mono ex _ _ B⟩
         exact h _ _ _ t.1 t.2$ Ha.mono t.1 _ _ B
        ·rw[f]at e;cases e
      ·rw[ra o]at h;exact h.elim
     |qa ϋ=>simp[b]at h;exact h.elim
     |ub c fs=>simp[b]at h;exact h.elim
     |Ub _=>simp only[b]at h;exact h.elim
     |Ie _=>simp only[b]at h;exact h.elim
  |_::_::_::_=>exact h.elim
 |_=>exact h.elim
end
def Ov(a:Da)(x:D):gV->Option (List Bool)
 |[]=>W1 []
 |y::c=>match bp a 7 y x,Ov a x c with
  |some b,W1 bs=>W1 (b::bs)
  |_,_=>ŋ
def nC(a:Bool)(x y:D):M D:=λb=>match jl b y with
 |some xs=>(match Ov b x xs with
  |some bs=>J (Ϗ$ if a then !(bs.any id)else bs.any id) b
  |none=>Ϙ)
 |none=>Ϙ
theorem WX{σ:Da}{x:D}:∀ {xs:gV} {bs:List Bool},Ov σ x xs=W1 bs->bs.length=xs.length/\∀ (j:Nat) (d:D) (b:Bool),xs[j]?=W1 d->bs[j]?=W1 b->bp σ 7 d x=W1 b
 |[],bs,h=>by cases h;exact⟨rfl,λj d b h=>by simp at h⟩
 |y::i,bs,h=>by
  unfold Ov at h;cases e:bp σ 7 y x with
  |none=>simp_all
  |some k=>
   cases a:Ov σ x i with
   |none=>simp_all
   |some c=>
    rw[e,a]at h;cases h;obtain⟨f,g⟩:=WX a;refine⟨by simp[f],λj d b hd l=>?_⟩;cases j with
    |zero=>simp_all
    |succ j=>exact g j d b (by trivial) (by trivial)
open Classical in
def ZB(a:b')(b:List Bool)(u:Value):Bool:=decide$ ∃ j:Nat,a[j]?=W1 u/\b[j]?=W1 š
def OI:ZB a b u=š ↔ ∃ j:Nat,a[j]?=W1 u/\b[j]?=W1 š:=by unfold ZB;exact @decide_eq_true_iff _$ Classical.propDecidable _
def PX{a:b'}(k:c.length=a.length):a.toArray.any (ZB a c)=c.any id:=by
 rw[show a.toArray.any _=a.any (ZB a c) by simp,qg,Ye,Ye];constructor
 ·rintro ⟨u,_,i⟩;obtain⟨j,_,h⟩:=OI.mp i;exact⟨š,ya h,rfl⟩
 ·rintro ⟨b,d,g⟩;cases (g);obtain⟨j,f,h⟩:=dt d;have e:j<a.length:=by lia
  exact⟨a[j],Kl e,OI.mpr ⟨j,by simp,by simp[f,h]⟩⟩
def V6(m:c.length=a.length)(h:∀ (j:Nat) u b,a[j]?=W1 u->c[j]?=W1 b->Dc A s u x b) w(k:w∈a):Dc A s w x$ ZB a c w:=by
 cases e:ZB a c w with
 |true=>obtain⟨j,f,g⟩:=OI.mp e;exact h j w š f g
 |false=>
  obtain⟨j,d,rfl⟩:=dt k;have i:j<c.length:=by lia
  have l:c[j]=į:=by
   cases q:c[j]with
   |false=>rfl
   |true=>exact absurd (OI.mpr ⟨j,Xc d,by rw[Xc i,q]⟩) ⋯
  exact h j _ į (Xc d) ⋯
def Ā(ό:T.K=X.K)(ϊ:X.A.units+9<cLine){st}(I:gb X m st H s)(r:Qc T B H σ)(M:Ha T B H x v)(N:Ha T B H y u)(P:Rc v n)(ϋ:Rc u t)
  {xs} (e:jl σ y=W1 xs) (G:Ov σ x xs=W1 h) :
  (Q (Dj$ h.any id) s->wpAny (model X.prog X.w) X.A (Nb .In n t) Q X.xe s)/\(Q (Dj$ !h.any id) s->wpAny (model X.prog X.w) X.A (Nb .NotIn n t) Q X.xe s):=by
 obtain⟨p,S,rfl,C,f⟩:=iA r N e;rw[ό]at f;obtain⟨W,L⟩:=WX G;cases ϋ;have l:∀ {a:b'},ke S a->(h.length=a.length/\∀ w∈a,Dc X.A.in1 s w n _):=fun {a} q=>by
  have l1:=C.length;have l2:=q.length;have g:h.length=a.length:=by lia
  refine⟨g,V6 g λj w b c o=>?_⟩;obtain⟨z,E,R⟩:=DJ q c;obtain⟨d,F,rd⟩:=lO C E;exact BI I r 7 X.A.in1 d x z v w n b ⋯ rd M R P$ L j d b F o
 rcases f with f|f
 ·obtain⟨a,q,pl,_⟩:=L2.gb.list I f;obtain⟨g,k⟩:=l q;refine⟨λi=>Jw _ pl.isList (λw c=>k w (by simpa using c)) ?_,λi=>SeqAt.notIn_listAt _ pl.isList (λw c=>k w ⋯) ?_⟩<;>rw[PX g]<;>exact i
 ·obtain⟨a,q,pl,_⟩:=L2.gb.tuple I f;obtain⟨g,k⟩:=l q;refine⟨λi=>jv _ pl (λw c=>k w (by simpa using c)) ?_,λi=>SeqAt.notIn_tupleAt _ pl (λw c=>k w ⋯) ?_⟩<;>rw[PX g]<;>exact i
def DT(f:T.K=X.K)(g:X.A.units+9<cLine):Ph X (Nb .In)$ rD T$ nC į:=by
 rintro c s st H v u m l Q I k j ⟨E,n,d,x,y,r,h,i,a⟩;unfold nC at a;cases e:jl d y with
 |none=>rw[e]at a;exact a.elim
 |some xs=>
  rw[e]at a;dsimp only at a;cases b:Ov d x xs with
  |none=>rw[b]at a;exact a.elim
  |some bs=>
   rw[b]at a;exact(Ā f g I r h i k j e b).1 ⟨Ϭ _,H,I,rfl,Rb.here a r (by rw[Ha];rfl)⟩
def Û{xs}(e:jl b y=W1 xs)(d:Ov b x xs=W1 c):nC a x y b=J (Ϗ$ if a then !(c.any id)else c.any id) b:=by unfold nC;rw[e];dsimp only;rw[d]
noncomputable def OS:Ev->M D:=λa a=>Ϙ
noncomputable def km:Ev->M Fl:=λa a=>Ϙ
def z7:FE T X e OS:=λpins s st H Q I ⟨b,c,σ,_,_,a⟩=>a.elim
section
variable{pins:List$ Addr × Obj}{σ:St}{H:Hp}{s:Shared}{h':Heap}
def kF(e:H b=W1 u)(n:H a=ŋ):b≠a:=λz=>by rw[z,n]at e;cases e
def _root_.L2.gb.Uu{a:ac}(I:gb X pins σ H s)(k:∀ b u,b ∉ a->s.heap.get? b=W1 u->h'.get? b=W1 u)(h:∀ b∈a,Wk X pins H b)(j:s.heap.objs.size<=p)(i:Uj X.prog X.w (Qa H p o) h' p o) :
  gb X pins σ (Qa H p o) { s with heap:=h',toks:=t' }:=by
 have f:=I.pc.fresh j;have E:∀ b u,H b=W1 u->b ∉ a:=λb u e z=>by rw[(h b z).1]at e;cases e
 refine I.step (λb g=>?_) (λb o m m d e m=>k b o d e) (λb o m m d e m=>⟨o.slots,k b o d e⟩) (λb u m q n=>by rw[Xd$ Aa$ Ma (wa q) j];exact n)
  (λb o d e=>⟨o,k b o d e⟩) (λb xs q=>by rw[Xd$ kF q f];exact q) (λb u xs q=>by rw[Xd$ kF q f];exact q) (λb ps q=>⟨#[],by rw[Xd$ kF q f,q];simp⟩) (λm C=>?_) (λb u e=>?_) I.bare
 ·obtain⟨F,x,G,y,A,B⟩:=h b g;exact⟨y,x,A,B⟩
 ·obtain⟨o,t,l,D,r⟩:=C;exact⟨o,t,l,k _ o (λz=>(h _ z).2.1 rfl) D,r⟩
 ·by_cases g:b=p
  ·subst g;rw[rf]at e;cases e;exact i
  ·rw[Xd g]at e;refine(I.pc b u e).Rj (λc v d q=>k c v ?_ q) (λc q=>by rw[Xd$ kF q f];exact q) λc xs q=>by rw[Xd$ kF q f];exact q
   grind
def _root_.L2.gb.fu{a:ac}(I:gb X pins σ H s)(k:∀ b u,b ∉ a->s.heap.get? b=W1 u->h'.get? b=W1 u)(f:∀ b∈a,Wk X pins H b):gb X pins σ H { s with heap:=h',toks:=t' }:=by
 have y:∀ b u,H b=W1 u->b ∉ a:=λb u e z=>by rw[(f b z).1]at e;cases e
 refine I.step (λb t=>?_) (λb o m m d e m=>k b o d e) (λb o m m d e m=>⟨o.slots,k b o d e⟩) (λb u m q n=>n)
  (λb o d e=>⟨o,k b o d e⟩) (λb xs q=>q) (λb u xs q=>q) (λb ps q=>⟨#[],by rw[q];simp⟩) (λm w=>?_) (λb u e=>?_) I.bare
 ·obtain⟨A,i,B,j,l,p⟩:=f b t;exact⟨j,i,l,p⟩
 ·obtain⟨o,h,g,x,r⟩:=w;exact⟨o,h,g,k _ o (λz=>(f _ z).2.1 rfl) x,r⟩
 ·refine(I.pc b u e).Rj (λc v d q=>k c v ?_ q) (λm q=>q) λm m q=>q
  grind
end
def oo{h:Heap}(e:h.get? a=W1 o)(i:h.get? b=W1 f)(c:o.cls=Wh n)(g:f.cls=Wh d)(j:n≠d):a≠b:=λz=>by
 simp_all
def xS(K:ϗ)(l:Addr):It:=
 ⟨λi H=>∃ xs x,Xe K H l xs/\xs[i]?=W1 x,λi H v a=>∃ p x,H p=ŋ/\v=ϖ p/\(∀ xs,Xe K H l xs->xs[i]?=W1 x)/\a=Qa H p (.Sa [ϥ i,x]),λi H=>∃ xs,Xe K H l xs/\i=xs.length⟩
def XQ(K:ϗ)(l m:Addr):It:=
 ⟨λi H=>∃ xs a x y,Xe K H l xs/\Xe K H m a/\xs[i]?=W1 x/\a[i]?=W1 y,λi H v b=>∃ p x y,H p=ŋ/\v=ϖ p/\(∀ xs,Xe K H l xs->xs[i]?=W1 x)/\(∀ a,Xe K H m a->a[i]?=W1 y)/\b=Qa H p (.Sa [x,y]),
  λi H=>∃ xs a,Xe K H l xs/\Xe K H m a/\i=min xs.length a.length⟩
def j8{P:xa}{w:Na}{K:PySem.W.Frag}{j:List Fa}{kk:Nat}{F:Dd}(l e r:Addr):Jm P w K (ϳ j kk F) (xS K l) [e,r] e (λi h=>(∃ a,IsEnum h e r i a)/\h.IsListIter r l i) where
 mem:=by simp
 obj:=λi h st b f=>by
  obtain⟨⟨a,s1⟩,o,s2,c,d⟩:=st;simp only[La,Wf,Wt]at f;rcases f with rfl|rfl;all_goals grind
 keep:=λi h h' st k=>by
  obtain⟨⟨a,s1⟩,s2⟩:=st;exact⟨⟨a,k e ⋯ _ s1⟩,s2.at λo q=>k r ⋯ o q⟩
 item:=by
  intro X ϋ V N S i D s σ H E I ό st ϊ;subst ϋ V N;obtain⟨xs,x,L,Y⟩:=ϊ;obtain⟨g,rv,p,hz⟩:=I.list L;obtain⟨u,hu,ru⟩:=rv.get Y;obtain⟨⟨a,s1⟩,s2⟩:=st;obtain⟨oa,ea,ca,_⟩:=id p.isList;obtain⟨ob,G,cb,_⟩:=id s2;have a0:l≠e:=oo ea s1 ca rfl ⋯;have a1:l≠r:=oo ea G ca cb ⋯;have Z:e≠r:=oo s1 G rfl cb ⋯;have W:=WalksT.enumerate (prog:=X.prog) (w:=X.w) (I.ok.hd S) e r l Z a0 a1 g.toArray;have hi:i<g.toArray.size:=by
   have:=(aa.mp hu).1;omega
  refine W.item i s _ E hi ⟨⟨a,s1⟩,s2,p.isList⟩ λT a2 h' tk R hT v m hk=>?_;obtain⟨t,y,M,rfl⟩:=R;have ey:y=u:=by
   have:g.toArray[i]?=W1 u:=by simpa using hu
   rw[this]at M;cases M;rfl
  subst ey;refine⟨Db T,rfl,W.go j kk F i T { s with heap:=h',toks:=tk } _ E m λh2 hS C=>?_⟩;have B:=W.apart i T h' m;have n:h2.IsTuple T #[Mh i t,y]:=by
   obtain⟨o,e1,c1⟩:=v;exact⟨o,C T o B e1,c1⟩
  have hn:H T=ŋ:=I.pc.fresh hT;refine⟨ϖ T,Qa H T _,I.Uu (λb o f q=>C b o f$ hk b o f q) ό hT ?_,rfl,⟨T,x,hn,rfl,λys M=>by rw[I.xj M L];exact Y,rfl⟩,⟨hS.1,hS.2.1⟩,λb f=>?_⟩
  ·exact⟨(show 2<=sizeLine by decide),[Mh i t,y],ϟ ⟨t,rfl⟩$ ϟ ru Ϣ,n⟩
  ·rw[Xd (λz=>B (by rw[<-z];exact f))];exact(ό b f).1
 done:=by
  intro X ϋ V N S i D s σ H E I ό st ϊ;subst ϋ V N;obtain⟨xs,L,Y⟩:=ϊ;obtain⟨g,rv,p,hz⟩:=I.list L;obtain⟨⟨a,s1⟩,s2⟩:=st;have hl:=rv.length;exact wpAny_pyNext_enum_end (I.ok.hd S) s1 s2 p.isList (by simp;lia) λh' G=>⟨rfl,I.fu (λb o f q=>G b o (λz=>f (by simp[z])) q) ό⟩
 self:=λA i s Q E st h=>by
  obtain⟨⟨a,s1⟩,s2⟩:=st;exact YD s1 h
def sW{l m z TI TO r s}{xs C}(t:TI≠TO)(u:r≠s)(x:h.IsList l xs)(y:h.IsList m C)(s1:IsZip h z TI TO f)(s2:oQ h TI a b)(k:oQ h TO c d)(A:h.IsListIter r l v)(B:h.IsListIter s m w):ZipApart z TI TO r s l m:=by
 obtain⟨D,p,n,_⟩:=x;obtain⟨E,q,o,_⟩:=y;obtain⟨F,i,e,_⟩:=A;obtain⟨G,j,g,_⟩:=B;exact⟨oo s2 s1 rfl rfl ⋯,oo k s1 rfl rfl ⋯,oo i s1 e rfl ⋯,oo j s1 g rfl ⋯,t,oo s2 i rfl e ⋯,oo s2 j rfl g ⋯,oo k i rfl e ⋯,oo k j rfl g ⋯,u,
  oo p s1 n rfl ⋯,oo p k n rfl ⋯,oo p i n e ⋯,oo p j n g ⋯,oo q s1 o rfl ⋯,oo q k o rfl ⋯,oo q i o e ⋯,oo q j o g ⋯⟩
def zqt{P:xa}{w:Na}{K:PySem.W.Frag}{D:List Fa}{kk:Nat}{a0:Dd}(l m z TI TO g j:Addr)(d1:TI≠TO)(d2:g≠j) :
  Jm P w K (ϳ D kk a0) (XQ K l m) [z,TI,TO,g,j] z (λi h=>IsZip h z TI TO Yb/\oQ h TI (Db g) (Db j)/\(∃ a b,oQ h TO a b)/\h.IsListIter g l i/\h.IsListIter j m i) where
 mem:=by simp
 obj:=λi h st b e=>by
  obtain⟨s1,s2,⟨a,c,n⟩,⟨o4,r,c4,d4⟩,⟨o5,t,c5,d5⟩⟩:=st;simp at e;rcases e with rfl|rfl|rfl|rfl|rfl
  ·exact⟨_,s1,λv z=>by cases z⟩
  ·exact⟨_,s2,λv z=>by cases z⟩
  ·exact⟨_,n,λv z=>by cases z⟩
  ·exact⟨o4,r,λv z=>by rw[d4]at z;cases z⟩
  ·exact⟨o5,t,λv z=>by rw[d5]at z;cases z⟩
 keep:=λi h h' st k=>by
  obtain⟨s1,s2,⟨a,c,n⟩,r,t⟩:=st;exact⟨k z ⋯ _ s1,k TI ⋯ _ s2,⟨a,c,k TO ⋯ _ n⟩,r.at λo q=>k g ⋯ o q,t.at λo q=>k j ⋯ o q⟩
 item:=by
  intro X hP hw hK hc i Z s σ H E I hf st hg;subst hP hw hK;obtain⟨xs,ys,x,y,hq,B,hx,hy⟩:=hg;obtain⟨f,rv,p,V⟩:=I.list hq;obtain⟨d,ό,Y,a2⟩:=I.list B;obtain⟨u,hu,ru⟩:=rv.get hx;obtain⟨u2,R,a4⟩:=ό.get hy;obtain⟨s1,s2,⟨a,c,n⟩,r,t⟩:=st;have W:=CB (prog:=X.prog) (w:=X.w) (I.ok.hd hc) z TI TO g j l m (sW d1 d2 p.isList Y.isList s1 s2 n r t) f.toArray d.toArray;have hi:i<min f.toArray.size d.toArray.size:=by
   have h1:=(aa.mp hu).1;have h2:=(aa.mp R).1;simp;lia
  refine W.item i s _ E hi ⟨s1,s2,⟨a,c,n⟩,r,t,p.isList,Y.isList⟩ λT a5 h' tk a1 hT M F hk=>?_;obtain⟨v1,v2,S,ϊ,rfl⟩:=a1;have e1:v1=u:=by
   have:f.toArray[i]?=W1 u:=by simpa using hu
   rw[this]at S;cases S;rfl
  have e2:v2=u2:=by
   have:d.toArray[i]?=W1 u2:=by simpa using R
   rw[this]at ϊ;cases ϊ;rfl
  subst e1;subst e2;refine⟨Db T,rfl,W.go D kk a0 i T { s with heap:=h',toks:=tk } _ E F λh2 L N=>?_⟩;have G:h2.IsTuple T #[v1,v2]:=by
   obtain⟨o,e1,c1⟩:=M;exact⟨o,N T o (W.apart i T h' F) e1,c1⟩
  have hn:H T=ŋ:=I.pc.fresh hT;have C:∀ b,b ∉ [z,TI,TO,g,j]->b ∉ [z,TO,g,j]:=λb e ϋ=>e (by simp at ϋ ⊢;rcases ϋ with h|h|h|h<;>simp[h]);have a3:∀ b∈[z,TI,TO,g,j],b<s.heap.objs.size:=λb e=>by
   simp at e;rcases e with rfl|rfl|rfl|rfl|rfl
   ·exact wa s1
   ·exact wa s2
   ·exact wa n
   ·obtain⟨o,q,_⟩:=r;exact wa q
   ·obtain⟨o,q,_⟩:=t;exact wa q
  refine⟨ϖ T,Qa H T _,I.Uu (λb o e q=>N b o (C b e)$ hk b o (C b e) q) hf hT ?_,rfl,⟨T,x,y,hn,rfl,λzs V=>by rw[I.xj V hq];exact hx,λzs V=>by rw[I.xj V B];exact hy,rfl⟩,⟨L.1,L.2.1,L.2.2.1,L.2.2.2.1,L.2.2.2.2.1⟩,λb e=>?_⟩
  ·exact⟨(show (2:Nat)<=sizeLine by decide),[v1,v2],ϟ ru$ ϟ a4 Ϣ,G⟩
  ·rw[Xd$ Aa$ Ma (a3 b e) hT];exact(hf b e).1
 done:=by
  intro X hP hw hK hc i Z s σ H E I hf st hg;subst hP hw hK;obtain⟨xs,ys,hq,B,hx⟩:=hg;obtain⟨f,rv,p,V⟩:=I.list hq;obtain⟨d,ό,Y,a2⟩:=I.list B;obtain⟨s1,s2,⟨a,c,n⟩,r,t⟩:=st;have hl:=rv.length;have a6:=ό.length;have ei:i=min f.toArray.size d.toArray.size:=by simp;lia
  subst ei;have C:∀ b,b ∉ [z,TI,TO,g,j]->b ∉ [z,TO,g,j]:=λb e ϋ=>e (by simp at ϋ ⊢;rcases ϋ with h|h|h|h<;>simp[h]);exact(CB (prog:=X.prog) (w:=X.w) (A:=X.A) (I.ok.hd hc) z TI TO g j l m (sW d1 d2 p.isList Y.isList s1 s2 n r t) f.toArray d.toArray).done s _ E ⟨s1,s2,⟨a,c,n⟩,r,t,p.isList,Y.isList⟩ λh' tk hk=>⟨rfl,I.fu (t':=tk) (λb o e q=>hk b o (C b e) q) hf⟩
 self:=λA i s Q E st h=>ZG st.1 h
abbrev NX:=Nat->Da->Option (Option D)
def Jy(T:Tb)(c:ac)(f:Hp)(nx:NX)(ό:It):Prop:=∀ a H e i,Wc c f a H->Qc T a H e->match nx i e with
 |none=>True
 |some ŋ=>ό.stop i H
 |some (W1 d)=>ό.go i H/\∀ x b,ό.YB i H x b->Wc a H a b/\Qc T a b e/\Ha T a b d x
def M2(T:Tb)(X:Cx)(f:Ev->M NX):TI:=λb H R=>∃ a c d,Jh T a H c b/\Qc T a H d/\Rb T (XE X b) (Jy T) a H (f c d) R
abbrev jq(T:Tb)(X:Cx)(b a:Fa)(f:Ev->M NX):Prop:=PI X b a$ M2 T X f
def Do(nx:NX)(e:D->Ev->Option Ev)(a:Ev->M Fl):Nat->Nat->Ev->M Fl
 |0,_,_=>Jb
 |k+1,i,f=>λc=>match nx i c with
  |none=>Ϙ
  |some ŋ=>J (ϙ f) c
  |some (W1 d)=>match e d f with
   |none=>Ϙ
   |some b=>rc (a b) (lw$ Do nx e a k$ i+1) c
def zO(b:D->Ev->Option Ev)(a:Ev->M Fl)(c:Ev)(nx:NX):M Fl:=Do nx b a 1001 0 c
def Kk(b:Ev->M NX)(d:D->Ev->Option Ev)(a:Ev->M Fl):Ev->M Fl:=λc=>xs c (b c)$ zO d a c
section
variable{tgt iter:Fa}{body:List Stmt}{src:Ev->M NX}{t:D->Ev->Option Ev}{g:Ev->M Fl}{pos:Dd}
def qA(M:Go (model X.prog X.w) X.A X.env X.xe)(hc:X.Fd=š)(hi:jq T X tgt iter src)(hg:FG T X tgt t)(hb:im T X body g)
  (hs:∀ x,pe iter X.env x=pure x:=by intro _;rfl):FS T X (.For tgt iter body [] pos)$ Kk src t g:=by
 intro v s st H D I hq;refine eW M hc hi hg hb hs v s st H D I ?_;obtain⟨b,p,r,F,hr,M⟩:=hq;refine⟨b,p,r,F,hr,M.xs F λnx Q l ό S J Y r1 q1 p1=>?_⟩;refine⟨λi m j q=>∃ b p r,Wc l S b q/\Jh T b q p j/\Qc T b q r/\Rb T EN _ b q (Do nx t g m i p r) _,⟨1001,l,p,Q,Ϯ _ _,F.mono Y,r1,p1⟩,?_⟩;rintro i m j q ⟨n,z,c,ex,u,ϊ,a⟩;cases m with
 |zero=>exact a.elim
 |succ m=>
  unfold Do at a;have C:=q1 n q c i ex ϊ;cases E:nx i c with
  |none=>simp only[E]at a;exact a.elim
  |some o=>
   cases o with
   |none=>
    simp only[E]at a C;exact ϔ ⟨C,Rb.here (g:=Ϻ j) a ϊ u⟩
   |some d=>
    simp only[E]at a C;obtain⟨L,hy⟩:=C;refine ϕ ⟨L,λk e=>∃ b p r,Wc l S b e/\Jh T b e p k/\Qc T b e r/\Rb T EN _ b e _ (xt X D),λk e h=>⟨m,cc _,h⟩,λx e y=>?_⟩;obtain⟨f,V,hx⟩:=hy x e y;cases N:t d z with
    |none=>simp only[N]at a;exact a.elim
    |some B=>
     simp only[N]at a;exact⟨n,c,z,d,B,u.mono f,V,hx,N,λk G=>⟨n,B,c,G,V,(Rb.mono f a).bind λfl R ϋ gl H4 J Z W q4 p4=>FM W q4 p4 λP a0 K p5=>⟨ϋ,P,R,(ex.trans f).trans Z,K,W,p5⟩⟩⟩
end
def iq(a:D):NX:=λi b=>match wf b a with
 |some xs=>(match xs[i]? with
  |some x=>W1 (W1$ ϐ [U (i:Int),x])
  |none=>if i=xs.length then W1 ŋ else ŋ)
 |none=>ŋ
def WE(a b:D):NX:=λi d=>match wf d a with
 |some xs=>(match wf d b with
  |some c=>(match xs[i]? with
   |some x=>(match c[i]? with
    |some y=>W1 (W1$ ϐ [x,y])
    |none=>if i=min xs.length c.length then W1 ŋ else ŋ)
   |none=>if i=min xs.length c.length then W1 ŋ else ŋ)
  |none=>ŋ)
 |none=>ŋ
def jz(d:D):M NX:=λσ=>match wf σ d with
 |some _=>J (iq d) σ
 |none=>Ϙ
def Bx(f:Ev->M D):Ev->M NX:=λa=>rc (f a) jz
def WT(a b:D):M NX:=λc=>match wf c a with
 |some _=>(match wf c b with
  |some _=>J (WE a b) c
  |none=>Ϙ)
 |none=>Ϙ
def fZ(m:M D)(a:D):M NX:=rc m$ WT a
def gL(f g:Ev->M D):Ev->M NX:=λa=>rc (f a)$ fZ$ g a
section
variable{elts:List Fa}{kk:Nat}{p0 p pos:Dd}{f g:Ev->M D}
def W8:bootBuiltins "enumerate" = W1 (Wh "enumerate"):=by decide +kernel
def V9:bootBuiltins "zip" = W1 (Wh "zip"):=by decide +kernel
def f9(K:ϗ)(b:TA):TI:=λd H R=>b d H λc a=>∃ l xs,c=[ϖ l]/\Xe K a l xs/\R (xS K l) a
def S6(o:Gl X "enumerate")(t:X.mg "enumerate" = ŋ)(n:PA X [a] j)(v:(na [a] X.env=[(į,Ib a X.env)])⁻¹):PI X (ϳ elts kk p0) (Ϡ (Ϝ "enumerate" p) [a] [] pos)$ f9 X.K j:=by
 intro d s A H R I h;refine Call_$ Sy I o t W8$ Yc (Zc (n pos d s A H _ I h) λus s1 ſ=>?_) v rfl;obtain⟨E,H1,f,y,x⟩:=ſ;obtain⟨l,xs,e,u,q⟩:=x;subst e;cases y with
 |cons r z=>
  cases z;cases r;obtain⟨w,D,pl,C⟩:=f.list u;refine call_enumerate_list pl.isList λh' g k B m=>YD g ⟨s1.heap.objs.size+1,[s1.heap.objs.size+1,s1.heap.objs.size],_,_,H1,rfl,f.kept m,j8 l _ _,⟨⟨_,g⟩,k⟩,λb i=>?_,q⟩;have c:s1.heap.objs.size<=b:=by simp at i;rcases i with rfl|rfl<;>lia
  exact f.Km c$ f.pc.fresh c
def z9(N:Gl X "enumerate")(ϋ:X.mg "enumerate" = ŋ)(h:FE T X e f)(w:(na [e] X.env=[(į,Ib e X.env)])⁻¹):jq T X (ϳ elts kk p0) (Ϡ (Ϝ "enumerate" p) [e] [] pos)$ Bx f:=by
 intro k s st H R I S;refine S6 N ϋ (qq h Tu w) w k s st H R I ?_;obtain⟨V,ρ,σ,M,Q,P⟩:=S;refine⟨V,ρ,σ,M,Q,P.bind λd o W v H1 z e1 C B j=>?_⟩;unfold jz at j;cases m:wf o d with
 |none=>rw[m]at j;exact j.elim
 |some ds=>
  rw[m]at j;obtain⟨l,ϊ,rfl,ό,h2⟩:=C.ls B m;refine⟨l,ϊ,rfl,Xe.of ό,Rb.here j C λY E r i ex D=>?_⟩;unfold iq;cases n:wf r d with
  |none=>trivial
  |some xs=>
   obtain⟨l',ws,F,L,t⟩:=D.ls (Ha.mono ex _ _ B) n;cases F;have b:Xe X.K E l ws:=Xe.of L;dsimp only;cases G:xs[i]? with
   |none=>
    by_cases u:i=xs.length
    ·rw[ja u];exact⟨ws,b,by rw[u];exact t.length⟩
    simp_all
   |some d'=>
    obtain⟨x,A,rx⟩:=t.get G;refine⟨⟨ws,x,b,A⟩,λz Z y=>?_⟩;obtain⟨q,x',a,rfl,c,rfl⟩:=y;have g:=c ws b;rw[A]at g;cases g;exact⟨lj a,D.fresh a,⟨q,_,rfl,rf,xb.cons (by rw[Ha])$ xb.cons (Ha.mono (lj a) _ _ rx) xb.nil⟩⟩
def j6(K:ϗ)(b:TA):TI:=λe H R=>b e H λc a=>∃ l m xs d,c=[ϖ l,ϖ m]/\Xe K a l xs/\Xe K a m d/\R (XQ K l m) a
def P7(A:Gl X "zip")(B:X.mg "zip" = ŋ)(z:PA X [a,b] t)(ϋ:(na [a,b] X.env=[(į,Ib a X.env),(į,Ib b X.env)])⁻¹)(g:(na [b] X.env=[(į,Ib b X.env)])⁻¹):PI X (ϳ elts kk p0) (Ϡ (Ϝ "zip" p) [a,b] [] pos)$ j6 X.K t:=by
 intro e s M H R I h;refine Call_$ Sy I A B V9$ Yc (Zc (z pos e s M H _ I h) λus s1 ⟨S,H1,c,ό,F⟩=>?_) ⋯ (by rw[g];rfl);obtain⟨l,m,xs,T,rfl,C,f,q⟩:=F;cases ό with
 |cons r j=>
  cases j with
  |cons G j=>
   cases j;cases r;cases G;obtain⟨E,Q,pl,P⟩:=c.list C;obtain⟨o,L,i,D⟩:=c.list f;refine call_zip_2 pl.isList i.isList λh' k u v w x N y=>ZG k ⟨s1.heap.objs.size+4,[s1.heap.objs.size+4,s1.heap.objs.size+2,s1.heap.objs.size+3,s1.heap.objs.size,s1.heap.objs.size+1],_,_,H1,rfl,c.kept y,zqt l m (s1.heap.objs.size+4) _ _ s1.heap.objs.size (s1.heap.objs.size+1) (show (s1.heap.objs.size+2)≠s1.heap.objs.size+3 by omega) (show s1.heap.objs.size≠s1.heap.objs.size+1 by lia),⟨k,u,⟨_,_,v⟩,w,x⟩,λb n=>?_,q⟩;have d:s1.heap.objs.size<=b:=by simp at n;rcases n with rfl|rfl|rfl|rfl|rfl<;>lia
   exact c.Km d$ c.pc.fresh d
def Ũ(hg:Gl X "zip")(hm:X.mg "zip" = ŋ)(h:FE T X e f)(h':FE T X b g)(hs:(na [e,b] X.env=[(į,Ib e X.env),(į,Ib b X.env)])⁻¹)(w:(na [b] X.env=[(į,Ib b X.env)])⁻¹) :
  jq T X (ϳ elts kk p0) (Ϡ (Ϝ "zip" p) [e,b] [] pos)$ gL f g:=by
 intro C s st H R I hw;refine P7 hg hm (qq h (qq h' Tu w)$ by simp_all) hs w C s st H R I ?_;obtain⟨μ,ρ,σ,Y,hr,hp⟩:=hw;refine⟨μ,ρ,σ,Y,hr,hp.bind λd Q P v H1 z e1 r1 q1 p1=>⟨P,ρ,Q,Y.mono e1,r1,p1.bind λϊ F a2 v2 H2 z e2 N q2 n=>?_⟩⟩;unfold WT at n;cases L:wf F d with
 |none=>rw[L]at n;exact n.elim
 |some ds=>
  rw[L]at n;cases o:wf F ϊ with
  |none=>rw[o]at n;exact n.elim
  |some a1=>
   rw[o]at n;have D:=Ha.mono e2 _ _ q1;obtain⟨l,vs,rfl,h1,h2⟩:=N.ls D L;obtain⟨m,ws,rfl,h3,h4⟩:=N.ls q2 o;refine⟨l,m,vs,ws,rfl,Xe.of h1,Xe.of h3,Rb.here n N λa3 S G i ex ϋ=>?_⟩;unfold WE;cases fl:wf G d with
   |none=>trivial
   |some xs=>
    obtain⟨l',E,b,h5,V⟩:=ϋ.ls (Ha.mono ex _ _ D) fl;cases b;cases M:wf G ϊ with
    |none=>trivial
    |some ys=>
     obtain⟨m',a,b,h7,W⟩:=ϋ.ls (Ha.mono ex _ _ q2) M;cases b;have j:Xe X.K S l E:=Xe.of h5;have k:Xe X.K S m a:=Xe.of h7;have l1:=V.length;have l2:=W.length;dsimp only;cases ei:xs[i]? with
     |none=>
      by_cases u:i=min xs.length ys.length
      ·rw[ja u];exact⟨E,a,j,k,by rw[u,l1,l2]⟩
      simp_all
     |some d'=>
      cases ό:ys[i]? with
      |none=>
       by_cases u:i=min xs.length ys.length
       ·rw[ja u];exact⟨E,a,j,k,by rw[u,l1,l2]⟩
       all_goals simp_all
      |some a0=>
       obtain⟨x,Z,rx⟩:=V.get ei;obtain⟨y,hy,ry⟩:=W.get ό;refine⟨⟨E,a,x,y,j,k,Z,hy⟩,λz H' yy=>?_⟩;obtain⟨q,x',y',c,rfl,t,r,rfl⟩:=yy;have A:=t E j;rw[Z]at A;cases A;have B:=r a k;rw[hy]at B;cases B;exact⟨lj c,ϋ.fresh c,⟨q,_,rfl,rf,xb.cons (Ha.mono (lj c) _ _ rx)$ xb.cons (Ha.mono (lj c) _ _ ry) xb.nil⟩⟩
end
open PySem.Builtin.Str (occurrences partsBetween subAt)
end Lake
namespace Lake
open Spec L2
def oH(h:Ev)(c:Nat)(f:Str)(x:D)(a:Int)(y:D):M Fl:=λe=>match y with
 | U b=>(match x with
  | O n=>(match e[n]? with
   |some (ϓ g d)=>if (g == c && decide (d.length<1000))=š then J (ϙ h) (e.set n$ ϓ c$ Mg f (U$ a+b) d)else Ϙ
   |_=>Ϙ)
  |_=>Ϙ)
 |_=>Ϙ
def OA(b:Ev)(e:dl)(f:Str)(h:Ev->M D)(x:D):M Fl:=λd=>match qi d x with
 |some (c,g)=>if e.contains c=š then (match g.lookup f with
  |some (U a)=>xs b (h b) (oH b c f x a) d
  |_=>Ϙ)else Ϙ
 |none=>Ϙ
def EM(b:dl)(f:Str)(d c:Ev->M D):Ev->M Fl:=λa=>xs a (c a)$ OA a b f d
def VX{W V}(hK:T.K=X.K)(hc:xI T F f)(ho:FE T X o V)(hv:FE T X e W):FS T X (.AugAssign (ϝ o f v) .Add e N)$ EM F f W V:=by
 intro u s st H D I hq;refine Ġ ho hv m9 u s st H D I ?_;obtain⟨μ,ρ,σ,t,hr,hp⟩:=hq;refine⟨μ,ρ,σ,t,hr,hp.xs t λx C Q vo H1 J G r1 q1 d=>?_⟩;unfold OA at d;cases ό:qi C x with
 |none=>rw[ό]at d;exact d.elim
 |some p=>
  obtain⟨c,fs⟩:=p;rw[ό]at d;dsimp only at d;by_cases l:F.contains c=š
  ·rw[ja l]at d;obtain⟨a,dx,vs,rfl,h1,h2⟩:=Gy r1 q1 ό;cases L:fs.lookup f with
   |none=>rw[L]at d;exact d.elim
   |some y=>
    rw[L]at d;cases y with
    |int i=>
     obtain⟨w,h3,h4⟩:=(WC h2).1 _ L;obtain⟨Z,k2⟩:=hc c l;rw[hK]at Z k2;refine⟨a,_,dx,vs,w,rfl,h1,Z,k2,h3,Q,ρ,C,t.mono G,r1,d.xs (t.mono G) λz R B vz S J ϊ r2 q2 b=>?_⟩;unfold oH at b;cases z with
     |int j=>
      refine⟨i,j,jo h4,jo q2,?_⟩;have ϋ:=Ha.mono ϊ _ _ q1;cases x with
      |ref n=>
       dsimp only at b;cases k:R[n]? with
       |none=>rw[k]at b;exact b.elim
       |some ob=>
        rw[k]at b;cases ob with
        |qa _=>exact b.elim
        |za _=>exact b.elim
        |Ub _=>exact b.elim
        |Ie _=>exact b.elim
        |ub E m=>
         dsimp only at b;by_cases g:(E == c && decide (m.length<1000))=š
         ·rw[ja g]at b;rw[Ca,Bb,Xh]at g;obtain⟨rfl,hl⟩:=g;obtain⟨a',ea,Y,h,A,q,r⟩:=r2.at ϋ k;cases ea;have ex:Wc B S B$ Qa S a$ .ub (T.ca E) h$ En f (ϥ$ i+j) A:=Xr (ya Y) q (λJ z=>by cases z) (λJ J z=>by cases z);have P:=r2.write (ob:=ϓ E$ Mg f (U _) m) Y ⟨h,_,rf,gP (by rw[Ha])$ Ls.mono ex r⟩;exact⟨h,A,q,by rw[<-r.length];exact hl,b _ (Ϻ st) _ P.1 P.2$ (t.mono G).mono ϊ |>.mono P.1⟩
         ·rw[ra g]at b;exact b.elim
      |_=>exact b.elim
     |_=>exact b.elim
    |_=>exact d.elim
  ·rw[ra l]at d;exact d.elim
def Zo(y x:D):M D:=λb=>match mr y with
 |some k=>(match Rf b x with
  |some a=>J (Ϗ$ !(Qn a k).isSome) b
  |none=>Ϙ)
 |none=>Ϙ
noncomputable def rR:R2:=λy x H Q=>∃ a o,x=ϖ a/\aj H a y o/\Q (Ϭ$ !o.isSome) H
def wW(e:X.A.units+9<cLine):Ph X (Nb .NotIn) rR:=by
 rintro b s i H y x f u Q I d rx ⟨a,o,rfl,g,q⟩;obtain rfl:u=Db a:=rx;exact L8 ⋯ I g d λh c=>⟨Ϭ _,H,c,rfl,q⟩
theorem RT:yk T rR Zo:=by
 intro E n H σ y x u v Q r q p h;unfold Zo at h;cases c:mr y with
 |none=>rw[c]at h;exact h.elim
 |some k=>
  rw[c]at h;cases b:Rf σ x with
  |none=>rw[b]at h;exact h.elim
  |some j=>
   rw[b]at h;obtain⟨a,l,rfl,g,i⟩:=Uy r p b;obtain rfl:=bA q c;refine⟨a,dm l k,rfl,aj.kr g,Rb.here h r ?_⟩;rcases sE i k with⟨e,f⟩|⟨d,w,e,f,m⟩
   ·rw[e,f];rfl
   ·rw[e,f];rfl
def vt(T:Tb)(P:xa)(w:Na)(e:Str->Option Value)(a:Heap)(k:Nat)(f:Addr)(ps:ab)(c:b')(d:gV->M D):Prop:=
 ∃ b,wr T.K b ps []/\wr T.K b ps c/\oh P w T.K e a (Xk P w) k f b ps (ro T ps.length d)
structure vp(K:ϗ)(C:Addr)(x qual:Str)(st:Stmt)(ps:ab)(dv:b')(f:Addr):Prop where
 ex:∃ fd,(∃ (oc:Value) (od:Option Addr) (dV kV doc pm:Value) (an:Option Addr) (cdv ct:Value) (osl:Array (Option Value)),
  fd=ϯ x qual (ul st) (Fj st) (qf st) dV kV doc pm an cdv ct/\K.lookup f=W1 ⟨oc,od,.func fd,osl⟩/\W.codeIn K cdv qual=š)/\wr K fd ps []/\wr K fd ps dv
section
variable{P:xa}{w:Na}{K:ϗ}{mg:Str->Option Value}{base:Heap}{ca:Nat->Addr}{tx:Tx}
def qN{st}(h:vp K C x a st ps e f)(S:gc N ps$ qf st)
  (m:∀ b A c s H E,ud k (A.deeper$ dg a (qf st) s.heap.objs.size f b)->im ⟨K,ca,tx⟩ (Ap (Xk P w) P w K mg base N a (qf st) f b A c s H E) (Fj st) g) :
  vt ⟨K,ca,tx⟩ P w mg base (k+1) f ps e$ Xg N.length g:=by
 obtain⟨r,⟨oc,t,q,kV,l,pm,p,b,ct,o,rfl,n,d⟩,i,j⟩:=h.ex;exact⟨_,i,j,sD n d S$ m b⟩
def vt.qd(h:vt T P w mg base k f ps a b):vt T P w mg base k f ps a$ Lake.qd b:=by rw[Vp];exact h
def XN{st}{w h r}{kV e pm a ct}
  (v:∀ t kV e pm h a ct s o n g,s.heap.get? t=W1 o->o.data=ϩ i.toArray n->((g++[]).length=ps.length->Se s (ϯ x b (ul st) (Fj st) (qf st) (Db t) kV e pm h a ct) ⟨g,[]⟩ (ps.zip$ g++[]))/\
   ((g++i).length=ps.length->Se s (ϯ x b (ul st) (Fj st) (qf st) (Db t) kV e pm h a ct) ⟨g,[]⟩ (ps.zip$ g++i)))
  (l:K.lookup f=W1 ⟨oc,w,.func$ ϯ x b (ul st) (Fj st) (qf st) (Db t) kV e pm h a ct,j⟩)
  (c:W.codeIn K a b=š) (d:K.lookup t=W1 ⟨q,r,ϩ i.toArray p,u⟩):vp K C x b st ps i f:=
 ⟨⟨_,⟨oc,w,_,kV,e,pm,h,a,ct,j,rfl,l,c⟩,λs g k m=>(v t kV e pm h a ct s _ p g (k _ _ d) rfl).1 m,λs g k m=>(v t kV e pm h a ct s _ p g (k _ _ d) rfl).2 m⟩⟩
end
def cV{pl}(hK:T.K=X.K)(he:FE T X o f)(hC:Iq T.K$ T.ca c)(R:eu T.K (T.ca c) m fa)
  (h:vt T X.prog X.w X.mg X.base k fa ps dv p) (hr:ud k X.A) (ha:FA T X (e::n) ϋ)
  (Y:(na (e::n) X.env=(į,Ib e X.env)::na n X.env)⁻¹) (ϊ:((Zb b$ na n X.env).any (·.1)=į)⁻¹)
  (ht:(Ib (Ϡ (ϝ o m i) (e::n) [] b) X.env=(do
   let ov <-Ib o X.env
   Ig i.atName
   let (f,first) <-Ld [ov] (Dh ov m pl)
   dn b f first (Zb b$ na (e::n) X.env) (Ng b$ Me [] X.env)))⁻¹) :
  FE T X (Ϡ (ϝ o m i) (e::n) [] b)$ Zd [(c,p)] ps.length m f ϋ:=by
 rintro j s st H Q I ⟨μ,ρ,σ,hE,V,hp⟩;have P:=hE;refine Ui (Zc (he j s st H (λx t=>∃ a G l,x=ϖ a/\t a=W1 (.ub (T.ca c) G l)/\l.lookup m=ŋ/\tL T X ϋ st t λus L=>ro T ps.length p (x::(us++[])) L Q$ XE X st) I ⟨μ,ρ,σ,hE,V,hp.bind λd F a0 v t D e1 r1 q1 g=>?_⟩) λu s1 ⟨x,t,I1,rx,a,G,l,ex,ea,B,q⟩=>?_) ht
 ·unfold Ci at g;cases N:qi F d with
  |none=>rw[N]at g;exact g.elim
  |some z=>
   obtain⟨c',gs⟩:=z;rw[N]at g;dsimp only at g;by_cases C:c=c'
   ·subst C;have ό:cp [(c,p)] c=W1 p:=by unfold cp;rw[ja$ Ke c]
    cases B:gs.lookup m with
    |some y=>rw[ό,B]at g;exact g.elim
    |none=>
     rw[ό,B]at g;dsimp only at g;obtain⟨a,G,l,rfl,h1,h2⟩:=Gy r1 q1 N;refine⟨a,G,l,rfl,h1,(WC h2).2 B,a0,ρ,F,P.mono e1,r1,g.bind λds a2 a1 us L D e2 r2 Z E=>?_⟩;unfold Vg at E;by_cases S:ds.length+1=ps.length
     ·rw[ja S]at E;exact⟨a1,a2,d::ds,xb.cons (Ha.mono e2 _ _ q1) (by rw[be];exact Z),by rw[Ua];exact S,r2,E⟩
     ·rw[ra S]at E;exact E.elim
   ·have ό:cp [(c,p)] c'=ŋ:=by unfold cp;rw[ra (by simpa using C)];rfl
    rw[ό]at g;exact g.elim
 ·subst ex;obtain rfl:u=Db a:=rx;obtain⟨fd,hb,_,hF⟩:=h;rw[hK]at hC R hF hb;refine vP I1 ea hC R B ?_;refine gh I.ok.mod.gx R.kp (Zc (ha b j s1 st t _ I1 q) λus s2 ⟨l,L,I2,r,Z⟩=>⟨I2.Li,?_⟩) Y ϊ;exact yE (vs:=ϖ a::l) hF hr hb Ϣ I2 (ϟ rfl r) Z
noncomputable def Uz(a:dl)(b:Ev):Ev:=ŋ::ŋ::a.map λi=>(b[i]?).getD ŋ
noncomputable def zA(a:dl)(st:St):St:=ŋ::ŋ::a.map λi=>(st[i]?).getD ŋ
def Ą{st} a(h:Jh T b H ρ st):Jh T b H (Uz a ρ)$ zA a st:=by
 refine⟨by simp[Uz,zA],λi d e=>?_⟩;cases i with
 |zero=>cases e
 |succ j=>exact(PQ a h).2 j d e
section
variable{pins:List$ Addr × Obj}{st:St}{H:Hp}{s:Shared}{x z0:Str}{M':ab}{ix:dl}{scope:Scope}{fp:ac}
def zez(I:gb X pins st H s)(L:Sj X x M' ix scope)(g:∀ b∈fp,Wk X pins H b/\b<s.heap.objs.size)(K:h'.Ns s.heap.objs.size m)
  (D:∀ b o,s.heap.get? b=W1 o->h'.get? b=W1 o) :
  gb (Ko X (x::z0::M') scope (Ri X.env scope.names []) s.heap.objs.size s H fp) [] (zA ix st) H { s with heap:=h',toks:=t' }:=by
 have d:∀ n c,(Ri X.env scope.names []).lookup n=W1 c->X.env.cells.lookup n=W1 c:=λn c e=>sP X.env scope.names [] n c (λJ J q=>by simp at q) e;have t:H s.heap.objs.size=ŋ:=I.pc.fresh$ va _;refine⟨⟨I.ok.mod,L.kind,I.ok.glob,I.ok.blt,va _,λa b c A r=>I.ok.inj a b c (d a c A)$ d b c r,λa ha=>?_,λa c h=>(by cases h),I.ok.hd,I.ok.frames,ϔ rfl,λb w=>⟨Aa (g b w).2,λa c e=>?_⟩,λb o e=>I.bs b o e,zb I.ok.Jv I.sz,λb o e w=>?_,λb w z=>?_,I.stack,I.Hl⟩,
  rfl,I.bare,Un.kept D,⟨m,K,λi y v V F e3=>?_⟩,λa c e=>?_,t,λa c e=>I.uh a c$ d a c e,λp hp=>absurd (show p∈[]from hp) ⋯,I.pc.kept D,?_⟩
 ·
  have G:(scope.names.map λ(n,k)=>if (k == Ab && X.env.scope.kind == Ϥ && X.env.kindOf n == W1 lc)then (n,lc)else (n,k)).lookup a=W1 lc\/(scope.names.map λ(n,k)=>if (k == Ab && X.env.scope.kind == Ϥ && X.env.kindOf n == W1 lc)then (n,lc)else (n,k)).lookup a=W1 Ab:=ha;have S:scope.names.lookup a=W1 Ab:=by
   rcases G with z|z
   ·obtain⟨k0,A,r⟩:=UN z;rcases r with r|⟨r,_⟩
    ·subst r;exact absurd rfl$ rF L _$ zw A
    ·rw[r]at A;exact A
   ·obtain⟨k0,A,r⟩:=UN z;all_goals simp_all
  exact JF X.env scope.names [] a (zw S)$ iB I L _ (zw S) rfl
 ·exact(g b w).1.2.2.2.2.1 a c$ d a c e
 ·rcases(g b w).1.2.2.2.1 with z|z
  ·exact I.ok.ju b o e z
  ·exact absurd (Ma (wa e)$ zb I.ok.Jv z)$ Bd _
 ·rcases La.mp (I.vq b z)with q|q
  ·exact(g b w).1.2.1 q
  ·exact(g b w).1.2.2.1 q
 ·
  cases i with
  |zero=>simp[zA]at F
  |succ i=>
  cases i with
  |zero=>simp[zA]at F
  |succ j=>
   have E:M'[j]?=W1 y:=V;have f:(ix.map λi=>(st[i]?).getD ŋ)[j]?=W1 _:=F;rw[Ta]at f;cases R:ix[j]? with
   |none=>rw[R]at f;cases f
   |some C=>
    rw[R]at f;have P:(st[C]?).getD ŋ=W1 v:=Cb f;have W:st[C]?=W1 (W1 v):=by
     cases q:st[C]? with
     |none=>rw[q]at P;cases P
     |some o=>simp_all
    have Y:X.N[C]?=W1 y:=by
     have z:=eb (λl=>l[j]?) L.at_
     simp_all
    have q:=Xa.mp L.SS y$ ya E;simp only[Ca,ug]at q;have T:X.env.scope.names.lookup y=W1 lc\/X.env.scope.names.lookup y=W1 Ab:=by
     all_goals simp_all
    have ϋ:scope.names.lookup y=W1 Ab:=eq_of_beq q.2;obtain⟨m0,a0,ό⟩:=I.loc;obtain⟨u,ru,lu⟩:=ό C y v Y W (by rcases T with z|z;exact ϕ$ ϔ z;exact ϕ$ ϕ z);refine⟨u,ru,ϕ ⟨rX (env:=X.env) ϋ,?_⟩⟩;rcases lu with⟨z,_⟩|⟨_,c,Z,zc⟩
    ·rcases T with k|k
     ·rw[show X.env.kindOf y=X.env.scope.names.lookup y from rfl,k]at z;cases z
     ·rw[show X.env.kindOf y=X.env.scope.names.lookup y from rfl,k]at z;cases z
    ·obtain⟨ϊ,B⟩:=JF X.env scope.names [] y (zw ϋ) (iB I L _ (zw ϋ) rfl);have Q:=d y ϊ B;rw[Z]at Q;cases Q;obtain⟨o,M,hd⟩:=zc;exact⟨c,B,o,D _ _ M,hd⟩
 ·obtain⟨v,o,M,hd⟩:=I.cell a c (d a c e);exact⟨v,o,D _ _ M,hd⟩
 ·simp[zA,Ko];simpa using (eb List.length L.at_)
end
noncomputable def ww(l:dd):dd:=l.mergeSort λa b=>decide$ a<=b
def ez l:(ww l).Perm l:=List.mergeSort_perm l _
def fR l:(ww l).Pairwise (·<=·):=by
 have:=List.pairwise_mergeSort (le:=λa b:Int=>decide$ a<=b) (λa b c d e=>by simp at *;lia) (λa b=>by simp;lia) l;exact this.imp λh=>by simpa using h
theorem nN:∀ {l m:dd},l.Perm m->l.Pairwise (·<=·)->m.Pairwise (·<=·)->l=m
 |[],m,h,_,_=>by rw[List.nil_perm]at h;exact h.symm
 |a::l,[],h,_,_=>by have:=h.length_eq;simp at this
 |a::l,b::m,h,c,d=>by
  rw[List.pairwise_cons]at c d;have f:=h.subset ua;have g:=h.symm.subset ua;have e:a=b:=by
   rcases La.mp f with e|f
   ·exact e
   ·rcases La.mp g with e|g
    ·exact e.symm
    ·have:=c.1 b g;have:=d.1 a f;lia
  subst e;rw[nN (zaD h) c.2 d.2]
def uN(K:ϗ):em->Hp->VK->Prop:=λxs H Q=>∃ (p:Addr) (is:dd),xs=[ϖ p]/\Xe K H p (is.map ϥ)/\is.length<64/\∀ l,H l=ŋ->Q (ϖ l) (Qa H l$ ϰ$ (ww is).map ϥ)
def C7:xn X (Ϟ "sorted")$ uN X.K:=by
 rintro g s x H xs v Q I r ⟨p,d,rfl,n,c,q⟩;obtain⟨u,rfl,rfl⟩:=Nt r;obtain⟨f,h,pl,t⟩:=I.list n;have a:=h.length;rw[Ja]at a;refine sorted_ints pl.isList (GM h) ⋯ λb o i j k=>?_;obtain⟨e,m⟩:=sortedAll_at s.heap f b;have l:=nN (j.trans (ez d).symm) k$ fR d;subst l;exact⟨ϖ _,_,I.laid (λy y=>sortedAll_old) (Ch _) (show Uj X.prog X.w _ _ _ (ϰ _)from⟨by rw[Ja,((ez d).length_eq)];exact zb (zd c) ⋯,b.toList,e,OF i,by rw[Pi];exact m⟩),rfl,q _$ I.pc.fresh$ Ch _⟩
def VN(xs:gV):M D:=λa=>match xs with
 |[x]=>(match wf a x with
  |some b=>(match Hr b with
   |some is=>if is.length<64 then Ey ((ww is).map U) a else Ϙ
   |none=>Ϙ)
  |none=>Ϙ)
 |_=>Ϙ
theorem vL{b:ac}{H:Hp}:∀ a:dd,xb T b H (a.map U) (a.map ϥ)
 |[]=>xb.nil
 |i::a=>xb.cons (by rw[Ha]) (vL a)
def Ė(n:T.K=X.K):pr T (uN X.K) VN:=by
 intro E s H m xs q Q r p h
 match xs with
 |[]=>trivial
 |[x]=>
  obtain⟨v,w,rfl,j,d⟩:=p;rw[xb]at d;subst d;unfold VN at h;cases e:wf m x with
  |none=>simp[e]at h;exact h.elim
  |some k=>
   simp[e]at h;cases a:Hr k with
   |none=>simp[a]at h;exact h.elim
   |some is=>
    simp[a]at h;by_cases c:is.length<64
    ·rw[ja c]at h;obtain⟨b,o,rfl,f,g⟩:=r.ls j e;obtain rfl:=lE g a;exact⟨b,is,rfl,Xe.of f,c,λl i=>qD h r (vL _) i⟩
    ·rw[ra c]at h;exact h.elim
 |_::_::_=>cases h
def xu(c a:List$ jc × V):List$ jc × V:=a.foldl (λb d=>Pj b d.1 d.2) c
def DA(c a:List$ jc × D):List$ jc × D:=a.foldl (λb d=>Df b d.1 d.2) c
def ī:∀ {a} {d} {b} {e},KV a d->KV b e->KV (xu b a) (merged e d):=by
 intro a;induction a with
 |nil=>intro d b e c f;cases c;exact f
 |cons p a g=>
  intro d b e c f;cases c with
  |cons q c=>
   obtain⟨h,i⟩:=q;have:=g c$ f.put p.1 i;simpa [xu,merged,h]using this
def ś:∀ a b,(xu b a).length<=b.length+a.length:=by
 intro a;induction a with
 |nil=>intro b;simp[xu]
 |cons p a d=>
  intro b;have e:=d$ Pj b p.1 p.2;have f:=NG b p.1 p.2;have c:xu b (p::a)=xu _ a:=rfl;rw[c,Ua]
  lia
def nS:V->em->Hp->VK->Prop:=λx e H Q=>∃ a b d c,x=ϖ a/\e=[ϖ b]/\a≠b/\H a=W1 (ϛ d)/\Rd H b (ϛ c)/\d.length+c.length<=sizeLine/\Q .Sb (Qa H a$ ϛ$ xu d c)
def yfp:Lx X "dict.update" nS:=by
 intro p s G H x K v ό Q I rx A h;obtain⟨a,b,g,d,rfl,rfl,l,o,k,D,q⟩:=h;cases rx;obtain⟨u,rfl,rfl⟩:=Nt A;obtain⟨z,hd,ws,e,n⟩:=qH I.pc o;obtain⟨L,m,i,c,j⟩:=Ht I.pc k;have B:g.length=ws.length:=by unfold KV at e;exact Paired.length e
 have C:d.length=i.length:=by unfold KV at c;exact Paired.length c
 refine Sm Um n.typeIs PySem.F.entry_dict_update (PySem.F.args_dict_update_2 _ _) (meets_dict_update (Hj X.prog X.w) a b l m) ⟨ws,i,n,j,by lia,λh' f J y=>?_⟩;have r:∃ q,h'.get? a=W1 q:=let ⟨q,_,_,t,_⟩:=f;⟨q,t⟩;have E:=ś d g;exact⟨.Sb,_,zE I (by rw[o];exact ϵ) y r$ pF ⋯ hd (ī c e) f,rfl,q⟩
noncomputable def apart(n:Nat):D->Bool
 | O m=>!(m == n)
 |_=>š
def rA(x:D)(xs:gV):M D:=λb=>match x,xs with
 | O n,[y]=>(match b[n]? with
  |some (ύ a)=>(match Rf b y with
   |some more=>if (apart n y && decide (a.length+more.length<=Yf))=š then J Ϛ (b.set n$ ύ$ DA a more)else Ϙ
   |none=>Ϙ)
  |_=>Ϙ)
 |_,_=>Ϙ
def HR:∀ {a} {d} {b} {e},Jg T g H a d->Jg T g H b e->Jg T g H (DA b a) (xu e d):=by
 intro a;induction a with
 |nil=>intro d b e c f;unfold Jg at c;cases c;exact f
 |cons p a h=>
  intro d b e c f;cases c with
  |cons q c=>
   have:=h c$ IM f p.1 q.2;simpa [DA,xu,q.1]using this
def zz3:OC T nS rA:=by
 intro E D H F x xs v M Q r p q h;cases x with
 |ref n=>
  match xs with
  |[]=>exact h.elim
  |[y]=>
   obtain⟨w,z,rfl,s,B⟩:=q;rw[xb]at B;subst B;unfold rA at h;cases d:F[n]? with
   |none=>simp[d]at h;exact h.elim
   |some ob=>
    cases ob with
    |za g=>
     simp only[d]at h;cases i:Rf F y with
     |none=>simp[i]at h;exact h.elim
     |some more=>
      simp only[i]at h;by_cases f:(apart n y && decide (g.length+more.length<=Yf))=š
      ·rw[ja f]at h;simp[Ca,Bb]at f;obtain⟨a,rfl,j,t,u,k⟩:=r.at p d;obtain⟨b,ws,rfl,I,l⟩:=Uy r s i;have l1:t.length=g.length:=by unfold Jg at k;exact(Paired.length k).symm
       have l2:ws.length=more.length:=by unfold Jg at l;exact(Paired.length l).symm
       have o:a≠b:=by
        cases y with
        |ref m=>
         obtain⟨G,e,K⟩:=s;cases e;intro e;subst e;have:=f.1;simp[apart,(vI r.nd K j)]at this
        |za ks ds=>
         obtain⟨G,A,e,ό,_⟩:=s;cases e;intro e;subst e;exact ό$ ya j
        |_=>cases i
       refine⟨a,b,t,ws,rfl,rfl,o,u,I,by rw[l1,l2];exact zb f.2 ⋯,?_⟩;have C:=r.write (ob:=ύ _) j ⟨_,rf,by
        have ex:Wc D H D$ Qa H a$ ϛ$ xu t ws:=Xr (ya j) u (λJ z=>by cases z) (λJ J z=>by cases z);exact HR (Jg.mono ex l)$ Jg.mono ex k⟩
       exact h _ _ _ C.1 C.2 (by rw[Ha])
      ·rw[ra f]at h;exact h.elim
    |qa N=>simp only[d]at h;exact h.elim
    |ub c L=>simp[d]at h;exact h.elim
    |Ub _=>simp only[d]at h;exact h.elim
    |Ie _=>simp only[d]at h;exact h.elim
  |_::_::_=>exact h.elim
 |_=>exact h.elim
def eR:bootBuiltins "sorted" = W1 (Ϟ "sorted"):=by decide +kernel
theorem iY:∀ {ks:List jc} {a:b'},a.length=ks.length->(∀ (j:Nat) (v:Value) (k:jc),a[j]?=W1 v->ks[j]?=W1 k->Rc (kV k) v)->ke (ks.map kV) a
 |[],[],_,_=>Ϣ
 |[],_::_,h,_=>by simp at h
 |_::_,[],h,_=>by simp at h
 |k::ks,v::a,h,b=>ϟ (b 0 v k rfl rfl) (iY ⋯ λj v k c d=>b (j+1) v k c d)
def È(h:(Hj P w).is k v=š):Rc (kV k) v:=by
 rcases Aq h with⟨i,t,rfl,rfl⟩|⟨x,t,rfl,rfl⟩<;>exact⟨t,rfl⟩
theorem LS:∀ {a:List$ jc × V} {ws:List$ jc × Value},KV a ws->ws.map (·.1)=a.map (·.1)
 |[],_,h=>by cases h;rfl
 |p::a,_,h=>by
  cases h with
  |cons q h=>simp only[db];rw[LS h,q.1]
def Nv:jc->D
 | .inl i=>U i
 | .inr x=>ϒ x
end Lake
namespace Lake
open Spec Calls W PyProof.V
def K7
  (K:KdlSrc j w B r d n P u) (C:A.handled=ŋ) (m:u s.heap) (D:n<=sizeLine)
  (Mf:∀ h tk a,(∀ b o,s.heap.get? b=W1 o->h.get? b=W1 o)->s.heap.objs.size<=h.objs.size->dq P a n->R a.toList { s with heap:=h,toks:=tk }) :
  wpAny (model j w) A (collect$ Db r) R E s:=by
 have v:=K.there _ m;let S:Addr:=s.heap.objs.size;let Z:Ho->Shared->Prop:=λq t=>∃ (h:Heap) (tk:Nat) (a:Array Value) (c:Nat),q=.ok (.ret$ Db S)/\t={ s with heap:=h,toks:=tk }/\(∀ b o,s.heap.get? b=W1 o->h.get? b=W1 o)/\
  h.get? S=W1 { cls:=Wh "list",dict:=ŋ,data:=ϩ a c,slots:=#[] }/\dq P a n
 have i:∀ {h:Heap} {tk c:Nat} {a:Array Value},(∀ b o,s.heap.get? b=W1 o->h.get? b=W1 o)->h.get? S=W1 { cls:=Wh "list",dict:=ŋ,data:=ϩ a c,slots:=#[] }->dq P a n->R a.toList { s with heap:=h,toks:=tk }:=
  λl g k=>Mf _ _ _ l (zd$ wa g) k
 have p:(s.heap.push { cls:=Wh "list",data:=ϩ ([]:b').toArray }).get? S=W1 { cls:=Wh "list",data:=ϩ #[] }:=Ea _ rfl;have Xg:=kdl_extend (A:=A) (s:={ s with heap:=s.heap.push { cls:=Wh "list",data:=ϩ ([]:b').toArray } }) (R:=Z) K C (K.keep _ _ m λb F o e=>ga _ e) S (ee v.1) (ee v.2) (Db S) 0 p
  (λh tk a c l g k=>⟨h,tk,a,c,rfl,rfl,λb o e=>l b o (Aa$ wa e)$ ga _ e,g,k⟩) D
 refine ba$ Qq$ Fc vy$ ba$ Nc$ da ⟨Pd Ln _,Fc aH$ ic Xg (λf t x=>?_) (λe t x=>by obtain⟨_,_,_,_,z,_⟩:=x;cases z)⟩;cases f with
 |done f=>
  obtain⟨h,tk,a,c,e,rfl,l,g,k⟩:=x;cases e;exact ba$ om g$ da$ i l g k
 |again G=>
  refine⟨x.1,lf x.2 λq s2 y=>?_⟩;obtain⟨h,tk,a,c,rfl,rfl,l,g,k⟩:=y;exact ba$ om g$ da$ i l g k
end Lake
namespace Lake
open Spec L2
def wP:em->Hp->VK->Prop:=λxs H Q=>∃ (a:Addr) (b:List (jc × V)) (is:dd),xs=[ϖ a]/\Rd H a (ϛ b)/\b.map (·.1)=is.map Sum.inl/\is.length<64/\∀ l,H l=ŋ->Q (ϖ l) (Qa H l$ ϰ$ (ww is).map ϥ)
theorem xY:∀ {a:dd} {b:b'},ke ((a.map (Sum.inl:Int->jc)).map kV) b->Fk b a
 |[],_,h=>by cases h;exact .nil
 |i::a,_,h=>by
  cases h with
  |cons q h=>
   obtain⟨t,rfl⟩:=q;exact .cons i t$ xY h
def zg1(hc:X.Fd=š):xn X (Ϟ "sorted") wP:=by
 rintro P s σ H xs us Q I r ⟨a,g,n,rfl,Z,i,t,q⟩;obtain⟨u,rfl,rfl⟩:=Nt r;obtain⟨z,hd,p,D,ϊ⟩:=Ht I.pc Z;obtain⟨G,y⟩:=ϊ.dictAt;have ό:=LS D;have a4:p.length=g.length:=by have:=eb List.length ό;simpa using this
 have a0:g.length=n.length:=by have:=eb List.length i;simpa using this
 have L:p.length<=sizeLine:=by lia
 refine Mn kind_sorted plain_sorted entry_sorted (args_sorted1 _) ?_;unfold bi.«sorted»;refine ba (m:=checkCount "sorted" 1 1 _)$ da$ ba (K7 (A:=X.A.in1) (W.kdl_dict (knd:=Hj X.prog X.w) (kvs:=p) (ep:=G) hd) (I.ok.hd hc) y L λh' tk d N l c=>?_);have K:d.toList.length=p.length:=by rw[Wb];exact c.1
 have M:ke ((p.map (·.1)).map kV) d.toList:=iY (by rw[Ja];exact K) λj v k V E=>by
  obtain⟨k',x,hx,B⟩:=c.2 j v (by rw[<-Je];exact V);rw[Ta,hx]at E;cases E;exact È B
 rw[ό,i]at M;refine ba$ ft ?_ (by rw[K];exact L);have f:(h'.push _).get? h'.objs.size=W1 (rm "list" d.toList.toArray 0):=Ea _ rfl;refine ba$ Xb$ gd dQ ⟨_,f,rfl⟩ gK (eQ f (xY M) ⋯ λh C R S T=>⟨_,rfl,(da ⟨_,rfl,?_⟩)⟩)$ fQ _;have Y:C=ww n:=nN (S.trans (ez n).symm) T$ fR n;subst Y;obtain⟨e,he⟩:=NZ (out:=h) f;exact⟨ϖ h'.objs.size,_,I.laid (t':=tk) (λb o F=>by
  have ϋ:b<h'.objs.size:=wa$ N b o F;rw[gQ (Aa ϋ) (by rw[DB];exact Kc ϋ)];exact ga _$ N b o F) l (show Uj X.prog X.w _ _ _ (ϰ _)from⟨by rw[Ja,((ez n).length_eq)];exact zb (zd t) ⋯,h.toList,e,OF R,by rw[Pi];exact he⟩),rfl,q _$ I.pc.fresh l⟩
noncomputable def jw:List (jc × D)->Option (dd)
 |[]=>W1 []
 |(.inl i,_)::r=>(jw r).map (i::·)
 |_::_=>ŋ
theorem JU{c:ac}{H:Hp}:∀ {a:List$ jc × D} {us:List$ jc × V} {is:dd},Jg T c H a us->jw a=W1 is->us.map (·.1)=is.map Sum.inl
 |[],_,is,h,e=>by unfold Jg at h;cases h;cases e;rfl
 |(k,d)::a,_,is,h,e=>by
  cases h with
  |cons q h=>
   cases k with
   |inr x=>cases e
   |inl i=>
    unfold jw at e;cases b:jw a with
    |none=>simp_all
    |some f=>
     rw[b]at e;cases e;simp only[db];rw[JU h b,<-q.1]
def AG(xs:gV):M D:=λb=>match xs with
 |[x]=>(match Rf b x with
  |some a=>(match jw a with
   |some is=>if is.length<64 then Ey ((ww is).map U) b else Ϙ
   |none=>Ϙ)
  |none=>Ϙ)
 |_=>Ϙ
def K6:pr T wP AG:=by
 intro E q H n xs o Q r p h
 match xs with
 |[]=>trivial
 |[x]=>
  obtain⟨v,w,rfl,k,f⟩:=p;rw[xb]at f;subst f;unfold AG at h;cases e:Rf n x with
  |none=>simp only[e]at h;exact h.elim
  |some d=>
   simp only[e]at h;cases b:jw d with
   |none=>simp[b]at h;exact h.elim
   |some is=>
    simp only[b]at h;by_cases c:is.length<64
    ·rw[ja c]at h;obtain⟨a,m,rfl,g,i⟩:=Uy r k e;exact⟨a,m,is,rfl,g,JU i b,c,λl j=>qD h r (vL _) j⟩
    ·rw[ra c]at h;exact h.elim
 |_::_::_=>exact h.elim
def sV(K:ϗ):em->Hp->VK->Prop:=λxs H Q=>uN K xs H Q\/wP xs H Q
def zg0(d:X.Fd=š):xn X (Ϟ "sorted")$ sV X.K:=by
 intro a s c H xs b Q I r h;rcases h with h|h
 ·exact C7 a s c H xs b Q I r h
 ·exact zg1 d a s c H xs b Q I r h
def bx(xs:gV):M D:=λa=>match xs with
 |[x]=>(match wf a x with
  |some _=>VN [x] a
  |none=>AG [x] a)
 |_=>Ϙ
def W5(d:T.K=X.K):pr T (sV X.K) bx:=by
 intro E c H a xs b Q r p h
 match xs with
 |[]=>trivial
 |[x]=>
  unfold bx at h;cases e:wf a x with
  |some f=>simp[e]at h;exact ϔ$ Ė d E c H a [x] b Q r p h
  |none=>simp[e]at h;exact ϕ$ K6 E c H a [x] b Q r p h
 |_::_::_=>trivial
end Lake
namespace L2
open Spec
def IH:List (TE × TE)->St->Hp->(List (V × V)->Hp->Prop)->Prop
 |[],_,H,Q=>Q [] H
 |(tk,d)::r,σ,H,Q=>tk σ H λx a=>d σ a λy b=>IH r σ b λps c=>Q ((x,y)::ps) c
abbrev VV:List (V × V)->List (Value × Value)->Prop:=Paired λp q=>Rc p.1 q.1/\Rc p.2 q.2
def aG(X:Cx)(d:Dd)(c:List$ Option Fa)(a:List Fa)(e:List$ TE × TE):Prop:=
 ∀ b s σ H (Q:List (V × V)->Hp->Prop),gb X b σ H s->IH e σ H Q->
  wpAny (model X.prog X.w) X.A (evalPairs$ pairTrees c a X.env d) (λi h=>∃ g f,gb X b σ f h/\VV g i/\Q g f) X.xe s
def zx5:aG X a [] [] []:=λb s c H Q I h=>pairTrees_nil_walk ⟨[],H,I,Ϣ,h⟩
def è(n:PE X k tk)(p:PE X v e)(o:aG X b ks f c) :
  aG X b (W1 k::ks) (v::f)$ (tk,e)::c:=λa s d H Q I h=>
 pairTrees_cons_walk (Zc (n a s d H _ I h) λu s1 ⟨x,H1,j,rx,q⟩=>Zc (p a s1 d H1 _ j q) λz s2 ⟨y,g,l,w,r⟩=>
  Zc (o a s2 d g _ l r) λws s3 ⟨ps,i,m,rel,t⟩=>⟨(x,y)::ps,i,m,ϟ ⟨rx,w⟩ rel,t⟩)
def eG(c a:List$ jc × V):List$ jc × V:=a.foldl (λb d=>Pj b d.1 d.2) c
def KV.merge:∀ {b} {d} {a} {c},KV b d->KV a c->KV (eG a b) (merged c d):=by
 intro b d a c r;unfold KV at r;induction r generalizing a c with
 |nil=>intro q;exact q
 |@cons p q g i h t f=>
  intro r0;have e:KV (Pj a p.1 p.2)$ stored c q.1 q.2:=by
   have:=r0.put p.1 h.2;rw[<-h.1];exact this
  exact f e
theorem lR:∀ (b a:List$ jc × V),(eG a b).length<=a.length+b.length
 |[],a=>by show a.length<=a.length+0;omega
 |p::r,a=>by
  have c:=lR r$ Pj a p.1 p.2;have d:=NG a p.1 p.2;show (eG (Pj a p.1 p.2) r).length<=_;rw[Ua];omega
theorem CY{P:xa}{w:Na}:∀ {d:List$ jc × V} {ws:List$ Value × Value},VV (d.map λf=>(kV f.1,f.2)) ws->∃ e,Carries (Hj P w) ws e/\KV d e
 |[],_,r=>by rw[Hg]at r;cases r;exact⟨[],ϵ,Ϣ⟩
 |p::d,_,r=>by
  rw[db]at r;cases r with
  |@cons a b as bs h t=>
   obtain⟨e,c,q⟩:=CY (P:=P) (w:=w) t;obtain⟨i,g⟩:=b;exact⟨(p.1,g)::e,⟨cz h.1,rfl,c⟩,ϟ ⟨rfl,h.2⟩ q⟩
def A5(b:List$ TE × TE):TE:=λf H Q=>∀ p,H p=ŋ->IH b f (Qa H p$ ϛ []) λe c=>c p=W1 (ϛ [])/\∃ a:List (jc × V),e=a.map (λd=>(kV d.1,d.2))/\a.length<=15/\Q (ϖ p) (Qa c p$ ϛ$ eG [] a)
def zxw(h:aG X k b d l)(g:b.all (·.isSome)=š)(y:b.length=d.length)(u:b≠[])
  (m:b.length<=15):PE X (.Dict b d k)$ A5 l:=by
 intro j s K H Q I q;have A:=I.pc.fresh$ va s.heap.objs.size;have p:=I.laid (a:=s.heap.objs.size) (o:=ϛ []) (h':=s.heap.push { cls:=Wh "dict",data:=.dict #[] }) (t':=s.toks) (λJ J q=>ga _ q) (va _)$ nZ s.heap I.mH;refine wpAny_Dict_walk (knd:=Hj X.prog X.w) g y u m (Zc (h j _ K _ _ p$ q _ A) λws s2 ſ=>?_);obtain⟨ps,L,n,rel,e,i,t,M,E⟩:=ſ;subst t;obtain⟨G,c,F⟩:=CY (P:=X.prog) (w:=X.w) rel;obtain⟨z,hd,ό,r0,r⟩:=qH n.pc e;cases r0;refine⟨G,c,r,λh' f C=>⟨ϖ s.heap.objs.size,_,?_,rfl,E⟩⟩;have D:(eG [] i).length<=sizeLine:=by
  have v:=lR i [];rw[vg]at v;rw[qy];omega
 have x:∃ q,h'.get? s.heap.objs.size=W1 q:=let ⟨q,_,_,B,_⟩:=f;⟨q,B⟩;exact zE n (by rw[e];exact ϵ) C x$ pF D hd (F.merge Ϣ) f
end L2
namespace Lake
open Spec L2
def cM(n:Nat)(ks:List jc)(b:gV):M D:=λa=>match a[n]? with
 |some (ύ [])=>if ks.length<=15 then J (O n) (a.set n$ ύ$ DA []$ ks.zip b)else Ϙ
 |_=>Ϙ
def cJ(ks:List jc)(b:Ev->M (gV)):Ev->M D:=λc a=>rc (b c) (cM a.length ks)$ a++[ύ []]
inductive Hy(T:Tb)(X:Cx):List (Option Fa)->List Fa->List jc->(Ev->M (gV))->Prop
 |nil:Hy T X [] [] [] Za
 |cons {k v:Fa} {kk:jc} {f:Ev->M D} {ks:List (Option Fa)} {vs:List Fa} {kks:List jc} {fs:Ev->M (gV)} (hk:FE T X k (eC (Nv kk))) (hv:FE T X v f) (r:Hy T X ks vs kks fs):Hy T X (W1 k::ks) (v::vs) (kk::kks) (Ba f fs)
def Z3(h:Ha T b H (Nv a) v):v=kV a:=by
 cases a<;>(unfold Nv at h;rw[Ha]at h;exact h)
def Hy.v9(h:Hy T X ks p a l) :
  ∃ b,aG X o ks p b/\∀ c H Q e ρ σ,Jh T e H ρ c->Qc T e H σ->Rb T (XE X c) (xb T) e H (l ρ σ) (λu w=>Q ((a.map kV).zip u) w)->IH b c H Q:=by
 induction h with
 |nil=>exact⟨[],zx5,λc H Q e ρ σ i n m=>by
  have z:=Rb.here m n xb.nil;exact z⟩
 |@cons k v kk f ks p a l E F r G=>
  obtain⟨b,B,C⟩:=G;refine⟨_,è E F B,λc H Q e ρ σ i n m=>⟨e,ρ,σ,i,n,λq g W j ϋ K=>?_⟩⟩;obtain rfl:=Z3 K;refine⟨q,ρ,σ,i.mono j,ϋ,(Rb.mono j m).bind λd t s v2 x d y P I L=>?_⟩;exact C c x _ s ρ t (i.mono$ j.trans y) P (L.bind λZ ϊ S u Y d A R ό N=>by
   have z:=Rb.here N R$ xb.cons (Ha.mono A _ _ I) ό;exact z)
theorem jU:∀ (ks:List jc) (us:em),(ks.map kV).zip us=(ks.zip us).map λa=>(kV a.1,a.2)
 |[],_=>by simp
 |_::_,[]=>by simp
 |k::ks,u::us=>by simp[jU ks us]
theorem iR{a:ac}{H:Hp}:∀ {ks:List jc} {ds:gV} {us:em},xb T a H ds us->Jg T a H (ks.zip ds) (ks.zip us)
 |[],_,_,_=>by unfold Jg;simp;exact Ϣ
 |k::ks,[],us,h=>by rw[xb]at h;subst h;unfold Jg;simp;exact Ϣ
 |k::ks,d::ds,us,h=>by
  obtain⟨v,r,rfl,b,c⟩:=h;have:=iR (ks:=ks) c;exact ϟ ⟨rfl,b⟩ this
def v7(h:Hy T X b d f r)(k:b.all (·.isSome)=š)(S:b.length=d.length)(P:b≠[])(t:b.length<=15) :
  FE T X (.Dict b d x)$ cJ f r:=by
 intro l s st H Q I W;obtain⟨a0,v,Y⟩:=h.v9;refine zxw v k S P t l s st H Q I ?_;obtain⟨n,ρ,m,R,F,V⟩:=W;intro p E;have ex:Wc n H (n++[p])$ Qa H p$ ϛ []:=Du E;have r1:Qc T _ (Qa H p$ ϛ [])$ m++[ύ []]:=F.push E ⟨[],rf,by unfold Jg;exact Ϣ⟩;have u:(n++[p])[m.length]?=W1 p:=by rw[<-F.len];simp
 refine Y _ _ _ (n++[p]) ρ (m++[ύ []]) (R.mono ex) r1 ((Rb.mono ex V).bind λK A j y o D L G Z e=>?_);have g:=L.get u;unfold cM at e;cases i:A[m.length]? with
 |none=>simp only[i]at e;exact e.elim
 |some ob=>
  cases ob with
  |qa ys=>simp only[i]at e;exact e.elim
  |ub c r=>simp only[i]at e;exact e.elim
  |Ub _=>simp only[i]at e;exact e.elim
  |Ie _=>simp only[i]at e;exact e.elim
  |za w=>
   cases w with
   |cons z zs=>simp only[i]at e;exact e.elim
   |nil=>
    simp only[i]at e;by_cases C:f.length<=15
    ·rw[ja C]at e;obtain⟨a,N,ϊ,ws,B,ϋ⟩:=G.at (show Ha T j o (O m.length) (ϖ p) by rw[Ha];exact⟨p,rfl,g⟩) i;cases N;cases ϋ;refine⟨B,f.zip y,jU f y,by rw[wy];lia,?_⟩;have ό:=G.write (ob:=ύ$ DA []$ f.zip K) g ⟨_,rf,by
      have q:Wc j o j$ Qa o p$ ϛ$ xu []$ f.zip y:=Xr (ya g) B (λD z=>by cases z) (λD D z=>by cases z);exact HR (iR$ Z.mono q) (by unfold Jg;exact Ϣ)⟩
     exact e _ _ _ ό.1 ό.2 (by rw[Ha];exact⟨p,rfl,g⟩)
    ·rw[ra C]at e;exact e.elim
end Lake
namespace Lake
structure Mu(b:Bool)(t:fg):Prop where
 led:t.led = !b
def Mu.lay(h:Mu b t) c a x:Mu b (layNew t c a x).2.1:=by
 unfold layNew;cases t.freeSlot a with
 |none=>exact⟨h.led⟩
 |some q=>
  dsimp only;unfold SetTable.orStandIn;split<;>exact⟨h.led⟩
def Mu.JG(h:Mu b t) d a:Mu b (jn t d a).2.1:=by
 unfold jn;cases e:t.relaid _ a with
 |none=>exact⟨h.led⟩
 |some q=>
  dsimp only;split
  ·unfold SetTable.relaid SetTable.laid at e;cases c:SetTable.layClean _ _<;>(rw[c]at e;cases e)
   exact⟨h.led⟩
  ·exact⟨h.led⟩
end Lake
namespace Lake
open Spec
section
variable{prog:xa}{w:Na}{K:Type}[DecidableEq K][BEq K][LawfulBEq K]{knd:KeyKind prog w K}{A:Ia}{E:Value->Shared->Prop}{s:Shared}{b:Bool}{a:Addr}{k:K}{x:Value}
def zq(knd:KeyKind prog w K)(b:Bool)(h:Heap)(a:Addr)(S:K->Bool)(n:Nat):Prop:=
 ∃ o c d t,h.get? a=W1 o/\o.ExactSet/\o.data=.set c d t/\ElemsOf knd c.toList/\(∀ k,S k=š ↔ ∃ e∈c.toList,knd.is k e.2=š)/\c.size<scanBound/\t.fits c.size=š/\c.size=n/\Mu b t
def xX{h:Heap}(q:h.get? a=W1 o)(i:o.ExactSet)(r:o.data=.set p f t)(j:ElemsOf knd c.toList)
  (l:∀ k,S' k=š ↔ ∃ e∈c.toList,knd.is k e.2=š) (m:c.size<scanBound) (n:d.fits c.size=š) (s:Mu b d) :
  (h.update a$ Fv c d).get? a=W1 { o with data:=.set c (f+1) d }/\zq knd b (h.update a$ Fv c d) a S' c.size:=by
 obtain⟨g,_⟩:=SetOf_store q i r j l m n;exact⟨g,_,c,f+1,d,g,i,rfl,j,l,m,n,rfl,s⟩
def tY{g:Bool->Em Unit}(N:∀ c s1 n,n () s1->wpAny (model prog w) A (g c) n E s1)
  (u:s.heap.get? a=W1 o) (v:o.ExactSet) (x:o.data=.set L ό t) (B:ElemsOf knd d.toList) (C:∀ k,j k=š ↔ ∃ e∈d.toList,knd.is k e.2=š) (D:d.size<scanBound) (M:f.fits d.size=š) (F:Mu b f)
  (q:∀ m,yd a s.heap m->zq knd b m a j d.size->R (W1 š) { s with heap:=m }) :
  wpAny (model prog w) A (do
    storeSet a d f
    if (!ϋ && f.tooFull)=š then do
      g (jn f d$ vf d.size).2.2
      storeSet a (jn f d$ vf d.size).1 (jn f d$ vf d.size).2.1
      pure (W1 š)
     else pure (W1 š)) R E s:=by
 refine ba$ ZD u x ?_$ aE D;obtain⟨r,I⟩:=xX u v x B C D M F;have h:=Ec s.heap a$ Fv d f;split
 ·have i:=relayAll_perm f d$ vf d.size;have G:=relayAll_fits f d$ vf d.size;have H:=F.JG d$ vf d.size;generalize jn f d _=Z at i G H ⊢;obtain⟨l,Q,P⟩:=Z;have z:l.size=d.size:=by rw[<-Wb,i.length_eq,Wb]
  refine ba$ N _ _ _$ ba$ ZD r rfl ?_$ aE ⋯;obtain⟨_,p⟩:=xX (S':=j) r v rfl (B.perm i) (λk=>(C k).trans ⟨λ⟨e,he,y⟩=>⟨e,i.mem_iff.mpr he,y⟩,λ⟨e,he,y⟩=>⟨e,i.mem_iff.mp he,y⟩⟩) ⋯ G H;rw[z]at p;exact da$ q _ (h.trans$ Ec _ a _) p
 ·exact da$ q _ h I
def W9(ό:knd.is k x=š)(L:x.scannable=š)(Y:zq knd b s.heap a S n)(hn:n+1<scanBound)
  (q:∀ d,yd a s.heap d->zq knd b d a (λD=>S D || decide (D=k)) (if S k then n else n+1)->Q (!S k) { s with heap:=d }):wpAny (model prog w) A (setAddHashed a x$ knd.hash k) Q E s:=by
 obtain⟨o,f,X,t,l,H,m,B,C,R,I,T,ϊ⟩:=Y;refine Xb$ ba$ bg l m I ?_;dsimp only;rw[byScan_of L R B];refine ba$ ba$ lm$ ba$ wpAny_setScan_of ό l m I B ?_;cases V:List.findIdx? (λe=>knd.is k e.2) f.toList with
 |some j=>
  obtain⟨hj,pj,_⟩:=List.findIdx?_eq_some_iff_getElem.mp V;have u:=(C k).mpr ⟨f.toList[j],Kl hj,pj⟩;refine da$ da ?_;have z:=q s.heap (iK a s.heap) ⟨o,f,X,t,l,H,m,B,λD=>by
   rw[ug,Bb,<-C D];exact⟨λy=>y.elim id λe=>e ▸ u,ϔ⟩,R,I,by rw[u];exact T,ϊ⟩
  rw[u]at z
  simp_all
 |none=>
  have u:S k=į:=by
   cases y:S k with
   |false=>rfl
   |true=>obtain⟨e,he,p⟩:=(C k).mp y;have:=List.findIdx?_eq_none_iff.mp V e he;rw[p]at this;cases this
  have G:∀ c {s1:Shared} {i:Unit->Shared->Prop},i () s1->wpAny (model prog w) A (match c with|true=>rule "set.scan.the-table-gave-way" | false=>pure ()) i E s1:=λc s1 i y=>by
   cases c
   ·exact da y
   ·exact lm y
  have r:=layNew_perm t f (knd.hash k) x;have F:=layNew_fits t f (knd.hash k) x;have M:=ϊ.lay f (knd.hash k) x;generalize layNew t f _ x=Z at r F M ⊢;obtain⟨g,t1,wd,gv⟩:=Z;rw[Array.toList_push]at r;have N:=(B.push ό L).perm r;have ϋ:=mem_push_iff ό C r;have W:g.size=n+1:=by rw[<-Wb,r.length_eq,Kb,Wb,T];rfl
  have P:g.size<scanBound:=by omega
  have Mf:∀ d,yd a s.heap d->zq knd b d a _ g.size->Q š { s with heap:=d }:=λd v h=>by
   have:=q d v;rw[u]at this;rw[W]at h;exact this h
  refine ba$ G _ ?_;split
  ·refine ba ?_;rw[hashByValue_scannable 8 L];refine da$ tY (b:=b) ?_ l H m N ϋ P ?_ ?_ ?_
   ·exact λc s1 i y=>G c y
   ·split
    ·exact F
    ·exact SetTable.fits_plain_off F
   ·split<;>exact⟨M.led⟩
   ·exact λd v h=>da$ Mf d v h
  ·refine ba$ da ?_;refine tY ?_ l H m N ϋ P F M ?_
   ·exact λc s1 i y=>G c y
   ·exact λd v h=>da$ Mf d v h
end
noncomputable def bT(w:Na):Bool:=w.params.followText "set-order"
section
variable{prog:xa}{w:Na}{A:Ia}
def F6(g:zq (yh prog w) b h a S n)(e:∀ k,S k=c k)(f:n=d):zq (yh prog w) b h a c d:=by
 obtain rfl:S=c:=funext e
 simp_all
def tK(f:zq (yh prog w) b h a S n)(k:∀ o,h.get? a=W1 o->c.get? a=W1 o):zq (yh prog w) b c a S n:=by
 obtain⟨o,e,d,t,g,r⟩:=f;exact⟨o,e,d,t,k o g,r⟩
def Å{St}(W:WalksS prog w A.in1 I u j G n P St) a(x:a ∉ u) f(ό:∀ i v,P i v->∃ t,v=Mh (f i) t)(ϋ:n+1<scanBound) :
  ∀ k i s,n - i=k->i<=n->St i s->zq (yh prog w) b s.heap a (λy=>(Cf f i).any (·== y)) (Cf f i).length->
   (∀ d,Moved (a::j) G s d->zq (yh prog w) b d.heap a (λy=>(Cf f n).any (·== y)) (Cf f n).length->R (.ok$ .ret Yb) d)->codeAny (model prog w) A (.builtin "set.update.loop" ⟨[Db a,Db I],[]⟩) R s:=by
 have r:a ∉ j:=λz=>x$ W.sub _ z;have h:∀ c∈j,c∈a::j:=λc g=>la _ g;intro k;induction k with
 |zero=>
  intro i s L K st l q;obtain rfl:i=n:=by lia
  exact Fc F.entry_set_update_loop$ ba (W.done s _ _ st λd m=>(da$ q d (m.mono h)$ tK l λo e=>m.heap a _ r e))
 |succ k M=>
  intro i s L K st l q;have B:i<n:=by lia
  refine Fc F.entry_set_update_loop$ ba (W.item i s _ _ B st λv d H p m=>?_);obtain⟨t,rfl⟩:=ό i v H;refine ba$ Xb$ Xb$ ba$ (yh prog w).pyHash (intKind_is _ _ _ _) ?_;refine W9 (intKind_is _ _ _ _) rfl (tK l λo e=>m.heap a _ r e) (by have:=firstMet_length_le f i;lia) λh' sb C=>?_;have D:zq _ b h' a (λy=>(Cf f$ i+1).any (·== y)) (Cf f$ i+1).length:=F6 C (λy=>by rw[OZ,step_any]) (by rw[OZ,step_length]);refine da ⟨Pd F.plain_set_update_loop _,M (i+1) _ ⋯ B (W.frame _ d _ _ p (Ch _) λc g o e=>?_) D λs2 N E=>?_⟩
  ·rw[sb.2 c (λz:c=a=>x (by rw[<-z];exact g))];exact e
  ·refine q s2 (Moved.trans W.gtrans ((m.mono h).then_heap (Ch _) λc o g e=>?_) N) E;rw[sb.2 c (λz:c=a=>g (by rw[z];exact ua))];exact e
variable{E:Value->Shared->Prop}{s:Shared}
def Ù x(q:Q (Db s.heap.objs.size) { s with heap:=s.heap.push { cls:=Wh "set",dict:=ŋ,data:=.set #[] 0 (.fresh 0 0$ !bT w) } }) :
  codeAny (model prog w) A (.call (Ϟ "set.__new__") ⟨[Wh "set",x],[]⟩) (wants Q E) s:=by
 refine jK$ ba$ xy (PySem.F.newCall_set_1 x)$ da ⟨Pd PySem.F.plain_set_new _,Fc PySem.F.entry_set_new ?_⟩;unfold bi.«set.__new__» Ay;have a:=sub_set_self;obtain⟨b,g,d,tk,c⟩:=s
 wp_walk
 exact Eg$ da$ ba$ wpAny_alloc$ da$ da q
end
section
variable{prog:xa}{w:Na}{A:Ia}{E:Value->Shared->Prop}{s:Shared}
abbrev ky(w:Na):Obj:={ cls:=Wh "set",dict:=ŋ,data:=.set #[] 0 (.fresh 0 0$ !bT w) }
set_option maxHeartbeats 3200000 in
def Ń{l}{a}{h}{Q}(V:A.handled=ŋ)(X:s.heap.IsList l a)(W:Fk a.toList h)(T:a.size+1<scanBound)
  (q:∀ d tk,zq (yh prog w) (bT w) d s.heap.objs.size (λy=>(Cf (λi=>h.getD i 0) a.size).any (·== y)) (Cf (λi=>h.getD i 0) a.size).length->
   (∀ b o,b<s.heap.objs.size->s.heap.get? b=W1 o->d.get? b=W1 o)->Q (Db s.heap.objs.size) { s with heap:=d,toks:=tk }) :
  wpAny (model prog w) A (call (Wh "set") [Db l]) Q E s:=by
 obtain⟨c,tl,ό⟩:=Oc.mro;have f1:=Oc.made;have f2:=Oc.sub;refine ij$ jK (show wpAny _ _ (callAny (Wh "set") _) _ _ _ from da ⟨Code.quiet_builtin _ (by decide +kernel),Fc PySem.F.entry_type_call ?_⟩);rw[Around.under_plain (weight_type_call_type "set" [Db l] []) rfl];have f3:=Oc.notType;have f4:=Oc.canCreate;have f5:=PySem.F.typeCall_set_1$ Db l;repeat (any_goals (first|assumption|wp_step))
 refine lf (Ù (Db l) (E:=E) (Q:=λob s1=>ob=Db s.heap.objs.size/\s1={ s with heap:=s.heap.push (ky w) }) ⟨rfl,rfl⟩) λr s1 B=>?_;cases r with
 |error e=>exact B
 |ok ϋ=>
  cases ϋ with
  |ret ob=>
   obtain⟨rfl,rfl⟩:=B;have H:(s.heap.push$ ky w).get? s.heap.objs.size=W1 (ky w):=Ea _ rfl;have tS:By { s with heap:=s.heap.push (ky w) } (Db s.heap.objs.size) "set":=⟨_,H,rfl⟩
   have i1:=Oc.init.lookup;have i2:=Oc.init.bind$ Db s.heap.objs.size;repeat (any_goals (first|assumption|wp_step))
   refine lf (ak (R:=wants (λr s2=>r=Yb/\∃ d tk,s2={ s with heap:=d,toks:=tk }/\zq (yh prog w) (bT w) d s.heap.objs.size (λy=>(Cf (λi=>h.getD i 0) a.size).any (·== y)) (Cf (λi=>h.getD i 0) a.size).length/\
     (∀ b o,b<s.heap.objs.size->s.heap.get? b=W1 o->d.get? b=W1 o)) E) Oc.init.plain PySem.F.entry_set_init$ check_set_init_1 tS ?_) λr2 s2 g=>?_
   ·obtain⟨⟨oc,od,a0,D⟩,I,j,M,m⟩:=X;simp only at j m;subst j;subst m;have u:(s.heap.push$ ky w).get? l=W1 { cls:=Wh "list",dict:=od,data:=ϩ a M,slots:=D }:=ga _ I;have g1:=PySem.F.sub_list_set;have g2:=PySem.F.sub_list_frozenset;have g3:(Wh "list" == Wh "dict")=į:=by decide
    have n:(s.heap.push$ ky w).IsList l a:=⟨_,u,rfl,M,rfl⟩
    unfold bi.«set.__init__» noKeywords Cy;generalize x:pyIter=PI
    wp_walk
    subst x;refine Yh n$ ba$ Qq ?_;have K:l<s.heap.objs.size:=wa I;have S:A.in1.in1.in1.handled=ŋ:=by simp[V]
    have Z:l≠(s.heap.push$ ky w).objs.size:=by rw[Ed];exact Aa$ Kc K
    have nf:s.heap.objs.size ∉ [(s.heap.push$ ky w).objs.size,l]:=by
     rw[Ed];simp only[La,Wf,Wt,not_or];exact⟨Aa$ cc _,ee K⟩
    refine Å (b:=bT w) ((Cj S _ l Z a).toS) s.heap.objs.size nf (λi=>h.getD i 0) (λi v Y=>IntsAre.int_at W i v (by rw[Je];exact Y)) T (a.size - 0) 0 _ ⋯ (Bh _) ⟨⟨_,Ea _ rfl,rfl,rfl⟩,(n.push _)⟩ ?S0 ?RR;case S0=>
     exact⟨ky w,#[],0,_,ga _ H,⟨rfl,rfl,rfl⟩,rfl,λe ϊ=>by simp at ϊ,λk=>by simp[PZ],by decide,by rfl,by simp[PZ],⟨rfl⟩⟩
    case RR=>
     intro s' p f;obtain⟨d,P,N,G,C⟩:=s';obtain rfl:P=s.gens:=p.gens;obtain rfl:N=s.drawn:=p.drawn;obtain rfl:C=s.os:=p.os;refine da$ da ⟨rfl,d,G,rfl,f,λb o L e=>?_⟩;refine p.heap b o ?_$ ga _$ ga _ e;rw[Ed];simp only[La,Wf,Wt,not_or];exact⟨Aa L,Aa$ Kc L⟩
   ·cases r2 with
    |error e=>exact g
    |ok t=>
     cases t with
     |ret r=>
      obtain⟨rfl,d,tk,rfl,f,z⟩:=g;repeat (any_goals (first|assumption|wp_step))
      exact q _ _ f z
     |_=>exact g
  |_=>exact B
end
def kD:mQ "set_iterator" "__next__" "set_iterator.__next__":=.of (owner:="set_iterator") (n:="__next__") (by rw[kK,Lw];kernel_rfl) (by decide +kernel) (by decide +kernel) (by decide +kernel) (ϔ$ by decide +kernel) (by rw[Sq];kernel_rfl)
def kX:pQ table "set_iterator.__next__" = W1 bi.«set_iterator.__next__»:=entryFor_of_tree (by kernel_rfl)
def NS a:Gv "set_iterator.__next__" ⟨[a],[]⟩:=by unfold Gv;kernel_rfl
def ţ:pQ table "set.__iter__" = W1 bi.«frozenset.__iter__»:=iQ (id':="frozenset.__iter__") (by kernel_rfl) (by first|rfl|decide +kernel) (by decide +kernel) (by kernel_rfl)
def Hs(h:Heap)(a:Addr)(c:Array$ Int × Value)(b:Nat)(t:fg):Prop:=∃ o,h.get? a=W1 o/\o.ExactSet/\o.data=.set c b t
def Vu(h:Heap)(I a:Addr)(first:Value)(i n b:Nat):Prop:=∃ o,h.get? I=W1 o/\o.cls=Wh "set_iterator"/\o.data=ϫ #[first,wc i,Db a,wc n,wc b]
section
variable{prog:xa}{w:Na}{A:Ia}{E:Value->Shared->Prop}{s:Shared}{I a:Addr}{es:Array$ Int × Value}{ep:Nat}{t:fg}{i:Nat}
def Vu.ty(h:Vu s.heap I a first i n ep):s.TypeIs (Db I) "set_iterator":=let ⟨o,b,c,_⟩:=h;⟨o,b,c⟩
def Ĕ{f:Nat}(e:Vu s.heap I a (wc f) i es.size ep)(l:Hs s.heap a es ep t)(n:t.fits es.size=š)(r:a≠I)
  (p:∀ A E (Q:Option (Value × Nat)->Shared->Prop),Q (W1 (v,b)) s->wpAny (model prog w) A (Hv a f i ep) Q E s)
  (q:∀ d,Vu d I a (wc b) (i+1) es.size ep->yd I s.heap d->Q (W1 v) { s with heap:=d }):wpAny (model prog w) A (pyNext$ Db I) Q E s:=by
 obtain⟨o,g,m,hd⟩:=id e;obtain⟨u,k,x,j⟩:=id l;refine ba$ QZ$ Sf e.ty kD$ gd kD e.ty kX ?_$ NS _;refine ba$ da$ ba$ jQ g hd$ ba$ ql k j n ?_;rw[ra ⋯];refine ba$ p _ _ _$ ba$ Tq g hd ⋯ ?_;have h:=Gd (Ip (·.setIfInBounds 0$ Mh b 0)) g$ Ni$ Jd hd _;have c:=Jd hd (·.setIfInBounds 0$ Mh b 0);refine ba$ Tq h c ⋯$ da ⟨_,rfl,da$ q _ ⟨_,(Gd _ h$ Ni$ Jd c _),?_,?_⟩$ (Ec ..).trans$ Ec ..⟩
 ·rw[Mw,Mw];exact m
 ·rw[Jd c];simp[wc]
def x3{Q}{first:Value}{n:Nat}{d}(f:A.handled=ŋ)(sb:yd I s.heap d)(q:∀ b,Mr I s.heap b->Q ŋ { s with heap:=b }) :
  wpAny (model prog w) A.in1 (do let e <-newExc (Wh "StopIteration") [];raiseNew e:Em PySem.Fin) (λMf a=>∃ v,Mf=Fin.done (Flow.ret v)/\wpAny (model prog w) A (pure$ W1 v) Q E a)
   (λe a=>wpAny (model prog w) A (do let c <-IB e (Wh "StopIteration");if c=š then pure ŋ else throw e) Q E a) { s with heap:=d }:=by
 refine ba$ ba$ Nc (ba$ xy (by rfl)$ Nc (ba$ wpAny_handled ?_)$ by size_fits) (by size_fits);rw[f];refine ba$ da$ wpAny_throw ?_;refine ba$ Eo ⟨_,Ea _ rfl,rfl⟩ isSubtype_stop ?_;exact da$ q _$ (sb.extBut.push _).push _
def Ν{f:Nat}(k:A.handled=ŋ)(b:Vu s.heap I a (wc f) i es.size ep)(h:Hs s.heap a es ep t)(j:t.fits es.size=š)
  (l:∀ A E Q,Q ŋ s->wpAny (model prog w) A (Hv a f i ep) Q E s)
  (q:∀ c,Mr I s.heap c->Q ŋ { s with heap:=c }):wpAny (model prog w) A (pyNext$ Db I) Q E s:=by
 obtain⟨o,d,m,hd⟩:=id b;obtain⟨p,g,r,e⟩:=id h;refine ba$ QZ$ Sf b.ty kD$ gd kD b.ty kX ?_$ NS _;refine ba$ da$ ba$ jQ d hd$ ba$ ql g e j ?_;rw[ra ⋯];exact ba$ l _ _ _$ ba$ Tq d hd ⋯$ x3 (first:=Yb) (n:=0) k (Ec ..) q
end
def Ÿ nx(e:a):Jo nx #[e]=#[e]:=by simp[Jo,zaG,Nat.mod_one]
def fB(pl:Array Nat)(i:Nat):Nat:=if i=0 then 0 else pl.getD (i - 1) 0+1
def â(a:i<=1):Ll #[p] (fB #[p] i)=i:=by
 rcases(show i=0\/i=1 by lia)with rfl|rfl<;>simp[fB,Ll,iE]
section
variable{prog:xa}{w:Na}{A:Ia}{E:Value->Shared->Prop}{s:Shared}{a:Addr}{es:Array$ Int × Value}{ep:Nat}{t:fg}{i:Nat}
def BJ(q:Q (bT w) s):wpAny (model prog w) A setsByText Q E s:=by
 exact ba$ Eg$ da q
def Y0(b:bT w=š)(f:Hs s.heap a es ep t)(c:t.fits es.size=š)(q:Q (((Jo (w.params.setOrder a ep) es)[i]?).map λe=>(e.2,0)) s):wpAny (model prog w) A (Hv a 0 i ep) Q E s:=by
 obtain⟨o,g,x,d⟩:=f;refine ba$ bg g d c$ ba$ BJ ?_;rw[b];simp;refine ba$ ba$ bg g d c$ ba$ BJ ?_;rw[b];exact ba$ Eg$ da$ da q
def Ķ(h:bT w=į)(u:Mu (bT w) t)(k:es.size=1)(v:i<=es.size)(r:Hs s.heap a es ep t)(c:t.fits es.size=š)(q:Q ((es[i]?).map λe=>(e.2,fB t.place (i+1))) s):wpAny (model prog w) A (Hv a (fB t.place i) i ep) Q E s:=by
 obtain⟨o,g,x,d⟩:=r;have l:t.place.size=es.size:=by simp[SetTable.fits,Ca]at c;exact c.1
 refine ba$ bg g d c$ ba$ BJ ?_;rw[h];simp;refine Ff (λz=>?_) (λy=>?_)
 ·have z:(!t.plain && decide (es.size > 1))=š:=z;simp[k]at z
 ·refine ba ?_;refine Ff (λz=>?_) (λy=>da ?_)
  ·have:=z;rw[u.led,h]at this;cases this
  ·rw[show Ll t.place (fB t.place i)=i by
    obtain⟨p,e⟩:=Zh.mp (l.trans k);rw[show t.place=#[p] by rw[<-e]];exact â ⋯]
   refine da ?_;by_cases j:i<es.size
   ·have f:es[i]?=W1 es[i]:=fh j;have b:i<t.place.size:=by rw[l];exact j
    have m:t.place[i]?=W1 t.place[i]:=fh b;rw[f]at q ⊢;rw[m];have n:fB t.place (i+1)=t.place[i]+1:=by unfold fB;simp[b]
    rwa [n]at q
   ·have f:es[i]?=ŋ:=Array.getElem?_eq_none ⋯
    simp_all
end
section
variable{prog:xa}{w:Na}{A:Ia}{E:Value->Shared->Prop}{s:Shared}{I a p:Addr}{es:Array$ Int × Value}{ep:Nat}{t:fg}{i:Nat}
noncomputable abbrev HE(a:Addr)(first:Value)(n ep:Nat):Obj:={ cls:=Wh "set_iterator",data:=ϫ #[first,wc 0,Db a,wc n,wc ep] }
def Ş(f:Hs s.heap a es ep t)(b:t.fits es.size=š)(h:es.size=1)(e:Q (Db s.heap.objs.size) { s with heap:=s.heap.push (HE a (wc 0) es.size ep) }) :
  wpAny (model prog w) A (pyIter$ Db a) Q E s:=by
 obtain⟨o,g,x,d⟩:=id f;have c:s.TypeIs (Db a) "set":=⟨o,g,x.1⟩
 refine bE c To$ gd To c ţ (ba$ da$ ba$ ba$ ql g d b$ da$ ba$ ba$ bg g d b$ ba$ BJ$ da$ Ff (λz=>?_)$ λz=>?_)$ PySem.F.args_set_iter_1 _
 ·have z:(!bT w && (!t.plain && decide (es.size > 1)))=š:=z;simp[h]at z
 ·refine ba$ da$ ba$ wpAny_setEpoch_of g d b$ ba$ Nc (da ⟨_,rfl, "set_iterator",_,⟨_,Ea _ rfl,rfl⟩,kD.lookup,?_⟩) (by size_fits);exact e
end
def nR:mQ "set_iterator" "__iter__" "set_iterator.__iter__":=.of (owner:="set_iterator") (n:="__iter__") (by rw[kK,Lw];kernel_rfl) (by decide +kernel) (by decide +kernel) (by decide +kernel) (by first|exact ϔ (by decide +kernel)|exact .inr _) (by rw[Sq];kernel_rfl)
def U5:pQ table "set_iterator.__iter__" = W1 bi.«dict_keyiterator.__iter__»:=iQ (id':="dict_keyiterator.__iter__") (by kernel_rfl) (by first|rfl|decide +kernel) (by decide +kernel) (by kernel_rfl)
def zj8 a:Gv "set_iterator.__iter__" ⟨[a],[]⟩:=by unfold Gv;kernel_rfl
section
variable{prog:xa}{w:Na}{A:Ia}{I a p:Addr}{es:Array$ Int × Value}{ep:Nat}{t:fg}
def Y4(h:Vu s.heap I a first i n ep)(q:Q (Db I) s):wpAny (model prog w) A (pyIter$ Db I) Q E s:=by
 exact bE h.ty nR$ gd nR h.ty U5 (da ⟨_,rfl, "set_iterator",_,h.ty,kD.lookup,q⟩)$ zj8 _
def Vu.keep(x:Vu h I a first i n ep)(k:∀ o,h.get? I=W1 o->b.get? I=W1 o):Vu b I a first i n ep:=let ⟨o,e,r⟩:=x;⟨o,k o e,r⟩
def Hs.keep(x:Hs h a es ep t)(k:∀ o,h.get? a=W1 o->b.get? a=W1 o):Hs b a es ep t:=let ⟨o,e,r⟩:=x;⟨o,k o e,r⟩
def oY{f:Nat->Nat}{ord:List$ Int × Value}(C:A.handled=ŋ)(n:t.fits es.size=š)(g:a≠I)(D:ord.length=es.size)
  (r:∀ (s:Shared) (i:Nat),Hs s.heap a es ep t->i<=es.size->∀ (A:Ia) (E:Value->Shared->Prop) (Q:Option (Value × Nat)->Shared->Prop),Q ((ord[i]?).map λe=>(e.2,f (i+1))) s->wpAny (model prog w) A (Hv a (f i) i ep) Q E s) :
  Walks prog w A I [I,a] [I] es.size (λi v=>(ord[i]?).map (·.2)=W1 v) (λi h=>Vu h I a (wc$ f i) i es.size ep/\Hs h a es ep t) where
 sub:=λb c=>by simp at c;simp[c]
 frame:=λF F F st q=>⟨st.1.keep λo e=>q I ⋯ o e,st.2.keep λo e=>q a ⋯ o e⟩
 item:=λi s Q E p st d=>by
  have m:i<ord.length:=by rw[D];exact p
  have x:=Xc m;exact Ĕ st.1 st.2 n g (λA' j k u=>r s i st.2 (zd p) A' j k (by rw[x];exact u)) λl y sb=>(d _ l s.toks ⋯ ⟨y,st.2.keep λo e=>by rw[sb.2 a g];exact e⟩ λb o c e=>by rw[sb.2 b (λz=>c (by simp[z]))];exact e)
 done:=λs Q E st d=>by
  exact Ν C st.1 st.2 n (λA' j k u=>r s es.size st.2 (va _) A' j k ⋯) λl B=>d l s.toks λb o c e=>B b o (λz=>c (by simp[z])) e
 self:=λF F F F st d=>Y4 st.1 d
def ŏ(d:s.TypeIs (Db a) "set")(h:Q į s):wpAny (model prog w) A (Ej$ Db a) Q E s:=by
 refine ba$ bh d PySem.F.slot_set_len.lookup ?_;generalize e:("set.__len__")=f;subst e;exact ba$ Eo (b:=š) d (by rw[Sq];kernel_rfl)$ Ff (λc=>absurd c ⋯) (λg=>(Ff (λg=>(ba$ gj d$ da h))$ λc=>absurd (by decide +kernel) c))
end
end Lake
namespace Lake
open Spec Calls W PyProof.V
section
variable{prog:xa}{w:Na}{A:Ia}{E:Value->Shared->Prop}{s:Shared}{a:Addr}{es:Array$ Int × Value}{ep:Nat}{t:fg}
def TV{St}(W:Walks prog w A.in1 I x [I] n P St)(M:n<=sizeLine)(k:S ∉ x)(ό:s.TypeIs (Db a) "set")(st:St 0 s.heap)
  (r:s.heap.get? S=W1 { cls:=Wh "list",data:=ϩ #[] v })
  (H:∀ h' tk g c,(∀ b o,b≠S->b≠I->s.heap.get? b=W1 o->h'.get? b=W1 o)->h'.get? S=W1 { cls:=Wh "list",dict:=ŋ,data:=ϩ g c,slots:=#[] }->dq P g n->R (.ok$ .ret d) { s with heap:=h',toks:=tk }) :
  wpAny (model prog w) A.in1 (do
    let p <-Ld [Db I] (Ej$ Db a)
    if (p || C)=š then do
     rule "list.extend.makes-room"
     oK (Db S)
     again (.builtin "list.extend.loop" ⟨[Db S,Db I,d],[]⟩)
    else again (.builtin "list.extend.loop" ⟨[Db S,Db I,d],[]⟩))
   (λMf j=>match Mf with | .done f=>R (.ok f) j | .again u=>u.quiet=š/\codeAny (model prog w) A u R j) (λe j=>R (.error e) j) s:=by
 have l:∀ h q tk,St 0 h->(∀ b o,b≠S->s.heap.get? b=W1 o->h.get? b=W1 o)->h.get? S=W1 { cls:=Wh "list",data:=ϩ #[] q }->codeAny (model prog w) A (.builtin "list.extend.loop" ⟨[Db S,Db I,d],[]⟩) R { s with heap:=h,toks:=tk }:=by
  intro h q tk t L E;refine codeAny_extend_loopS W.toS M S k d n 0 _ #[] q rfl (Bh _) t E (ItemsOf.nil _) λj g c B D K=>?_;rw[Moved.eq_with B];refine H j.heap j.toks g c (λb o i G e=>B.heap b o (λz=>?_)$ L b o i e) D K;rcases La.mp z with z|z
  ·exact i z
  ·exact G$ Qb.mp z
 refine ba$ Xb$ ŏ ό$ Ff (λF=>(ba$ lm$ ba ?_)) (λF=>da ⟨Pd Cm _,l _ v _ st (λb o F e=>e) r⟩);refine ba$ jh r rfl ?_;have y:=Gd (Fe (·.push Yb)) r rfl;refine jh y rfl ?_;have m:∀ b o,b≠S->s.heap.get? b=W1 o->((s.heap.update S (Fe (·.push Yb))).update S (Fe (·.pop))).get? b=W1 o:=λb o i e=>(Ae _ _$ Cd i).trans$ (Ae _ _$ Cd i).trans e;exact da ⟨Pd Cm _,l _ _ _ (W.frame 0 _ _ st λb i o e=>m b o (λz=>k$ z ▸ i) e) (λb o i e=>m b o i e) (Gd (Fe (·.pop)) y rfl)⟩
def O2{a}{b:List$ Int × Value}(c:b.length=n)(h:dq (λi v=>(b[i]?).map (·.2)=W1 v) a n):a.toList=b.map (·.2):=by
 apply Dk;intro i;rw[Je,Ta];cases e:a[i]? with
 |none=>
  have:n<=i:=by have:=Array.getElem?_eq_none_iff.mp e;rw[h.1]at this;exact this
  simp_all
 |some v=>exact(h.2 i v e).symm
def J9(Y:A.handled=ŋ)(V:Hs s.heap a es ep t)(H:t.fits es.size=š)(hk:Mu (bT w) t)(L:es.size=1)
  (Mf:∀ h tk n (d:Array Value),(∀ b o,s.heap.get? b=W1 o->h.get? b=W1 o)->s.heap.objs.size<=h.objs.size->d.toList=es.toList.map (·.2)->R d.toList { s with heap:=h,toks:=tk,drawn:=n }) :
  wpAny (model prog w) A (collect$ Db a) R E s:=by
 have hn:es.size<=sizeLine:=by rw[L];decide
 have N:a<s.heap.objs.size:=let ⟨_,g,_⟩:=V;wa g;let S:Addr:=s.heap.objs.size;let Z:Ho->Shared->Prop:=λq m=>∃ (h:Heap) (tk:Nat) (n:Vo) (d:Array Value) (c:Nat),q=.ok (.ret$ Db S)/\m={ s with heap:=h,toks:=tk,drawn:=n }/\(∀ b o,s.heap.get? b=W1 o->h.get? b=W1 o)/\
  h.get? S=W1 { cls:=Wh "list",dict:=ŋ,data:=ϩ d c,slots:=#[] }/\d.toList=es.toList.map (·.2)
 let s1:Shared:={ s with heap:=s.heap.push { cls:=Wh "list",data:=ϩ ([]:b').toArray } }
 have ϊ:s1.heap.get? S=W1 { cls:=Wh "list",data:=ϩ #[] }:=Ea _ rfl;have p:Hs s1.heap a es ep t:=V.keep λo e=>ga _ e;have P:s1.heap.objs.size=S+1:=Ed ..;have Xg:wpAny (model prog w) A.in1 (pK (Db S) (Db a)$ Db S) (λMf m=>match Mf with | .done f=>Z (.ok f) m | .again Q=>Q.quiet=š/\codeAny (model prog w) A Q Z m) (λe m=>Z (.error e) m) s1:=by
  have M:s1.TypeIs (Db a) "set":=let ⟨o,g,x,_⟩:=p;⟨o,g,x.1⟩;refine ba$ gj (T:="set") M ?_;have ns:Gk (Db S) (Db a)=į:=by simp only[Gk,Od];exact ee N
  have n1:(Wh "set" == Wh "list")=į:=by decide
  simp only[ns];refine ba$ Ş p H L ?_
  ·have W:Vu (s1.heap.push$ HE a (wc 0) es.size ep) s1.heap.objs.size a (wc 0) 0 es.size ep:=⟨_,Ea _ rfl,rfl,rfl⟩
   have r:Hs (s1.heap.push$ HE a (wc 0) es.size ep) a es ep t:=p.keep λo e=>ga _ e;have G:By { s1 with heap:=s1.heap.push (HE a (wc 0) es.size ep) } (Db a) "set":=let ⟨o,g,x,_⟩:=r;⟨o,g,x.1⟩;have I:a≠s1.heap.objs.size:=by rw[P];exact Aa$ Kc N
   have D:S ∉ [s1.heap.objs.size,a]:=by rw[P];simp only[La,Wf,Wt,not_or];exact⟨Aa$ cc _,ee N⟩
   have K:∀ (j:List$ Int × Value),j.length=es.size->j=es.toList->∀ h tk d c,(∀ b o,b≠S->b≠s1.heap.objs.size->(s1.heap.push$ HE a (wc 0) es.size ep).get? b=W1 o->h.get? b=W1 o)->h.get? S=W1 { cls:=Wh "list",dict:=ŋ,data:=ϩ d c,slots:=#[] }->
     dq (λi v=>(j[i]?).map (·.2)=W1 v) d es.size->Z _ { s1 with heap:=h,toks:=tk }:=λj B hp h tk d c k g C=>⟨h,tk,s.drawn,d,c,rfl,rfl,λb o e=>by
      have lb:=wa e;exact k b o (Aa lb) (by rw[P];exact Aa$ Kc lb)$ ga _$ ga _ e,g,by rw[O2 B C,hp]⟩
   cases X:bT w with
   |true=>
    obtain⟨e1,e2⟩:=Zh.mp L;have po:(Jo (w.params.setOrder a ep) es).toList=es.toList:=by rw[show es=#[e1] by rw[<-e2],Ÿ]
    have B:=(eb List.length po).trans Wb;exact TV (oY (f:=λF=>0) (ord:=(Jo (w.params.setOrder a ep) es).toList) Y H I B λm i u F A' E' Q' ϋ=>Y0 X u H (by rw[<-Je];exact ϋ)) hn D G ⟨W,r⟩ (ga _ ϊ)$ K _ B po
   |false=>
    have B:es.toList.length=es.size:=Wb;exact TV (oY (f:=fB t.place) (ord:=es.toList) Y H I B λm i u hi A' E' Q' ϋ=>Ķ X hk L hi u H (by rw[<-Je];exact ϋ)) hn D G ⟨W,r⟩ (ga _ ϊ)$ K _ B rfl
 have l:∀ {h:Heap} {tk c:Nat} {n:Vo} {d:Array Value},(∀ b o,s.heap.get? b=W1 o->h.get? b=W1 o)->h.get? S=W1 { cls:=Wh "list",dict:=ŋ,data:=ϩ d c,slots:=#[] }->d.toList=es.toList.map (·.2)->R d.toList { s with heap:=h,toks:=tk,drawn:=n }:=λό g C=>Mf _ _ _ _ ό (zd$ wa g) C;refine ba$ Qq$ Fc vy$ ba$ Nc$ da ⟨Pd Ln _,Fc aH$ ic Xg (λf m x=>?_) (λe m x=>by obtain⟨_,_,_,_,_,z,_⟩:=x;cases z)⟩;cases f with
 |done f=>
  obtain⟨h,tk,n,d,c,e,rfl,ό,g,C⟩:=x;cases e;exact ba$ om g$ da$ l ό g C
 |again c1=>
  refine⟨x.1,lf x.2 λq s2 y=>?_⟩;obtain⟨h,tk,n,d,c,rfl,rfl,ό,g,C⟩:=y;exact ba$ om g$ da$ l ό g C
end
end Lake
namespace Lake
open Spec L2
def tJ(P:xa)(w:Na)(b:dd)(a:Addr):Heap->Prop:=λh=>zq (yh P w) (bT w) h a (λk=>(At b).any (·== k)) (At b).length
def x9:∀ b c:Heap,tJ P w d a b->(∀ u,b.get? a=W1 u->c.get? a=W1 u)->tJ P w d a c:=λb c x k=>tK x k
def A9(X:Cx):em->Hp->VK->Prop:=λxs H Q=>∃ (p:Addr) (ns:dd),xs=[ϖ p]/\Xe X.K H p (ns.map ϥ)/\ns.length<64/\∀ l,H l=ŋ->Q (ϖ l) (Qa H l$ ϧ$ tJ X.prog X.w ns l)
def ζ(j:X.Fd=š):xn X (Wh "set")$ A9 X:=by
 rintro h s v H xs w Q I r ⟨p,f,rfl,m,l,q⟩;obtain⟨u,rfl,n⟩:=Nt r;cases n;obtain⟨a,i,pl,t⟩:=I.list m;have d:a.length=f.length:=by rw[<-i.length,Ja]
 refine Ń (I.ok.hd j) pl.isList (GM i) (by rw[Pa,d];exact hW$ zb (zd l) ⋯) λh' tk c k=>?_;rw[show a.toArray.size=f.length by rw[Pa,d],ER]at c;refine⟨ϖ s.heap.objs.size,_,I.laid (λb o e=>k b o (wa e) e) (va _) ?_,rfl,q _$ I.pc.fresh$ va _⟩;exact⟨c,let ⟨o,_,_,_,g,_⟩:=c;⟨o,g⟩,x9⟩
def n0(I:gb X a b H s) d':gb X a b H { s with drawn:=d' }:=⟨I.ok,I.os,I.bare,I.base,I.loc,I.cell,I.free,I.uh,I.pin,I.pc,I.len⟩
def õ x:At [x]=[x]:=by simp[At,step_dedup]
def l9(X:Cx):em->Hp->VK->Prop:=λxs H Q=>∃ (a:Addr) (x:Int),xs=[ϖ a]/\H a=W1 (ϧ$ tJ X.prog X.w [x] a)/\∀ l,H l=ŋ->Q (ϖ l) (Qa H l$ ϰ [ϥ x])
def zg2(M:X.Fd=š):xn X (Ϟ "sorted")$ l9 X:=by
 intro z s Y H xs W Q I r h;obtain⟨a,x,rfl,L,q⟩:=h;obtain⟨u,rfl,rfl⟩:=Nt r;obtain⟨⟨o,S,R,t,E,F,G,T,n,ϊ,g7,k,ό⟩,_,_⟩:=I.pc a _ L;rw[õ]at n k;obtain⟨e,i⟩:=Zh.mp (Wb.trans k);have j:∃ t,e.2=Mh x t:=by
  obtain⟨P,p,K⟩:=(n x).mp ⋯;rw[i,Qb]at p;exact Ut$ p ▸ K
 obtain⟨tx,j⟩:=j;refine Mn kind_sorted plain_sorted entry_sorted (args_sorted1 _)$ ba (m:=checkCount "sorted" 1 1 _)$ da$ ba (J9 (A:=X.A.in1) (I.ok.hd M) ⟨o,E,F,G⟩ g7 ό k λh' tk d' D v g f=>?_);rw[f,i,db,Hg,j];refine ba$ ft ?_ (show 1<=sizeLine by decide);have c:(h'.push$ rm "list" [Mh x tx].toArray 0).get? h'.objs.size=W1 (rm "list" [Mh x tx].toArray 0):=Ea _ rfl;refine ba$ Xb$ gd dQ ⟨_,c,rfl⟩ gK (eQ c (.cons x tx .nil) (show 1<64 by decide) λd N B C ϋ=>⟨_,rfl,(da ⟨_,rfl,?_⟩)⟩)$ fQ _;obtain rfl:=jt.mp C;obtain⟨e,i⟩:=NZ (out:=d) c;exact⟨ϖ h'.objs.size,_,(n0 I d').laid (t':=tk) (λb o l=>by
  have y:b<h'.objs.size:=wa$ v b o l;rw[gQ (Aa y) (by rw[DB];exact Kc y)];exact ga _$ v b o l) g (show Uj X.prog X.w _ _ _ (ϰ [ϥ x])from⟨(show 1<=sizeLine by decide),d.toList,e,OF B,by rw[Pi];exact i⟩),rfl,q _$ I.pc.fresh g⟩
def xG(x:D):M D:=λa=>match (wf a x).bind Hr with
 |some [i]=>Ey [U i] a
 |_=>Ϙ
def Ă(hK:T.K=X.K)(x:X.Fd=š)(ϋ:Gl X "sorted")(P:X.mg "sorted" = ŋ)(q:Gl X "set")(r:X.mg "set" = ŋ)(N:FE T X e f)
  (z:(na [e] X.env=(į,Ib e X.env)::na [] X.env)⁻¹) (u:((Zb b$ na [] X.env).any (·.1)=į)⁻¹)
  (k:(na [Ϡ (Ϝ "set" w) [e] [] b] X.env=(į,Ib (Ϡ (Ϝ "set" w) [e] [] b) X.env)::na [] X.env)⁻¹) (j:((Zb n$ na [] X.env).any (·.1)=į)⁻¹) :
  FE T X (Ϡ (Ϝ "sorted" p) [Ϡ (Ϝ "set" w) [e] [] b] [] n)$ Pc xG f:=by
 intro m s st H Q I h;refine rG (zg2 x) ϋ P Lake.eR (qq (AM (ζ x) q r rfl (qq N Tu z) ⋯ ⋯ z u) Tu k) ⋯ ⋯ k j m s st H Q I ?_;obtain⟨V,ρ,σ,L,S,R⟩:=h;refine⟨V,ρ,σ,L,S,R.bind λd c W v Y D Z A ϊ g=>?_⟩;obtain⟨i,B,g⟩:∃ i,(wf c d).bind Hr=W1 [i]/\Rb T EN _ _ _ (Ey [U i] c) _:=by
  unfold xG at g;rcases e:(wf c d).bind Hr with _|_|⟨i,_|_⟩<;>rw[e]at g<;>first|exact⟨i,rfl,g⟩|exact g.elim
 ·obtain⟨ys,C,E⟩:=pf.mp B;obtain⟨a,vs,rfl,G,ό⟩:=A.ls ϊ C;have F:=lE ό E;subst F;exact⟨a,[i],rfl,Xe.of G,(show 1<64 by decide),λl y=>⟨l,i,rfl,rf,λl2 t=>(qD (Rb.mono (lj (o:=ϧ _) y) g) (A.fresh y) (xb.cons (by rw[Ha]) xb.nil) t)⟩⟩
def IC(c:gV):M D:=λb=>match c with
 |[x]=>(match Rf b x with
  |some a=>J (O b.length) (b++[ύ a])
  |none=>Ϙ)
 |_=>Ϙ
def ğ:pr T qO IC:=by
 intro E n H j d m Q r p h
 match d with
 |[]=>cases h
 |[x]=>
  unfold IC at h;dsimp only at h;cases b:Rf j x with
  |none=>rw[b]at h;exact h.elim
  |some g=>
   rw[b]at h;obtain⟨v,k,rfl,i,rfl⟩:=p;obtain⟨a,ws,rfl,e,f⟩:=Uy r i b;exact⟨a,ws,rfl,e,λl c=>(h _ _ _ (Du c) (r.push c ⟨ws,rf,Paired.qp f λl l z=>⟨z.1,Ha.mono (Du c) _ _ z.2⟩⟩)$ dC r)⟩
 |_::_::_=>trivial
section
variable{pins:List$ Addr × Obj}{σ:St}{H:Hp}{s:Shared}
def _root_.L2.gb.freeze(I:gb X pins σ H s)(hd:H a=W1 (ϛ d))(e:s.heap.get? a=W1 h):gb X pins σ (Qa H a$ Ϧ h$ ϛ d) s:=by
 have f:∀ b u,H b=W1 u->u≠ ϛ d->b≠a:=λb u q n z=>by rw[z,hd]at q;exact n (Cb q).symm
 refine I.step (ch:=[]) (λj z=>nomatch z) (λb o j j j q j=>q) (λb o j j j q j=>⟨o.slots,q⟩) (λb o j q n=>?_) (λb o j q=>⟨o,q⟩)
  (λb xs q=>by rw[Xd$ f b _ q (λz=>by cases z)];exact q) (λb u xs q=>by rw[Xd$ f b _ q (λz=>by cases z)];exact q) (λb ps q=>⟨#[],by rw[Xd$ f b _ q (λz=>by cases z),q];simp⟩) (λm i=>i) (λb u q=>?_) I.bare
 ·rw[Xd (λz=>by rw[z,hd]at n;cases n)];exact n
 ·by_cases g:b=a
  ·subst g;rw[rf]at q;cases q;exact⟨e,I.pc b _ hd⟩
  ·rw[Xd g]at q;exact(I.pc b u q).Rj (λc v j z=>z) (λc z=>by rw[Xd$ f c _ z (λy=>by cases y)];exact z) λc xs z=>by rw[Xd$ f c _ z (λy=>by cases y)];exact z
def Zf(I:gb X pins σ H s)(hd:H a=W1 (Ϧ g$ ϛ b)):∃ f d c,KV b f/\g.data=.dict d c/\s.heap.DictAt (Hj X.prog X.w) a f c:=by
 obtain⟨e,_,_,f,h,o,d,c,j,ex,i,r⟩:=I.pc a _ hd;rw[e]at j;cases j;exact⟨f,d,c,h,i,g,d,e,ex,i,r⟩
end
def Itm(d:Addr)(b:Obj)(a:List$ jc × V):It:=
 ⟨λi H=>H d=W1 (Ϧ b$ ϛ a)/\∃ x,a[i]?=W1 x,λi H v c=>∃ p k x,H p=ŋ/\v=ϖ p/\a[i]?=W1 (k,x)/\c=Qa H p (.Sa [kV k,x]),λi H=>H d=W1 (Ϧ b$ ϛ a)/\i=a.length⟩
theorem yJ{d:Type}:∀ {c:List$ d × V} {g:List$ d × Value} (r:KV c g) (i:Nat) {k:d} {x:V},c[i]?=W1 (k,x)->∃ u,g[i]?=W1 (k,u)/\Rc x u
 |_,_,Ϣ,i,_,_,h=>by simp at h
 |_,_,ϟ (b:=q) a b,0,k,x,h=>by
  simp at h;obtain⟨e,f⟩:=a;rw[h]at e f;exact⟨q.2,by simp[List.getElem?_cons_zero];exact xZ e.symm rfl,f⟩
 |_,_,ϟ a b,i+1,k,x,h=>by
  exact yJ b i h
def AQ(h:(Hj P w).is k v=š):Rc (kV k) v:=by
 rcases Aq h with⟨i,t,rfl,rfl⟩|⟨x,t,rfl,rfl⟩<;>exact⟨t,rfl⟩
def ĺ{P:xa}{w:Na}{K:ϗ}{j:List Fa}{kk:Nat}{N:Dd}(d f:Addr)(T:Obj)(t:List$ jc × V)(a0:d≠f){Y:Array Yt}{ϋ:Nat}(n:T.data=.dict Y ϋ) :
  Jm P w K (ϳ j kk N) (Itm d T t) [f] f (λi h=>∃ ok e,IsItemIter h f d i t.length ϋ ok e) where
 mem:=by simp
 obj:=λi h st b c=>by
  obtain⟨ok,e,s1⟩:=st
  simp_all
 keep:=λi h h' st k=>by
  obtain⟨ok,e,s1⟩:=st;exact⟨ok,e,k f ⋯ _ s1⟩
 item:=by
  intro X F M D R i v s σ H E I y st G;subst F M D;obtain⟨hd,⟨k,x⟩,S⟩:=G;obtain⟨vs,C,B,a,g,L⟩:=Zf I hd;rw[n]at g;cases g;obtain⟨u,hu,ru⟩:=yJ a i S;obtain⟨ok,e,s1⟩:=st;rw[a.length]at s1;refine wpAny_pyNext_items_item s1 L hu λr h' m ho Z a1 hk=>?_;have l:=ee$ wa s1;refine⟨Db s.heap.objs.size,rfl,wpAny_letOwnedTupleGo_items ho λh2 ό p=>⟨ϖ s.heap.objs.size,Qa H s.heap.objs.size _,I.Uu (λb o c q=>p.extBut b o (λz=>c (by simp[z]))$ hk b o (λz=>c (by simp[z])) q) y (va _) ?_,rfl,⟨_,k,x,(I.pc.fresh$ va _),rfl,S,rfl⟩,⟨r,u,by rw[a.length];exact ό⟩,λb c=>?_⟩⟩
  ·exact⟨(show 2<=sizeLine by decide),[r,u],ϟ (AQ m)$ ϟ ru Ϣ,⟨_,(p.extBut _ _ l Z),rfl,_,rfl⟩⟩
  ·obtain rfl:b=f:=by simpa using c
   rw[Xd (λz=>l z.symm)];exact(y b c).1
 done:=by
  intro X F M D R i v s σ H E I y st G;subst F M D;obtain⟨hd,hi⟩:=G;obtain⟨vs,C,B,a,g,L⟩:=Zf I hd;rw[n]at g;cases g;obtain⟨ok,e,s1⟩:=st;rw[a.length]at s1 hi;exact wpAny_pyNext_items_end (I.ok.hd R) s1 L ⋯ λh' ϊ=>⟨rfl,I.fu (λb o c q=>ϊ b o (λz=>c (by simp[z])) q) y⟩
 self:=λA i s Q E st h=>by
  obtain⟨ok,e,s1⟩:=st;exact W.kcp_self s1 h
def oq(l a:Addr):Heap->Prop:=λh=>h.IsItemsView l a
def Đ:V->em->Hp->VK->Prop:=λx xs H Q=>∃ a b,x=ϖ a/\xs=[]/\Rd H a (ϛ b)/\∀ l,H l=ŋ->Q (ϖ l) (Qa H l$ ϧ$ oq l a)
def fy(h:H a=W1 o):Qa H a o=H:=by
 funext b;unfold Qa;split;all_goals simp_all
theorem kA(h:Heap) o(b:o.data≠.freed):(h.push o).get? h.objs.size=W1 o:=by
 obtain⟨c,d,x,a⟩:=o;unfold Heap.get?;rw[show (h.push ⟨c,d,x,a⟩).objs[h.objs.size]?=W1 ⟨c,d,x,a⟩from Array.getElem?_push_size];cases x<;>first|rfl|cases b rfl
section
variable{elts:List Fa}{kk:Nat}{p0:Dd}
def mX:Lx X "dict.items" Đ:=by
 rintro f s st H x t v r Q I rx j ⟨a,h,rfl,rfl,g,q⟩;cases rx;cases j;obtain⟨z,hd,l,i,d⟩:=Ht I.pc g;refine Sm wh d.typeIs PySem.F.entry_dict_items (PySem.F.args_dict_items_1 _) (meets_dict_items _ a hd) ⟨⟨l,d⟩,⟨ϖ s.heap.objs.size,_,I.laid (λb o e=>ga _ e) (va _) ?_,rfl,q _$ I.pc.fresh$ va _⟩⟩;refine⟨⟨_,kA _ _ (λz=>by cases z),rfl,rfl⟩,⟨_,kA _ _ (λz=>by cases z)⟩,λm n p k=>?_⟩;obtain⟨o,e,c⟩:=p;exact⟨o,k o e,c⟩
def ø(e:TE):TI:=λf H R=>e f H λv c=>∃ l a b,v=ϖ l/\c l=W1 (ϧ$ oq l a)/\Rd c a (ϛ b)/\∀ d,c a=W1 (ϛ b)\/c a=W1 (Ϧ d$ ϛ b)->R (Itm a d b) (Qa c a$ Ϧ d$ ϛ b)
def lV(B:PE X d r):PI X (ϳ elts kk p0) d$ ø r:=by
 intro g s t H R I h;refine Zc (B g s t H _ I h) λv s1 ſ=>?_;obtain⟨x,H1,k,E,D⟩:=ſ;obtain⟨l,a,i,rfl,C,c,q⟩:=D;cases E;obtain⟨f,n,m⟩:∃ f,(H1 a=W1 _\/H1 a=W1 (Ϧ f _))/\gb X g t (Qa H1 a$ Ϧ f _) s1:=by
  rcases c with c|⟨f,c⟩
  ·obtain⟨_,_,F,j,o,y,w,e,_⟩:=k.pc a _ c;exact⟨o,ϔ c,k.freeze c e⟩
  ·exact⟨f,ϕ c,by rw[fy c];exact k⟩
 obtain⟨F,y,w,j,u,p⟩:=Zf m rf;refine wpAny_pyIter_items ((k.pc l _ C).1) p ⟨s1.heap.objs.size,[s1.heap.objs.size],_,Itm a f i,_,rfl,m.kept (λb o e=>ga _ e),ĺ a _ f i (Aa p.lt_size) u,⟨Yb,Yb,by rw[j.length];exact kA _ _ (λz=>by cases z)⟩,λb A=>?_,q f n⟩;obtain rfl:b=s1.heap.objs.size:=by simpa using A
 exact m.Km (va _)$ m.pc.fresh$ va _
noncomputable def Kq(a:List$ jc × D):NX:=λi b=>match a[i]? with
 |some p=>W1 (W1$ ϐ [Nv p.1,p.2])
 |none=>if i=a.length then W1 ŋ else ŋ
def sH(d:D):M NX:=λσ=>match d with
 | Ϩ ks xs=>if ks.length=xs.length then J (Kq$ ks.zip xs) σ else Ϙ
 |_=>Ϙ
def Uw(f:Ev->M D):Ev->M NX:=λa=>rc (f a) sH
def pP k:Ha T a H (Nv k)$ kV k:=by
 cases k<;>(unfold Nv kV;rw[Ha])
def CP(d:H a=W1 (ϛ c)):Wc μ H μ$ Qa H a$ Ϧ od$ ϛ c:=by
 have f:∀ b u,H b=W1 u->u≠ ϛ c->b≠a:=λb u q n z=>by rw[z,d]at q;exact n (Cb q).symm
 refine⟨⟨[],by simp⟩,λp xs h=>by rw[Xd$ f p _ h (λz=>by cases z)];exact h,λp o u h=>by rw[Xd$ f p _ h (λz=>by cases z)];exact h,λp o h n=>⟨?_,n⟩⟩;by_cases e:p=a
 ·subst e;rw[d]at h;cases h;exact⟨_,rf,ϕ$ ϔ ⟨od,c,rfl,rfl⟩⟩
 ·exact⟨o,by rw[Xd e];exact h,ϔ rfl⟩
theorem iF{c e:Type}{R:c->e->Prop}:∀ {xs:List c} {d:List e},Paired R xs d->∀ (i:Nat) {x:c},xs[i]?=W1 x->∃ y,d[i]?=W1 y/\R x y:=by
 intro _ _ h;induction h with
 |nil=>intro i _ h;simp at h
 |cons a _ k=>
  intro i x h;cases i with
  |zero=>clear k;simp_all
  |succ i=>exact k i h
def nL(h:FE T X e f)(m:(Lc e "items" X.env (Ib e X.env)=Ib e X.env)⁻¹)(o:((j.endLine == k.line)=š)⁻¹) :
  jq T X (ϳ elts kk p0) (Ϡ (ϝ e "items" j) [] [] k)$ Uw f:=by
 intro G s st H R I hw;refine lV (DO ie wh Nn mX h m o) G s st H R I ?_;obtain⟨μ,ρ,σ,hE,hr,hp⟩:=hw;refine⟨μ,ρ,σ,hE,hr,hp.bind λd ό c v A b e1 r1 q1 w=>?_⟩;unfold sH at w;cases d with
 |za ks xs=>
  dsimp only at w;by_cases Y:ks.length=xs.length
  ·rw[ja Y]at w;obtain⟨a,g,rfl,hn,n,ϋ,Q⟩:=q1;refine⟨⟨a,g,rfl,n⟩,a,g,rfl,rfl,n,λl t=>?_⟩;have S:a≠l:=by rcases n with n|⟨_,n⟩<;>exact ym n t
   have N:Rd (Qa A l$ ϧ$ oq l a) a$ ϛ g:=by unfold Rd;rw[Xd S];exact n
   refine⟨l,a,g,rfl,rf,N,λϊ B=>?_⟩;have x1:Wc c A c$ Qa A l$ ϧ$ oq l a:=lj t;have x:Qc T c (Qa A l$ ϧ$ oq l a) ό:=r1.fresh t;obtain⟨x2,V⟩:Wc c A c _/\Qc T c _ ό:=by
    rcases B with B|B
    ·have y:=CP (μ:=c) (od:=ϊ) B;exact⟨x1.trans y,x.keep y (λb K=>Xd (λz=>hn (by rw[<-z];exact K)))$ x.tb.out (λb K=>Xd K)$ ϕ ⟨_,B⟩⟩
    ·rw[fy B];exact⟨x1,x⟩
   have h3:Qa (Qa A l$ ϧ$ oq l a) a _ a=W1 (Ϧ ϊ$ ϛ g):=rf;refine Rb.here (Rb.mono x2 w) V λa0 H2 a1 i ex r2=>?_;have W:=ex.Ic _ _ _ h3;have E:=Jg.mono (x2.trans ex)$ qG ϋ Q;unfold Kq;cases ei:(ks.zip xs)[i]? with
   |none=>
    by_cases L:i=(ks.zip xs).length
    ·rw[ja L];exact⟨W,by rw[L];exact Paired.length E⟩
    ·rw[ra L];trivial
   |some p=>
    obtain⟨q,Z,P,rx⟩:=iF E i ei;refine⟨⟨W,q,Z⟩,λz H' y=>?_⟩;obtain⟨r,k',x',u,rfl,C,rfl⟩:=y;rw[Z]at C;cases C;refine⟨lj u,r2.fresh u,?_⟩;rw[Ha,P];exact⟨r,_,rfl,rf,xb.cons (pP _)$ xb.cons (Ha.mono (lj u) _ _ rx) xb.nil⟩
  ·rw[ra Y]at w;exact w.elim
 |_=>exact w.elim
end
def Si(nx:NX)(n:Nat)(e:D->Ev->Option Ev)(fi:Ev->M Bool)(b:Ev->M D):Nat->Nat->Ev->M Unit
 |0,_,_=>Jb
 |k+1,i,g=>λf=>match nx i f with
  |none=>Ϙ
  |some ŋ=>J () f
  |some (W1 d)=>match e d g with
   |none=>Ϙ
   |some a=>rc (qt$ fi a) (λc=>if c=š then rc (qt$ b a) λy=>rc (Ei (O n) [y]) λh=>Si nx n e fi b k (i+1) a else Si nx n e fi b k (i+1) a) f
def pL(d:D->Ev->Option Ev)(c:Ev->M Bool)(b:Ev->M D)(e:Ev)(nx:NX):M D:=λa=>
 rc (Si nx a.length d c b 1001 0 e) (λf=>ret$ O a.length)$ a++[ϑ []]
def uk(a:Ev->M NX)(e:dl)(f:D->Ev->Option Ev)(d:Ev->M Bool)(c:Ev->M D):Ev->M D:=λb=>rc (a b)$ pL f d c$ Uz e b
def eY {st}
  (hc:X.Fd=š) (L:Sj X x M' ix a)
  (d6:∀ cl C ϋ G ex,FG T (Ko X (x::z0::M') a cl C ϋ G ex) a9 tg)
  (d3:∀ cl C ϋ G ex,vx T (Ko X (x::z0::M') a cl C ϋ G ex) b2 fi)
  (c6:∀ cl C ϋ G ex,FE T (Ko X (x::z0::M') a cl C ϋ G ex) b1 H)
  (I3:gb X b6 st H3 Z) (c7:∀ b∈fp,Wk X b6 H3 b/\b<Z.heap.objs.size) (d5:I.Ns Z.heap.objs.size m) (kp:∀ b o,Z.heap.get? b=W1 o->I.get? b=W1 o)
  (TT:Jm X.prog X.w X.K a9 ό fp it tn) (b5:tn 0 I) (so:Jy T P H3 nx ό) (hE:Jh T P H3 ρ st) (r3:Qc T P H3 c3) (hn:P[n]?=W1 D0)
  (p3:Rb T E (Ha T) P H3 (rc (Si nx n tg fi H 1001 0$ Uz ix ρ) (λr=>ret$ O n) c3) Q)
  (Mf:∀ s6 q m6,s6.heap.Ns Z.heap.objs.size m6->q Z.heap.objs.size=ŋ->Un (rk X.stack) fp H3 q Z.heap s6.heap->s6.os=Z.os->Qh X.prog X.w q s6.heap->zh s6.gens->Q (ϖ D0) q->RR (.ok .next) s6) :
  codeAny (model X.prog X.w) X.A (.compStart (ϴ b1 [⟨a9,a4,b2,0⟩] a b9) 0 (Db it) (Db D0)$ compEnvC a (Ri X.env a.names []) Z.heap.objs.size X.env)
   RR { Z with heap:=I,toks:=t' }:=by
 have I4:=zez (z0:=z0) (t':=t') I3 L c7 d5 kp;let Y:Cx:=Ko X (x::z0::M') a (Ri X.env a.names []) Z.heap.objs.size Z H3 fp;have a8:∀ {q:Hp},(∀ b∈fp,q b=ŋ)->∀ b∈fp,Wk Y [] q b:=fun {q} hn b hb=>⟨hn b hb,(I4.ok.oJ b hb).1,I4.ok.Ku b hb,ϔ hb,(I4.ok.oJ b hb).2,λp hp=>absurd (show p∈([]:dN)from hp) ⋯⟩
 have qk:codeAny (model X.prog X.w) X.A (.compLoop (ϴ b1 [⟨a9,a4,b2,0⟩] a b9) 0 (Db it) (Db D0) Y.env) RR { Z with heap:=I,toks:=t' }:=by
  refine codeAny_loop rfl (λk s'=>∃ i g q h t F,gb Y [] F q s'/\tn i s'.heap/\(∀ b∈fp,q b=ŋ)/\Wc P H3 g q/\Jh T g q t F/\Qc T g q h/\
   Rb T E (Ha T) g q (rc (Si nx n tg fi H k i t) (λr=>ret$ O n) h) Q) ?_ 1001 ⟨0,P,H3,c3,Uz ix ρ,zA ix st,I4,b5,λb hb=>(c7 b hb).1.1,Ϯ _ _,Ą ix hE,r3,p3⟩
  rintro k s' ⟨i,g,q,h,t,F,I',c9,c4,W,b8,r',p'⟩;show wpAny _ X.A ((compTurn (ϴ b1 [⟨a9,a4,b2,0⟩] a b9) 0 _ (Db D0) Y.env).onRaise$ λx=>do Qi x Y.env;theTreesLotGoes x) _ _ s';refine wpAny_noted$ ic (E:=λr r=>False) ?_ (λr r z=>z) (λr r z=>z.elim);refine ba$ Vs ?_;cases k with
  |zero=>exact p'.elim
  |succ k=>
   have b4:=so g q h i W r';cases en:nx i h with
   |none=>
    have e1:Si nx n tg fi H (k+1) i t h=Ϙ:=by unfold Si;simp only[en]
    rw[uI (m':=Jb) e1]at p';exact p'.elim
   |some od=>
    rw[en]at b4;cases od with
    |none=>
     have e1:Si nx n tg fi H (k+1) i t h=J () h:=by unfold Si;simp only[en]
     rw[uI (m':=ret ()) e1]at p';refine ba (Zc (TT.done Y rfl rfl rfl hc i [] s' F q (λr r=>False) I' (a8 c4) c9 b4) λr s6 ⟨er,I6⟩=>?_);subst er;refine da ?_;obtain⟨m6,d4,_⟩:=I6.loc;exact Mf s6 q m6 d4 I6.free I6.base I6.os I6.pc I6.bare$ Rb.here p' r' (by rw[Ha];exact⟨_,rfl,W.get hn⟩)
    |some d=>
     refine ba (Zc (TT.item Y rfl rfl rfl hc i [] s' F q (λr r=>False) I' (a8 c4) c9 b4.1) λr s6 ſ=>?_);obtain⟨u,er,h6⟩:=ſ;subst er;refine ba (Zc h6 λr s7 ſ=>?_);obtain⟨xv,H7,I7,r7,y7,c2,d2⟩:=ſ;obtain⟨b7,d7,hd⟩:=b4.2 xv H7 y7;replace p':=Rb.mono b7 p';replace b8:=b8.mono b7;replace W:=W.trans b7;replace r':=d7;cases et:tg d t with
     |none=>
      have e1:Si nx n tg fi H (k+1) i t h=Ϙ:=by unfold Si;simp only[en,et]
      rw[uI (m':=Jb) e1]at p';exact p'.elim
     |some l=>
      have e1:Si nx n tg fi H (k+1) i t h=rc (qt$ fi l) (λc=>if c=š then rc (qt$ H l) λy=>rc (Ei (O n) [y]) λr=>Si nx n tg fi H k (i+1) l else Si nx n tg fi H k (i+1) l) h:=by
       conv=>lhs;unfold Si
       simp only[en,et]
      rw[uI e1,UK]at p';refine ba (Zc (d6 _ _ _ _ _ _ s7 F H7 xv u (λN H8=>H8=H7/\Jh T g H7 l N) (I7.pinned (a8 d2)$ TT.obj _ _ c2) r7 ⟨g,h,t,d,l,b8,r',hd,et,λN a3=>⟨rfl,a3⟩⟩) λr s8 ſ=>?_);obtain⟨N,H8,I8,d1,a3⟩:=ſ;subst d1;refine ba (Zc (d3 _ _ _ _ _ _ s8 N H8 (λc H9=>∃ ϊ a0,Wc g H8 ϊ H9/\Qc T ϊ H9 a0/\Rb T E (Ha T) ϊ H9 (rc (if c=š then rc (qt$ H l) λy=>rc (Ei (O n) [y]) λr=>Si nx n tg fi H k (i+1) l else Si nx n tg fi H k (i+1) l) (λr=>ret$ O n) a0) Q) I8
       ⟨g,l,h,a3,r',p'.cu λc a0 ϊ c' H9 r e9 r9 q9 p9=>by cases q9;exact⟨ϊ,a0,e9,r9,p9⟩⟩) λc s9 ⟨H9,I9,ϊ,a0,e9,r9,p9⟩=>?_)
      have a2:∀ {a7:Shared} {s:Hp} {f:ac} {j:Da},gb Y ([]++LJ fp s7.heap) N s a7->Wc g H8 f s->Qc T f s j->Rb T E (Ha T) f s (rc (Si nx n tg fi H k (i+1) l) (λr=>ret$ O n) j) Q->
        ∃ m,m<k+1/\∃ i g q h t F,gb Y [] F q a7/\tn i a7.heap/\(∀ b∈fp,q b=ŋ)/\Wc P H3 g q/\Jh T g q t F/\Qc T g q h/\Rb T E (Ha T) g q (rc (Si nx n tg fi H m i t) (λr=>ret$ O n) h) Q:=by
       intro a7 s f j a1 V a6 a5;refine⟨k,cc _,i+1,f,s,j,l,N,a1.uj,TT.keep _ _ _ c2 (λb hb o e=>(a1.pin (b,o)$ Ra _$ Ra _$ eI hb e).1),λb hb=>?_,W.trans V,a3.mono V,a6,a5⟩;obtain⟨o,e,_⟩:=TT.obj _ _ c2 b hb;exact(a1.pin (b,o)$ Ra _$ Ra _$ eI hb e).2.1
      cases c with
      |false=>
       exact da ⟨rfl,a2 I9 e9 r9 p9⟩
      |true=>
       rw[ja rfl,UK]at p9;refine ba$ ba (Zc (c6 _ _ _ _ _ _ s9 N H9 (λv S=>∃ y B R,Wc g H8 B S/\Qc T B S R/\Ha T B S y v/\Rb T E (Ha T) B S (rc (Ei (O n) [y]) (λr=>rc (Si nx n tg fi H k (i+1) l) (λr=>ret$ O n)) R) Q) I9
        ⟨ϊ,l,a0,a3.mono e9,r9,p9.cu λy R B v S r b0 c1 c0 b3=>⟨y,B,R,e9.trans b0,c1,c0,by rw[UK]at b3;exact b3⟩⟩) λw d8 ⟨v,S,d0,c8,y,B,R,b0,c1,c0,b3⟩=>?_)
       have c5:=V5 (Q:=λr s=>∃ f j,Wc g H8 f s/\Qc T f s j/\Rb T E (Ha T) f s (rc (Si nx n tg fi H k (i+1) l) (λr=>ret$ O n) j) Q) c1 ((W.trans b0).get hn) c0
        (b3.bind λr j f d9 s r V a6 e0 a5=>⟨f,j,b0.trans V,a6,a5⟩)
       refine ba (Zc (uO (X:=Y) _ d8 N S (ϖ D0) [v] (Db D0) [w] _ d0 rfl (ϟ c8 Ϣ) c5) λr a7 ſ=>?_);obtain⟨d9,s,a1,_,f,j,V,a6,a5⟩:=ſ;exact da$ da ⟨rfl,a2 a1 V a6 a5⟩
 exact codeAny_compStart_list qk$ TT.self X.A 0 _ _ _ b5 qk
def yde
  (hc:X.Fd=š) (L:Sj X x R ix a) (G:jq T X u h ϋ)
  (a2:∀ cl C d c ex,FG T (Ko X (x::z0::R) a cl C d c ex) u tg)
  (Y:∀ cl C d c ex,vx T (Ko X (x::z0::R) a cl C d c ex) N fi)
  (B:∀ cl C d c ex,FE T (Ko X (x::z0::R) a cl C d c ex) z fe)
  (hs:∀ y,pe h X.env y=pure y:=by intro _;rfl) :
  FE T X (ϴ z [⟨u,h,N,0⟩] a a4)$ uk ϋ ix tg fi fe:=by
 rintro p s st H Q I ⟨S,ρ,σ,hE,hr,hp⟩;refine kt rfl hs (aM X.env a$ iB I L) L.kind (λy hy e=>?_) ?_
 ·have q:=Xa.mp L.names y hy;rw[e]at q;exact eq_of_beq q
 have h1:=G p s st H (λό j=>∃ nx f w,Wc S H f j/\Qc T f j w/\Jy T f j nx ό/\Rb T _ _ f j _ Q) I
  ⟨S,ρ,σ,hE,hr,hp.bind λnx a6 a5 ό H1 v e1 r1 q1 p1=>⟨nx,a5,a6,e1,r1,q1,p1⟩⟩
 refine Zc h1 λv s1 h2=>Zc h2 λa7 s2 h3=>?_;obtain⟨it,fp,tn,ό,j,rfl,I2,TT,P,f2,nx,f,w,ϊ,r2,so,p2⟩:=h3;refine Nc$ ck (rF L) (by intro y hy;simp at hy) (λK l m=>?_) L.kind;have I3:=I2.Xz (t':=s2.toks) Ϣ ⋯;have A:j s2.heap.objs.size=ŋ:=I2.pc.fresh$ va _;have t:Wc f j _$ Qa j s2.heap.objs.size$ ϰ []:=Du A;have a1:s2.heap.objs.size<(s2.heap.push { cls:=Wh "list",data:=ϩ [].toArray }).objs.size:=by rw[Ed];exact cc _
 have kp:∀ b o,(s2.heap.push { cls:=Wh "list",data:=ϩ [].toArray }).get? b=W1 o->K.get? b=W1 o:=λb o e=>m.extBut b o (Aa$ wa e)$ ga _ e;have g:∀ b∈fp,Wk X p (Qa j s2.heap.objs.size$ ϰ []) b/\b<(s2.heap.push { cls:=Wh "list",data:=ϩ [].toArray }).objs.size:=λb k=>by
  obtain⟨o,e,_⟩:=TT.obj 0 _ P b k;have lt:=wa e;exact⟨⟨by rw[Xd$ Aa lt];exact(f2 b k).1,(f2 b k).2⟩,Pq lt a1⟩
 refine eY (n:=w.length) hc L a2 Y B I3 g l kp TT (TT.keep 0 _ _ P λb k o e=>kp b o$ ga _ e)
  (λS H σ i ex r=>so S H σ i (t.trans ex) r) ((hE.mono ϊ).mono t) (r2.push (ob:=ϑ []) A ⟨[],rf,xb.nil⟩) (by rw[<-r2.len];simp) (p2.mono t) (λs6 H' m6 Z V a3 a0 E W hq=>⟨m6,Z,λh7 F=>?_⟩)
 exact⟨ϖ s2.heap.objs.size,H',(L2.gb.Py (s':={ s6 with heap:=h7 }) (ch:=fp) I3 a0 (ŝ a3 F$ va _) (Ï E F V) W$ λb k=>⟨(g b k).1.2.2.2.1,(g b k).1.2.1,(g b k).1.2.2.2.2.1,(g b k).1.2.2.2.2.2⟩),rfl,hq⟩
def bG(K:ϗ)(b:Str->Option Value)(x:Str)(c:ab):Prop:=∃ a,b x=W1 (Db a)/\UB K a c
noncomputable def xL:b'->ab->Bool
 |[],[]=>š
 | .str y _::a,x::ss=>(y == x) && xL a ss
 |_,_=>į
def BN(K:ϗ)(a:Addr)(c:ab):Bool:=match K.lookup a with
 |some o=>(o.cls == Wh "tuple") && (match o.data with
  | ϩ b _=>decide (b.size<=sizeLine) && xL b.toList c
  |_=>į)
 |none=>į
theorem zev:∀ {a:b'} {ss:ab},xL a ss=š->ke (ss.map V.str) a
 |[],[],_=>Ϣ
 |[],_::_,h=>by cases h
 |v::a,[],h=>by cases v<;>cases h
 |v::a,x::ss,h=>by
  cases v with
  |str y t=>
   replace h:=(Ca _ _).mp h;obtain rfl:=eq_of_beq h.1;exact ϟ ⟨t,rfl⟩$ zev h.2
  |_=>cases h
def UB.of{K}(h:BN K a f=š):UB K a f:=by
 unfold BN at h;cases e:K.lookup a with
 |none=>rw[e]at h;cases h
 |some o=>
  rw[e]at h;simp only[Ca]at h;obtain⟨g,b⟩:=h;cases d:o.data with
  |seq c n=>
   rw[d]at b;simp only[Ca,Bb]at b;exact⟨o,c,n,e,eq_of_beq g,d,b.1,zev b.2⟩
  |_=>simp_all
def pJ(a:Bool)(b:ab)(x:D):M D:=λc=>match x with
 | ϒ z=>J (Ϗ$ if a then !KC (.str z) (b.map V.str)else KC (.str z) (b.map V.str)) c
 |_=>Ϙ
section
variable{e:Fa}{f:Ev->M D}{x:Str}{p pos:Dd}{ss:ab}
theorem y3(ss:ab):(ss.map V.str).all xo=š:=by rw[Ek];exact Xa.2 λa a=>rfl
def M8(j:UB X.K a ss)(h:tF T X (Pc (pJ b ss) f) g H Q):yD (ML X.K b) (tF T X f) (tC$ ϖ a) g H Q:=by
 obtain⟨n,ρ,σ,i,l,k⟩:=h;refine⟨n,ρ,σ,i,l,k.bind λd p o v q s r m e c=>?_⟩;cases d with
 |str z=>rw[Ha]at e;subst e;exact⟨a,ss.map V.str,rfl,ϕ$ ϕ j,rfl,y3 ss,Rb.here c m (by rw[Ha])⟩
 |_=>exact c.elim
def o8(l:Gl X x)(i:bG X.K X.mg x ss)(c:FE T X e f)(hd: ~~~((x == ("__debug__" : Str))=į)):FT T X (.Compare e [.In] [Ϝ x p] pos)$ eT$ Pc (pJ į ss) f:=by
 obtain⟨a,m,j⟩:=i;intro b s st H Q I h;refine KP IN c (rH l m (v:=ϖ a) rfl hd) rfl b s st H Q I$ M8 j ?_;obtain⟨w,ρ,σ,c,o,n⟩:=h;refine⟨w,ρ,σ,c,o,n.bind λd z y v A d B u r t=>?_⟩;obtain⟨k,g,q⟩:=HN r t;exact⟨k,g,q.here u rfl⟩
end
def Į{K:ϗ}(X:K.In h)(G:h.Ns mainGlobals c)(a:W.nsIn K mainGlobals x=W1 (W1$ Db C))(b:BN K C d=š):bG K c x d:=⟨C,Zs X G a,UB.of b⟩
section
variable{prog:xa}{w:Na}{A:Ia}{E:Value->Shared->Prop}{l q I S:Addr}{n:Nat}{P:Nat->Value->Prop}{R:Ho->Shared->Prop}{Q:Value->Shared->Prop}
def Q2(G:Nat->Value->Int->Shared->Prop)(hh:A.handled=ŋ)(Y:l≠I)(H:S≠I)(a7:l≠S)
  (hl:∀ j d a s,G j d a s->∃ y:b',y.length=n/\(∀ j v,y[j]?=W1 v->P j v)/\s.heap.IsList l y.toArray)
  (u:∀ j d a s B tk,G j d a s->(∀ b o,b≠I->b≠S->s.heap.get? b=W1 o->B.get? b=W1 o)->G j d a { s with heap:=B,toks:=tk })
  (a4:∀ j d a s v oI oS,G j d a s->P j v->s.heap.get? I=W1 oI->s.heap.get? S=W1 oS->(∀ v,oI.data≠.cell v)->(∀ v,oS.data≠.cell v)->
   wpAny (model prog w) A.in1 (call (Db q) [v]) (λx s'=>∃ k t,x=Mh k t/\s'.heap.get? I=W1 oI/\s'.heap.get? S=W1 oS/\G (j+1) (if k<a then v else d) (if k<a then k else a) s') (λF F=>False) s)
  (hR:∀ d a s,G n d a s->R (.ok$ .ret d) s) :
  ∀ r j s d a tb c,n - j=r->j<=n->G j d a s->s.heap.get? S=W1 (rm "list" #[d,Mh a tb] c)->s.heap.IsListIter I l j->
   codeAny (model prog w) A (.builtin "min.loop" ⟨[Db I,Db q,Db S],[]⟩) R s:=by
 have a6:(toString "min"++toString ".loop" : String) = "min.loop":=by decide
 intro r;induction r with
 |zero=>
  intro j s d a tb c hr hj g V hit;have W:j=n:=by lia
  obtain⟨y,ϋ,a2,K⟩:=hl j d a s g;have N:y.toArray.size=n:=(Pa ..).trans ϋ;refine Fc Lh ?_;rw[Around.under_plainId se _];show wpAny _ A.in1 (seqItems? (Db S) >>= _) _ _ _;refine ba$ Yj V rfl ?_;show wpAny _ A.in1 (tryCatch (pyNext$ Db I) _ >>= _) _ _ _;refine ba$ Ce ((Cj (prog:=prog) (w:=w) (A:=A.in1) hh I l Y y.toArray).done _ _ _ ⟨by rw[N,<-W];exact hit,K⟩ λB a3 ό=>?_);have m:∀ b o,b≠I->s.heap.get? b=W1 o->B.get? b=W1 o:=λb o n e=>ό b o (by simpa using n) e;have D:=m S _ H V;have s1:=Ec B S (Fe λF=>(#[]:Array Value));refine ba$ jh D rfl$ ba$ Uo$ da ?_;subst W;exact hR d a _ (u _ _ _ s _ _ g λb o n1 n2 e=>by rw[s1.2 b n2];exact m b o n1 e)
 |succ r ih=>
  intro j s d a tb c hr hj g V hit;have L:j<n:=by lia
  obtain⟨y,ϋ,a2,K⟩:=hl j d a s g;have N:y.toArray.size=n:=(Pa ..).trans ϋ;refine Fc Lh ?_;refine ba$ Yj V rfl ?_;refine ba$ Ce ((Cj (prog:=prog) (w:=w) (A:=A.in1) hh I l Y y.toArray).item j _ _ _ (by rw[N];exact L) ⟨hit,K⟩ λv B a3 hP a1 ό=>?_);have m:∀ b o,b≠I->s.heap.get? b=W1 o->B.get? b=W1 o:=λb o n e=>ό b o (by simpa using n) e;have hv:P j v:=a2 j v (by simpa using hP);obtain⟨Q,Z,a0,M⟩:=id a1.1;have D:=m S _ H V;refine ba$ Ce$ Xb (ic (a4 j d a _ v Q _ (u _ _ _ s B a3 g λb o n1 n2 e=>m b o n1 e) hv Z D (λv z=>by rw[M]at z;cases z)$ λv z=>by cases z) (λx p he=>?_) λF F hF=>hF.elim);obtain⟨C,T,rfl,ϊ,E,g2⟩:=he;have X:p.heap.IsListIter I l$ j+1:=⟨Q,ϊ,a0,M⟩
  refine ba$ Ce$ Xb$ ba$ CmpOf.ints_lt (prog:=prog) (w:=w) (A:=A.in1) (P:=λ(i:Nat) v=>∃ t,v=Mh (if i=0 then C else a) t) (λi=>if i=0 then C else a) (λi v h=>h) 0 1 _ _ _ _ _ ⟨T,rfl⟩ ⟨tb,rfl⟩ ?_;refine ba$ Xb$ Mc ?_;refine ba$ Uo$ da ?_;by_cases f:C<a
  ·have s1:=Ec p.heap S (Fe λF=>#[v,Mh C T]);obtain⟨c2,a5⟩:∃ c2,(p.heap.update S$ Fe λF=>#[v,Mh C T]).get? S=W1 (rm "list" #[v,Mh C T] c2):=⟨_,lK E λF=>#[v,Mh C T]⟩
   rw[ja f,ja f]at g2;simp only[f,decide_true,sg,Mz,oj];refine ba ?_;refine jh E rfl$ ba$ Uo$ da ⟨Pd se _,ih (j+1) _ v C T c2 ⋯ L (u _ _ _ p _ _ g2 λb o n1 n2 e=>by rw[s1.2 b n2];exact e) a5 ⟨Q,(s1.2 I H.symm).trans ϊ,a0,M⟩⟩
  ·rw[ra f,ra f]at g2;simp only[f,decide_false,sf,oj,sg,Mz];refine ba$ Uo ?_;exact da ⟨Pd se _,ih (j+1) _ d a tb c ⋯ L (u _ _ _ p _ _ g2 λb o F F e=>e) E X⟩
def N1(R:Shared->Prop)(G:Addr->Addr->Nat->Value->Int->Shared->Prop)(hh:A.handled=ŋ)(g0:R s){f:b'}(a5:f.length=n)(a4:∀ j v,f[j]?=W1 v->P j v)(h:s.heap.IsList l f.toArray)(ό:0<n)
  (W:∀ s h' tk,R s->(∀ b o,s.heap.get? b=W1 o->h'.get? b=W1 o)->R { s with heap:=h',toks:=tk })
  (first:∀ I S s1 v oI i,s.heap.objs.size<=I->s.heap.objs.size<=S->S≠I->(∃ s0,R s0/\(∀ b o,b≠I->s0.heap.get? b=W1 o->s1.heap.get? b=W1 o)/\(s1={ s0 with heap:=s1.heap,toks:=s1.toks }))->P 0 v->s1.heap.get? I=W1 oI->s1.heap.get? S=W1 i->(∀ v,oI.data≠.cell v)->(∀ v,i.data≠.cell v)->
   wpAny (model prog w) A.in1 (call (Db q) [v]) (λx m=>∃ k t,x=Mh k t/\m.heap.get? I=W1 oI/\m.heap.get? S=W1 i/\G I S 1 v k m) (λJ J=>False) s1)
  (hl:∀ I S j c a s,G I S j c a s->∃ f:b',f.length=n/\(∀ j v,f[j]?=W1 v->P j v)/\s.heap.IsList l f.toArray)
  (H:∀ I S j c a s h' tk,G I S j c a s->(∀ b o,b≠I->b≠S->s.heap.get? b=W1 o->h'.get? b=W1 o)->G I S j c a { s with heap:=h',toks:=tk })
  (ϋ:∀ I S j c a s v oI i,G I S j c a s->P j v->s.heap.get? I=W1 oI->s.heap.get? S=W1 i->(∀ v,oI.data≠.cell v)->(∀ v,i.data≠.cell v)->
   wpAny (model prog w) A.in1 (call (Db q) [v]) (λx m=>∃ k t,x=Mh k t/\m.heap.get? I=W1 oI/\m.heap.get? S=W1 i/\G I S (j+1) (if k<a then v else c) (if k<a then k else a) m) (λJ J=>False) s)
  (hQ:∀ I S c a s,G I S n c a s->Q c s) :
  wpAny (model prog w) A (call (Ϟ "min") [Db l] [(Ai "key",Db q)]) Q E s:=by
 obtain⟨ol,a3,_⟩:=id h;have D:=wa a3;refine kmk_tree PySem.F.kind_min PySem.F.plain_min PySem.F.entry_min (kmk_min_key _ _)$ ba$ xy (rfl)$ ba$ da$ ba$ Yh h$ ba$ ft ?_$ Bh _;have Y:(s.heap.push { cls:=Wh "list_iterator",data:=ϫ #[Db l,Mh 0 0] }).objs.size=s.heap.objs.size+1:=DB ..;have C:=Aa D;have d:(s.heap.push { cls:=Wh "list_iterator",data:=ϫ #[Db l,Mh 0 0] }).objs.size≠s.heap.objs.size:=by rw[Y];exact ee$ cc _
 have a1:l≠(s.heap.push { cls:=Wh "list_iterator",data:=ϫ #[Db l,Mh 0 0] }).objs.size:=by rw[Y];exact Aa$ Kc D
 have u:s.heap.objs.size<=(s.heap.push { cls:=Wh "list_iterator",data:=ϫ #[Db l,Mh 0 0] }).objs.size:=by rw[Y];exact Ch _
 refine da ⟨Pd se _,?_⟩;have gI:((s.heap.push { cls:=Wh "list_iterator",data:=ϫ #[Db l,Mh 0 0] }).push$ rm "list" #[] 0).get? s.heap.objs.size=W1 { cls:=Wh "list_iterator",data:=ϫ #[Db l,Mh 0 0] }:=
  ga _$ Ea _ rfl
 have gS:((s.heap.push { cls:=Wh "list_iterator",data:=ϫ #[Db l,Mh 0 0] }).push _).get? (s.heap.push { cls:=Wh "list_iterator",data:=ϫ #[Db l,Mh 0 0] }).objs.size=W1 (rm "list" #[] 0):=Ea _ rfl;have B:∀ b o,s.heap.get? b=W1 o->((s.heap.push { cls:=Wh "list_iterator",data:=ϫ #[Db l,Mh 0 0] }).push$ rm "list" #[] 0).get? b=W1 o:=λb o e=>ga _$ ga _ e;generalize (s.heap.push { cls:=Wh "list_iterator",data:=ϫ #[Db l,Mh 0 0] }).objs.size=S at *;generalize ((s.heap.push { cls:=Wh "list_iterator",data:=ϫ #[Db l,Mh 0 0] }).push _)=hp at *;refine Fc Lh$ ba$ Yj gS rfl$ ba$ Ce ((Cj (prog:=prog) (w:=w) (A:=A.in1) hh s.heap.objs.size l C f.toArray).item 0 _ _ _ (by rw[((Pa ..).trans a5)];exact ό) ⟨⟨_,gI,rfl,rfl⟩,h.at λo e=>B _ _ e⟩ λv h' a6 hP M a0=>?_);have y:=λb o n e=>a0 b o (by simpa using n) e;obtain⟨N,K,a2,L⟩:=id M.1;refine ba$ Ce$ Xb (ic (first s.heap.objs.size S _ v N _ (va _) u d ⟨{ s with heap:=hp,toks:=s.toks },W s hp _ g0 B,λb o n e=>y b o n e,rfl⟩ (a4 0 v$ by simpa using hP) K (y S _ d gS) (λv z=>by rw[L]at z;cases z)$ λv z=>by cases z) (λx p he=>?_) λJ J hF=>hF.elim);obtain⟨T,ϊ,rfl,X,r,g2⟩:=he;have s1:=Ec p.heap S (Fe λJ=>#[v,Mh T ϊ]);obtain⟨V,Z⟩:∃ V,(p.heap.update S _).get? S=W1 (rm "list" #[v,Mh T ϊ] V):=⟨_,lK r λJ=>#[v,Mh T ϊ]⟩
 exact ba$ jh r rfl$ da ⟨Pd se _,Q2 (G _ _) hh C d a1 (hl _ _) (H _ _) (ϋ _ _) (λc a s g=>hQ _ _ c a s g) _ 1 _ v T ϊ V rfl ό (H _ _ _ _ _ p _ _ g2 λb o n1 n2 e=>by rw[s1.2 b n2];exact e) Z ⟨N,(s1.2 _ d.symm).trans X,a2,L⟩⟩
end
noncomputable def mG(X:Cx)(A:Ia)(d:ab)(b:Str)(a:Scope)(q:Addr)(c:Value)(cl:List$ Str × Addr)(s₀:Shared)(H₀:Hp):Cx:=
 { X with A:=A.deeper (W.envX b a s₀.heap.objs.size q c cl),N:=d,s₀:=s₀,H₀:=H₀,env:=W.envX b a s₀.heap.objs.size q c cl,outer:=X.stack,stack:=W.envX b a s₀.heap.objs.size q c cl::X.stack,ex:=[],fn:=λe=>į,Fd:=š,pn:=[],xe:=λe e=>False }
noncomputable def AO(a:dl)(d:D)(ρ:Ev):Ev:=W1 d::a.map λi=>(ρ[i]?).getD ŋ
noncomputable def lH(a:dl)(v:V)(st:St):St:=W1 v::a.map λi=>(st[i]?).getD ŋ
def g6 a(h:Jh T b H ρ c)(hd:Ha T b H d v):Jh T b H (AO a d ρ)$ lH a v c:=by
 exact((PQ a h).set 0 hd)
section
variable{pins:List$ Addr × Obj}{st:St}{H:Hp}{s:Shared}{x:Str}{M':ab}{ix:dl}{scope:Scope}{A:Ia}{qual:Str}{q:Addr}{cd:Value}{v:V}{u:Value}
def O3(I:gb X pins st H s)(L:Sj X x M' ix scope)(hx:scope.names.lookup x=W1 .local)(hA:A.frames=W1 X.stack)(K:A.handled=ŋ)(rv:Rc v u)(ϋ:h'.Ns s.heap.objs.size m)(hm:m x=W1 u)
  (E:∀ b o,s.heap.get? b=W1 o->h'.get? b=W1 o) :
  gb (mG X A (x::M') qual scope q cd (Ri X.env scope.names []) s H) [] (lH ix v st) H { s with heap:=h',toks:=t' }:=by
 have f:∀ n c,(Ri X.env scope.names []).lookup n=W1 c->X.env.cells.lookup n=W1 c:=λn c e=>sP X.env scope.names [] n c (λJ J q=>by simp at q) e;have r:=I.pc.fresh$ va _;have t:∀ b:Addr,b ∉ (mG X A (x::M') qual scope q cd (Ri X.env scope.names []) s H).ex:=λb z=>absurd (show b∈[]from z) ⋯;refine⟨⟨I.ok.mod,L.kind,rfl,rfl,va _,λa b c h1 h2=>I.ok.inj a b c (f a c h1)$ f b c h2,λa ha=>?_,λa c h=>(by cases h),λJ=>K,Yp hA,ϕ ⟨rfl,rfl⟩,λb ό=>absurd ό$ t b,λb o e=>I.bs b o e,zb I.ok.Jv I.sz,λb o e=>t b,λb ό=>absurd ό$ t b,I.stack,I.Hl⟩,
  rfl,I.bare,Un.kept E,⟨m,ϋ,λi y C R S e3=>?_⟩,λa c e=>?_,r,λa c e=>I.uh a c$ f a c e,λp hp=>absurd (show p∈[]from hp) ⋯,I.pc.kept E,?_⟩
 ·have G:scope.names.lookup a=W1 lc\/scope.names.lookup a=W1 Ab:=ha;rcases G with z|z
  ·exact absurd rfl$ rF L _$ zw z
  ·exact JF X.env scope.names [] a (zw z)$ iB I L _ (zw z) rfl
 ·cases i with
  |zero=>
   have g:W1 x=W1 y:=R;have d:W1 (W1 v)=W1 (W1 C):=S;cases g;cases d;exact⟨u,rv,ϔ ⟨hx,hm⟩⟩
  |succ j=>
   have g:M'[j]?=W1 y:=R;have d:(ix.map λi=>(st[i]?).getD ŋ)[j]?=W1 (W1 C):=S;rw[Ta]at d;cases F:ix[j]? with
   |none=>rw[F]at d;cases d
   |some B=>
    rw[F]at d;have D:(st[B]?).getD ŋ=W1 C:=Cb d;have W:st[B]?=W1 (W1 C):=by
     cases q:st[B]? with
     |none=>rw[q]at D;cases D
     |some o=>rw[q]at D;exact eb W1 D
    have Y:X.N[B]?=W1 y:=by
     have z:=eb (λl=>l[j]?) L.at_;simp only[Ta,F,g]at z;exact Cb z
    have q:=Xa.mp L.SS y$ ya g;simp only[Ca,ug]at q;have ϊ:X.env.scope.names.lookup y=W1 lc\/X.env.scope.names.lookup y=W1 Ab:=by
     all_goals simp_all
    have Q:scope.names.lookup y=W1 Ab:=eq_of_beq q.2;obtain⟨m0,a0,M⟩:=I.loc;obtain⟨u2,ru,lu⟩:=M B y C Y W (by rcases ϊ with z|z;exact ϕ$ ϔ z;exact ϕ$ ϕ z);refine⟨u2,ru,ϕ ⟨ϕ Q,?_⟩⟩;rcases lu with⟨z,_⟩|⟨_,c,Z,zc⟩
    ·rcases ϊ with k|k
     ·rw[show X.env.kindOf y=X.env.scope.names.lookup y from rfl,k]at z;cases z
     ·rw[show X.env.kindOf y=X.env.scope.names.lookup y from rfl,k]at z;cases z
    ·obtain⟨V,w⟩:=JF X.env scope.names [] y (zw Q) (iB I L _ (zw Q) rfl);have T:=f y V w;rw[Z]at T;cases T;obtain⟨o,P,hd⟩:=zc;exact⟨c,w,o,E _ _ P,hd⟩
 ·obtain⟨v,o,P,hd⟩:=I.cell a c (f a c e);exact⟨v,o,E _ _ P,hd⟩
 ·have z:=eb List.length L.at_;simp[lH,mG];simpa using z
def znd(I:gb X pins st H s)(L:Sj X x M' ix scope)(P:scope.names.lookup x=W1 .local)(G:A.frames=W1 X.stack)(p:A.handled=ŋ)(n:A.depth<recursionLimit)
  (M:s.heap.get? q=W1 (ϲ d qual a c scope (Ri X.env scope.names []) pm k h)) (l:s.heap.CodeRec (Db k) qual)
  (f:bindArgs (W.kla_fn d qual a c scope (Ri X.env scope.names []) pm (Db k) h) ⟨[u],[]⟩=pure [(x,u)]) (m:scope.isCoroutine=į) (i:scope.isGenerator=į) (S:Rc v u)
  (K:PE (mG X A (x::M') qual scope q (Db k) (Ri X.env scope.names []) s H) c t) (ϋ:t (lH ix v st) H Q) :
  wpAny (model X.prog X.w) A (call (Db q) [u]) (λr E=>CE X.stack X.prog X.w H s Q r E) (λD D=>False) s:=by
 refine ij$ W.kla_callFunE n M rfl m i rfl l ?_;rw[f];refine da$ ck (rF L) (λy R=>?_) (λD B j=>⟨?_,?_⟩) L.kind
 ·have e:y=(x,u):=by simpa using R
  simp_all
 ·exact(I.nolimit).fresh _ j
 ·have g:=λb o e=>j.extBut b o (Aa$ wa e)$ ga _ e;refine W.kla_codeExpr (ic (K [] _ _ H Q (O3 I L P G p S B ⋯ g) ϋ) (λϊ E z=>?_) λD D z=>z.elim);obtain⟨T,F,ό,C,N⟩:=z;exact⟨T,F,ό.os,ό.bare,ό.base,ό.pc,C,N⟩
end
noncomputable def OE(K:ϗ)(c P:Addr):Bool:=match K.lookup c with
 |some o=>(match o.cls,o.data with
  | Wh n,ϫ a=>n == "code" && (match (a[11]?:Option Value)with|some (Db p)=>p == P|_=>į) && (match a.getD 11 Yb with | Db p=>p == P|_=>į) && (match a.getD 18 Yb with | .str _ _=>š|_=>į) &&
   (match a.getD 7 Yb with | Mh _ _=>š|_=>į) && (match a.getD 9 Yb with | Dj _=>š|_=>į) && (match a.getD 10 Yb with | Mh _ _=>š|_=>į) && (c != P)
  |_,_=>į)
 |none=>į
def p8{v:Value}(h:(match v with | .str _ _=>š|_=>į)=š):∃ s t,v=.str s t:=by cases v<;>first|exact⟨_,_,rfl⟩|cases h
def aR{v}(h:(match v with | Mh _ _=>š|_=>į)=š):∃ s t,v=Mh s t:=by cases v<;>first|exact⟨_,_,rfl⟩|cases h
set_option tactic.hygienic true in
def i7{K:ϗ}(X:K.In h)(e:OE K c P=š):W.CodeHd h c P:=by
 unfold OE at e;cases i:K.lookup c with
 |none=>rw[i]at e;cases e
 |some o=>
  rw[i]at e;obtain⟨f,G,b,H⟩:=o;cases f<;>try cases e
  cases b<;>try cases e
  next n a=>
  dsimp only at e;simp only[Ca]at e;obtain⟨⟨⟨⟨⟨⟨⟨l,d⟩,g⟩,m⟩,p⟩,k⟩,q⟩,r⟩:=e;obtain⟨A,D,u⟩:=p8 m;obtain⟨B,E,w⟩:=aR p;obtain⟨C,F,y⟩:=aR q;obtain⟨j,x⟩:∃ j,a.getD 9 Yb=Dj j:=by cases h:a.getD 9 Yb<;>rw[h]at k<;>first|exact⟨_,rfl⟩|cases k
  have t:a.getD 11 Yb=Db P:=by cases h:a.getD 11 Yb<;>rw[h]at g<;>first|exact eb Db$ eq_of_beq (show (_ == P)=š from g)|cases g
  have s:(a[11]?:Option Value)=W1 (Db P):=by
   rcases h:(a[11]?:Option Value)with _|v<;>rw[h]at d
   ·cases d
   cases v<;>first|exact eb (λz=>W1$ Db z)$ eq_of_beq (show (_ == P)=š from d)|cases d
  obtain rfl:=eq_of_beq l;exact⟨_,a,A,D,B,E,j,C,F,X _ _ i,rfl,rfl,s,t,u,w,x,y,by simpa using r⟩
def y6{st}(I:gb X i st H s)(h:H P=W1 (.zl ps))(x:Mr P s.heap h')(m:s.heap.objs.size<=f)(M:f<h'.objs.size)
  (p:Hu d f h') (r:h'.get? P=W1 (W.tabObj$ ps++a)) :
  gb X i st (Qa (Qa H P$ .zl$ ps++a) f$ ϧ$ Hu d f) { s with heap:=h',toks:=tk }:=by
 have j:=I.pc.fresh m;have B:f≠P:=λz=>by rw[z,h]at j;cases j
 have A:∀ b,H b=ŋ->b≠P:=λb n z=>by rw[z,h]at n;cases n
 have w:∀ b u,H b=W1 u->b≠P->Qa (Qa H P$ .zl$ ps++a) f (ϧ$ Hu d f) b=W1 u:=λb u e n=>by
  rw[Xd$ ym e j,Xd n];exact e
 have ϋ:Qa (Qa H P$ .zl$ ps++a) f (ϧ$ Hu d f) P=W1 (.zl$ ps++a):=by rw[Xd B.symm,rf]
 refine I.un ⟨λb o e n J J=>x b o (A b n) e,λb o e n J J=>⟨o.slots,x b o (A b n) e⟩,λb o e n J=>?_,λb o e J=>?_,λb xs e=>w b _ e (λz=>by rw[z,h]at e;cases e),λb o u e=>w b _ e (λz=>by rw[z,h]at e;cases e),λb R e=>?_⟩ λb u e=>?_
 ·have:b≠f:=λz=>by subst z;exact absurd (wa e)$ pv.mpr m
  rw[Xd this,Xd$ A b n];exact n
 ·by_cases g:b=P
  ·subst g;exact⟨_,r⟩
  ·exact⟨o,x b o g e⟩
 ·by_cases g:b=P
  ·subst g;rw[h]at e;cases e;exact⟨a,ϋ⟩
  ·exact⟨#[],by rw[Array.append_empty];exact w b _ e g⟩
 ·by_cases l:b=f
  ·subst l;rw[rf]at e;cases e;obtain⟨o,Q,t,D,ό,K⟩:=p;exact⟨⟨o,Q,t,D,ό,K⟩,⟨o,D⟩,λa1 a2 ⟨N,C,t',E,F,G⟩ k=>⟨N,C,t',k _ E,F,G⟩⟩
  ·rw[Xd l]at e;by_cases g:b=P
   ·subst g;rw[rf]at e;cases e;exact r
   ·rw[Xd g]at e;refine(I.pc b u e).Rj (λc v L q=>x c v ?_ q) (λc q=>w c _ q (λz=>by rw[z,h]at q;cases q)) λc xs q=>w c _ q (λz=>by rw[z,h]at q;cases q);rcases L with z|z
    ·rw[z];exact g
    ·intro y;rw[y,h]at z;cases z
section
variable{pins:List$ Addr × Obj}{st:St}{H:Hp}{s:Shared}{μ:ac}{σ:Da}{x:Str}{M':ab}{ix:dl}{scope:Scope}{params:Arguments}{body:Fa}{pos:Dd}{c:Addr}{t:Tab}
structure Iy(T:Tb)(X:Cx)(t:Tab)(c:Addr)(pos:Dd):Prop where
 mem:t∈T.tx.Rn
 inj:∀ t'∈T.tx.Rn,t'.P=t.P->t'=t
 code:X.env.code=Db c
 hd:OE X.K c t.P=š
 line:t.line=pos.line
 col:t.col=pos.col
 qual:t.qual=X.env.qual++"<lambda>"
 bm:X.mg "__builtins__" = W1 (Db T.tx.bm)
 bb:T.tx.bm≠builtinsNs
def zne(I:gb X pins st H s)(L:Sj X x M' ix scope)(r:Qc T μ H σ)(g:Iy T X t c pos)(K:defaultsOf params X.env=([],[])) :
  wpAny (model X.prog X.w) X.A (Ib (.Lambda params body scope pos) X.env) (λv s'=>∃ q d i y,v=Db q/\gb X ((q,ϲ "<lambda>" t.qual params body scope (Ri X.env scope.names []) ((X.mg "__name__").getD Yb) d i)::pins) st y s'/\Wc μ H μ y/\Qc T μ y σ/\d ∉ μ/\y d=W1 (ϧ$ Hu t.qual d)) X.xe s:=by
 obtain⟨⟨b1,b3,S⟩,R,ps,D,a7⟩:=r.tb t g.mem;have j:s.heap.get? t.P=W1 _:=I.pc _ _ D;have l:s.heap.Ns mainGlobals X.mg:=I.ok.mod.glob.keeps I.bk;have a0:mainGlobals≠t.P:=λz=>by
  obtain⟨o,es,ep,e,hd,_⟩:=l;rw[z,j]at e;cases e;cases hd
 obtain⟨_,⟨ob,o1,o2,o3,o4⟩,_⟩:=I.pc _ _ S;have F:T.tx.bm≠t.P:=λz=>by rw[z,j]at o1;cases o1;cases o2
 have ϊ:T.tx.bm≠mainGlobals:=λz=>by
  obtain⟨o,es,ep,e,hd,_⟩:=l
  simp_all
 have hB:s.heap.BuiltinsAt X.mg t.P:=⟨T.tx.bm,ob,g.bm,g.bb,ϊ,F,o1,o2,o3,o4⟩
 have G:=aM X.env scope$ iB I L;have C:W.CodeHd s.heap c t.P:=(i7 I.ok.mod.gx g.hd).keeps I.bk;have f:∀ {h':Heap} {tk:Nat} {y:Hp} {o:Obj},gb X pins st y { s with heap:=h',toks:=tk }->o.isFreed=į->(∀ v,o.data≠.cell v)->gb X ((h'.objs.size,o)::pins) st y { s with heap:=h'.push o,toks:=tk }:=fun {h' tk y o} ό hf hc=>by
  have J2:=ό.kept (h':=h'.push o) (t':=tk) λb u e=>ga _ e;refine J2.Bi λp m=>?_;rcases La.mp m with rfl|m
  ·exact⟨Ea _ hf,ό.pc.fresh$ va _,ee ό.lt,ό.uG$ va _,hc⟩
  ·exact J2.pin p$ Ra _ m
 refine W.kla_eval K ?_;rw[<-g.qual];rcases a7 with rfl|⟨c1,rfl,V,Y⟩
 ·refine W.kla_makeFunction G I.ok.glob l g.code C j trivial rfl a0 hB λd i h' tk hx M a6 N a8=>?_;have Z:Hu t.qual d h':=by
   obtain⟨c2,o,vs,tt,e,h1,h2,h3⟩:=N;cases e;exact⟨o,vs,tt,h1,h2,h3⟩
  have ό:=y6 (tk:=tk) I D hx M a6 Z a8;have k:H d=ŋ:=I.pc.fresh M;have a9:d≠t.P:=λz=>by rw[z,D]at k;cases k
  have B:d ∉ μ:=λz=>by obtain⟨u,Q,_⟩:=r.mem z;rw[k]at Q;cases Q
  have E:∀ b u,H b=W1 u->b≠t.P->Qa (Qa H t.P$ .zl$ #[]++#[wc pos.line,wc pos.col,Db d]) d (ϧ$ Hu t.qual d) b=W1 u:=λb u e n=>by
   rw[Xd$ ym e k,Xd n];exact e
  have uP:Qa (Qa H t.P$ .zl$ #[]++#[wc pos.line,wc pos.col,Db d]) d (ϧ$ Hu t.qual d) t.P=W1 (.zl$ #[]++#[wc pos.line,wc pos.col,Db d]):=by rw[Xd a9.symm,rf]
  have uc:Qa (Qa H t.P$ .zl$ #[]++#[wc pos.line,wc pos.col,Db d]) d _ d=W1 (ϧ$ Hu t.qual d):=rf;have e:Wc μ H μ$ Qa (Qa H t.P$ .zl$ #[]++#[wc pos.line,wc pos.col,Db d]) d$ ϧ$ Hu t.qual d:=by
   refine⟨⟨[],by simp⟩,λp xs h=>E p _ h (λz=>by rw[z,D]at h;cases h),λp o u h=>E p _ h (λz=>by rw[z,D]at h;cases h),λp o h n=>⟨?_,n⟩⟩;by_cases m:p=t.P
   ·subst m;rw[D]at h;cases h;exact⟨_,uP,ϕ$ ϕ ⟨_,_,rfl,rfl⟩⟩
   ·exact⟨o,E p o h m,ϔ rfl⟩
  refine⟨_,d,i,_,rfl,f ό rfl (λv z=>by cases z),e,r.keep e (λa ha=>?_) λt' ϋ=>?_,B,uc⟩
  ·obtain⟨u,Q,_⟩:=r.mem ha;rw[Q];exact E a u Q λz=>R ⋯
  ·obtain⟨⟨a1,b0,a2⟩,a3,qs,a4,a5⟩:=r.tb t' ϋ;refine⟨⟨a1,b0,E _ _ a2 F⟩,a3,?_⟩;by_cases m:t'.P=t.P
   ·have et:=g.inj t' ϋ m;subst et;exact⟨_,uP,ϕ ⟨d,by rw[g.line,g.col];rfl,B,uc⟩⟩
   ·refine⟨qs,E _ _ a4 m,a5.imp id λ⟨c3,z1,z2,z3⟩=>⟨c3,z1,z2,E _ _ z3 (λz=>by rw[z,D]at z3;cases z3)⟩⟩
 ·refine W.kla_makeFunctionHit (cv:=Db c1) G I.ok.glob l g.code C j ?_ ?_ hB λi h' tk hk b2=>?_
  ·exact trivial
  ·rw[g.line,g.col];simp[codeAmong,wc]
  ·have ό:=I.kept (h':=h') (t':=tk) hk;exact⟨_,c1,i,H,rfl,f ό rfl (λv z=>by cases z),Ϯ _ _,r,V,Y⟩
end
def jy(a:Ev->M D)(rest:Ev):gV->D->Int->M D
 |[],b,_=>ret b
 |d::ds,b,c=>rc (qt$ a$ W1 d::rest) λk=>match k with
  | U k=>if k<c then jy a rest ds d k else jy a rest ds b c
  |_=>Jb
def aD(a:Ev->M D)(rest:Ev)(b:gV):M D:=match b with
 |[ώ (x::xs)]=>rc (qt$ a$ W1 x::rest) λk=>match k with
  | U k=>jy a rest xs x k
  |_=>Jb
 |_=>Jb
def hJ(d:dl)(b:Ev->M D)(c:Ev->M (gV)):Ev->M D:=λa=>rc (c a)$ aD b (d.map λi=>(a[i]?).getD ŋ)
def uT{st}(I:gb X a st H s)(k:∀ b o,b≠i->b≠j->s.heap.get? b=W1 o->h'.get? b=W1 o)(f:Wk X a H i)(g:Wk X a H j):gb X a st H { s with heap:=h',toks:=t' }:=by
 have A:∀ b u,H b=W1 u->b≠i/\b≠j:=λb u e=>⟨(λz=>by rw[z,f.1]at e;cases e),(λz=>by rw[z,g.1]at e;cases e)⟩
 have l:∀ {b:Addr},b ∉ [i,j]->b≠i/\b≠j:=fun {b} h=>⟨λz=>h (by simp[z]),λz=>h (by simp[z])⟩
 refine I.step (λb w=>?_) (λb o c c d e c=>k b o (l d).1 (l d).2 e) (λb o c c d e c=>⟨o.slots,k b o (l d).1 (l d).2 e⟩) (λc c c c n=>n)
  (λb o d e=>⟨o,k b o (l d).1 (l d).2 e⟩) (λc c e=>e) (λc c c e=>e) (λb ps e=>⟨#[],by rw[e];simp⟩) (λm x=>?_) (λb u e=>?_) I.bare
 ·have e:b=i\/b=j:=by simpa using w
  rcases e with rfl|rfl
  ·exact⟨f.2.2.2.1,f.2.1,f.2.2.2.2.1,f.2.2.2.2.2⟩
  ·exact⟨g.2.2.2.1,g.2.1,g.2.2.2.2.1,g.2.2.2.2.2⟩
 ·obtain⟨o,t,p,y,r⟩:=x;exact⟨o,t,p,k _ o (Cd f.2.1) (Cd g.2.1) y,r⟩
 ·refine(I.pc b u e).Rj (λc v d q=>?_) (λc q=>q) λc c q=>q;rcases d with z|z;all_goals simp_all
set_option tactic.hygienic true in
def zT
  (ϊ:ud (k+2) X.A) (L:Sj X x M' ix f) (hx:f.names.lookup x=W1 .local) (Lm:Iy T X t c b3) (hg:Gl X "min") (hm:X.mg "min" = ŋ)
  (c5:defaultsOf m X.env=([],[])) (d5:f.isCoroutine=į) (c6:f.isGenerator=į)
  (b8:∀ cl pm cd ϋ u,bindArgs (W.kla_fn "<lambda>" t.qual m body f cl pm cd ϋ) ⟨[u],[]⟩=pure [(x,u)])
  (ha:FA T X [e] fs)
  (hb:∀ A q cd b4 c2,ud k (A.deeper$ W.envX t.qual f b4.heap.objs.size q cd$ Ri X.env f.names [])->FE T (mG X A (x::M') t.qual f q cd (Ri X.env f.names []) b4 c2) body fe)
  (he:(Zb a6 (na [e] X.env)=(į,Ib e X.env)::Zb a6 (na [] X.env))⁻¹)
  (b0:((Zb a6$ na [e] X.env).any (·.1)=į)⁻¹) :
  FE T X (Ϡ (Ϝ "min" p) [e] [⟨W1 "key",.Lambda m body f b3,kp⟩] a6)$ hJ ix fe fs:=by
 intro r s st H Q I h;refine Re$ Sy I hg hm (show bootBuiltins "min" = W1 (Ϟ "min")from rfl) ?_;obtain⟨μ,ρ,σ,hE,hr,hp⟩:=h;refine callWith_kw (Zc (ha a6 r s st H (λvs H1=>∃ K a9 ds,Wc μ H K H1/\Qc T K H1 a9/\xb T K H1 ds vs/\Rb T (XE X st) (Ha T) K H1 (aD fe (ix.map λi=>(ρ[i]?).getD ŋ) ds a9) Q) I ⟨μ,ρ,σ,hE,hr,hp.bind λds a9 K vs H1 _ e1 r1 q1 p1=>⟨K,a9,ds,e1,r1,q1,p1⟩⟩) λus s1 ⟨vs,H1,I1,rv,K,a9,ds,e1,r1,q1,p1⟩=>kws_cons (Zc (zne I1 L r1 Lm c5) λlv s2 ⟨q,c',ϋ,H2,c9,I2,e2,r2,d2,d3⟩=>kws_nil ?_)) he b0;subst c9;show wpAny _ _ (call (Ϟ "min") us [(Ai "key",Db q)]) _ _ _;have d0:Jh T K H2 ρ st:=(hE.mono e1).mono e2;generalize c0:(ix.map λi=>(ρ[i]?).getD ŋ)=rest at *;obtain⟨x0,xs,rfl⟩:∃ x0 xs,ds=[ώ$ x0::xs]:=by
  rcases ds with _|⟨d,_|_⟩<;>try exact p1.elim
  all_goals cases d<;>try exact p1.elim
  all_goals next l=>cases l<;>first|exact p1.elim|exact⟨_,_,rfl⟩
 rw[xb]at q1;obtain⟨v0,rr,rfl,q2,q3⟩:=q1;rw[xb]at q3;subst q3;obtain⟨a,ws,rfl,c4,d1,d7⟩:=q2;obtain⟨u0,rfl,d9⟩:=ke.one rv;obtain rfl:u0=Db a:=d9;have b2:H2 a=W1 (ϰ ws):=(e2.Oh _ _ d1 c4).1;have a5:xb T K H2 (x0::xs) ws:=xb.mono e2 _ _ d7;have a3:(x0::xs).length=ws.length:=a5.length;have qa:∀ {G:Hp} {Y:Shared} {pn:List$ Addr × Obj},gb X pn st G Y->G a=W1 (ϰ ws)->∃ Z:b',Z.length=ws.length/\(∀ (j:Nat) v,Z[j]?=W1 v->∃ w,ws[j]?=W1 w/\Rc w v)/\Y.heap.IsList a Z.toArray:=fun {G Y pn} ό z=>by
  obtain⟨_,Z,n,rv,ho⟩:=ό.pc _ _ z;refine⟨Z,rv.length.symm,λj v hv=>?_,⟨_,ho,rfl,⟨_,rfl⟩⟩⟩;have hj:j<ws.length:=by rw[rv.length];exact(aa.mp hv).1
  obtain⟨u,hu,ru⟩:=rv.get (i:=j) (x:=ws[j]) (by simp[hj]);rw[hv]at hu;cases hu;exact⟨ws[j],by simp[hj],ru⟩
 have c8:∀ {F:ac} {G:Hp} {N:Da} {Y:Shared} {d:D} {w:V} {v:Value} {I S:Addr} {oI oS:Obj} {kk:Int->M D},gb X ((q,ϲ "<lambda>" t.qual m body f (Ri X.env f.names []) ((X.mg "__name__").getD Yb) c' ϋ)::r) st G Y->Wc K H2 F G->Qc T F G N->Ha T F G d w->Rc w v->
   Wk X ((q,ϲ "<lambda>" t.qual m body f (Ri X.env f.names []) ((X.mg "__name__").getD Yb) c' ϋ)::r) G I->Wk X ((q,ϲ "<lambda>" t.qual m body f (Ri X.env f.names []) ((X.mg "__name__").getD Yb) c' ϋ)::r) G S->
   Y.heap.get? I=W1 oI->Y.heap.get? S=W1 oS->(∀ v,oI.data≠.cell v)->(∀ v,oS.data≠.cell v)->
   Rb T (XE X st) (Ha T) F G (rc (qt$ fe$ W1 d::rest) (λk=>match k with | U k=>kk k|_=>Jb) N) Q->
   wpAny (model X.prog X.w) X.A.in1 (call (Db q) [v]) (λy a8=>∃ k t',y=Mh k t'/\a8.heap.get? I=W1 oI/\a8.heap.get? S=W1 oS/\∃ B E C,gb X ((q,ϲ "<lambda>" t.qual m body f (Ri X.env f.names []) ((X.mg "__name__").getD Yb) c' ϋ)::r) st E a8/\Wc F G B E/\Qc T B E C/\
    Wk X ((q,ϲ "<lambda>" t.qual m body f (Ri X.env f.names []) ((X.mg "__name__").getD Yb) c' ϋ)::r) E I/\Wk X ((q,ϲ "<lambda>" t.qual m body f (Ri X.env f.names []) ((X.mg "__name__").getD Yb) c' ϋ)::r) E S/\Rb T (XE X st) (Ha T) B E (kk k C) Q) (λ_ _=>False) Y:=by
  intro F G N Y d w v I S oI oS kk ό ex r' rd e0 fI fS gI gS cI cS po;generalize c7:ϲ "<lambda>" t.qual m body f (Ri X.env f.names []) ((X.mg "__name__").getD Yb) c' ϋ=ob at *;have b9:Y.heap.CodeRec (Db c') t.qual:=by
   obtain⟨⟨o,e3,tt,h1,h2,h3⟩,_⟩:=ό.pc _ _ (ex.Oh _ _ d3 d2).1;exact⟨c',o,e3,tt,rfl,h1,h2,h3⟩
  have hq:=(ό.pin (q,ob)$ Ra _$ .head _).1;have J2:gb X ((I,oI)::(S,oS)::(q,ob)::r) st G Y:=ό.Bi λp hp=>by
   rcases La.mp hp with rfl|hp
   ·exact⟨gI,fI.1,fI.2.1,fI.2.2.1,cI⟩
   ·rcases La.mp hp with rfl|hp
    ·exact⟨gS,fS.1,fS.2.1,fS.2.2.1,cS⟩
    ·exact ό.pin p$ Ra _ hp
  have hd:X.A.in1.handled=ŋ:=ϊ.hd;refine ic (znd (A:=X.A.in1) (t:=tF T _ fe) (v:=w) (Q:=λy E=>∃ k B C,y=ϥ k/\Wc F G B E/\Qc T B E C/\Rb T (XE X st) (Ha T) B E (kk k C) Q) J2 L hx ό.ok.frames hd (ud.in1 ϊ).depth (by rw[<-c7]at hq;exact hq) b9 (b8 _ _ _ _ _) d5 c6 e0 (hb _ _ _ _ _$ (ud.in1 ϊ).deeper _) ⟨F,AO ix d ρ,N,g6 ix (d0.mono ex) rd,r',?_⟩) (λy a8 d4=>?_) λ_ _ z=>z
  ·unfold AO;rw[c0];refine po.cu λy C B g E _ b5 c1 d8 b1=>?_;cases y with
   |int k=>
    exact⟨k,B,C,d8,b5,c1,b1⟩
   |_=>exact b1.elim
  ·obtain⟨yv,E,J3,ry,k,B,C,rfl,b5,c1,b1⟩:=J2.after d4;obtain⟨t',rfl⟩:=ry;have pI:=J3.pin (I,oI)$ Ra _$ .head _;have pS:=J3.pin (S,oS)$ Ra _$ .tail _$ .head _;have J4:gb X ((q,ob)::r) st E a8:=J3.Bi λp hp=>J3.pin p$ Ra _$ .tail _$ .tail _ hp;exact⟨k,t',rfl,pI.1,pS.1,B,E,C,J4,b5,c1,⟨pI.2.1,fI.2⟩,⟨pS.2.1,fS.2⟩,b1⟩
 obtain⟨Z,hn,hP,d6⟩:=qa I2 b2;generalize c7:ϲ "<lambda>" t.qual m body f (Ri X.env f.names []) ((X.mg "__name__").getD Yb) c' ϋ=ob at *;refine N1 (n:=ws.length) (P:=λj v=>∃ w,ws[j]?=W1 w/\Rc w v) (λY=>gb X ((q,ob)::r) st H2 Y)
  (λI S j vb kb Y=>Wk X ((q,ob)::r) H2 I/\Wk X ((q,ob)::r) H2 S/\∃ F G N b wb,gb X ((q,ob)::r) st G Y/\Wc K H2 F G/\Qc T F G N/\Ha T F G b wb/\Rc wb vb/\Wk X ((q,ob)::r) G I/\Wk X ((q,ob)::r) G S/\Rb T (XE X st) (Ha T) F G (jy fe rest ((x0::xs).drop j) b kb N) Q)
  ϊ.hd I2 hn hP d6 (by rw[<-a3];simp) (λs0 h' tk g k=>g.kept k) ?_ ?_ ?_ ?_ ?_
 ·
  intro I S s3 v oI oS hI hS e5 ⟨s0,g0,hk,es⟩ ⟨w,hw,a7⟩ gI gS cI cS;have fI:Wk X ((q,ob)::r) H2 I:=I2.Km hI$ I2.pc.fresh hI;have fS:Wk X ((q,ob)::r) H2 S:=I2.Km hS$ I2.pc.fresh hS;have ό:gb X ((q,ob)::r) st H2 s3:=by
   rw[es];exact uT g0 (λb o n _ e=>hk b o n e) fI fS
  have rd:∃ w',ws[0]?=W1 w'/\Ha T K H2 x0 w':=a5.get (i:=0) rfl;obtain⟨w',a4,rd⟩:=rd;rw[hw]at a4;cases a4;refine ic (c8 (kk:=λk=>jy fe rest xs x0 k) ό (Ϯ _ _) r2 rd a7 fI fS gI gS cI cS$ Rb.mono e2 p1) (λy s4 z=>?_) λ_ _ z=>z;obtain⟨k,t',rfl,b6,b7,B,E,C,J4,e4,r4,f1,f2,p4⟩:=z;exact⟨k,t',rfl,b6,b7,fI,fS,B,E,C,x0,w,J4,e4,r4,Ha.mono e4 _ _ rd,a7,f1,f2,p4⟩
 ·intro I S j vb kb Y ⟨_,_,F,G,N,b,wb,ό,ex,r',rb,a0,f1,f2,p'⟩;exact qa ό (ex.Oh _ _ b2 c4).1
 ·intro I S j vb kb Y h' tk ⟨a1,a2,F,G,N,b,wb,ό,ex,r',rb,a0,f1,f2,p'⟩ k;exact⟨a1,a2,F,G,N,b,wb,uT ό k f1 f2,ex,r',rb,a0,f1,f2,p'⟩
 ·intro I S j vb kb Y v oI oS ⟨a1,a2,F,G,N,b,wb,ό,ex,r',rb,a0,f1,f2,p'⟩ ⟨w,hw,a7⟩ gI gS cI cS;have hj:j<(x0::xs).length:=by rw[a3];exact(aa.mp hw).1
  obtain⟨w',a4,rd⟩:=a5.get (i:=j) (d:=(x0::xs)[j]) (by rw[Xc hj]);rw[hw]at a4;cases a4;rw[lh hj]at p';generalize (x0::xs)[j]=d at *;generalize e6:(x0::xs).drop (j+1)=c3 at *;refine ic (c8 (kk:=λk=>if k<kb then jy fe rest c3 d k else jy fe rest c3 b kb) ό ex r' (Ha.mono ex _ _ rd) a7 f1 f2 gI gS cI cS p') (λy s4 z=>?_) λ_ _ z=>z;obtain⟨k,t',rfl,b6,b7,B,E,C,J4,e4,r4,f3,f4,p4⟩:=z;refine⟨k,t',rfl,b6,b7,a1,a2,B,E,C,?_⟩;by_cases hk:k<kb
  ·rw[ja hk]at p4;rw[ja hk,ja hk];exact⟨d,w,J4,ex.trans e4,r4,Ha.mono (ex.trans e4) _ _ rd,a7,f3,f4,p4⟩
  ·rw[ra hk]at p4;rw[ra hk,ra hk];exact⟨b,wb,J4,ex.trans e4,r4,Ha.mono e4 _ _ rb,a0,f3,f4,p4⟩
 ·intro I S vb kb Y ⟨_,_,F,G,N,b,wb,ό,ex,r',rb,a0,f1,f2,p'⟩;rw[<-a3,List.drop_length]at p';have q':Q wb G:=Rb.here (R:=Ha T) p' r' rb;exact⟨wb,G,ό.Bi (λp hp=>ό.pin p$ Ra _$ .tail _ hp),a0,q'⟩
noncomputable def Oy(K:ϗ)(x:Str):Addr:=((W.tabIn K x).getD (0,0)).1
noncomputable def jx(K:ϗ)(x:Str):Addr:=((W.tabIn K x).getD (0,0)).2
noncomputable def mz(K:ϗ):Addr:=match W.nsIn K mainGlobals "__builtins__" with
 |some (W1 (Db a))=>a
 |_=>0
theorem yit{K}(h:(W.tabIn K x).isSome=š):W.tabIn K x=W1 (Oy K x,jx K x):=by
 unfold Oy jx;cases e:W.tabIn K x with
 |none=>simp_all
 |some p=>rfl
def ZM(K:ϗ)(xs:ab):Bool:=
 W.noTabs K && (match W.nsIn K mainGlobals "__builtins__" with
  |some (W1 (Db a))=>(K.lookup a).isNone && (a != builtinsNs)
  |_=>į) && xs.all λx=>(W.tabIn K x).isSome && OE K (Oy K x) (jx K x)
structure kx(K:ϗ)(xs:ab):Prop where
 no:W.noTabs K=š
 bm:W.nsIn K mainGlobals "__builtins__" = W1 (W1 (Db (mz K)))
 bk:K.lookup (mz K)=ŋ
 bb:mz K≠builtinsNs
 tab:∀ x∈xs,W.tabIn K x=W1 (Oy K x,jx K x)
 hd:∀ x∈xs,OE K (Oy K x) (jx K x)=š
set_option tactic.hygienic true in
def N4{K}{xs}(h:ZM K xs=š):kx K xs:=by
 unfold ZM at h;rw[Ca,Ca]at h;obtain⟨⟨e,b⟩,f⟩:=h;rcases ha:W.nsIn K mainGlobals "__builtins__" with _|_|a<;>rw[ha]at b<;>try cases b
 cases a<;>try cases b
 ·next a=>
  have c:mz K=a:=by unfold mz;rw[ha]
  rw[Ca]at b;refine⟨e,by rw[c];exact ha,by rw[c];exact Option.isNone_iff_eq_none.mp b.1,by rw[c];simpa using b.2,λx d=>?_,λx d=>?_⟩
  ·have z:=Xa.mp f x d;rw[Ca]at z;exact yit z.1
  all_goals simp_all
def WI(K:ϗ)(d:Str->Option Value)(x:Str)(e:Stmt)(c:ab):Prop:=
 ∃ f a,d x=W1 (Db f)/\bI K x x e f a/\(∀ b:b',b.length=c.length->bindArgs a ⟨b,[]⟩=pure (c.zip b))/\a.code=Db (Oy K x)
def Ρ{K:ϗ}{c xs}(X:K.In h)(G:h.Ns mainGlobals a)(i:wq K a x d c)(l:kx K xs)(m:x∈xs):WI K a x d c:=by
 obtain⟨f,q,b,F,j⟩:=i;obtain⟨oc,r,kV,g,pm,p,e,ct,o,rfl,n,k⟩:=F.ex;exact⟨f,_,b,F,j,W.law_code X G (l.tab x m) b (X _ _ n) rfl⟩
def cY{K}{st}(h:WI K i x st ps)(S:gc N ps$ qf st)
  (n:∀ f A b s H E,ud k (A.deeper$ dg x (qf st) s.heap.objs.size f$ Db$ Oy K x)->im ⟨K,j,tx⟩ (Ap (Xk P w) P w K i a N x (qf st) f (Db$ Oy K x) A b s H E) (Fj st) g) :
  Uh ⟨K,j,tx⟩ P w i a (k+1) x ps$ Xg N.length g:=by
 obtain⟨f,u,p,F,c,o⟩:=h;obtain⟨oc,v,kV,m,pm,t,l,ct,r,rfl,q,d⟩:=F.ex;have e:=o;subst e;exact⟨f,_,p,F.kp,c,sD q d S$ n f⟩
set_option tactic.hygienic true in
def E5{K}
  (KX:K.In f.heap) (a8:f.heap.Ns mainGlobals mg) (C:f.heap.Ns builtinsNs mb) (a4:∀ x:Str,x ≠ "__name__"->mb x=bootBuiltins x) (Z:f.heap.NoLimit) (hg:f.gens=#[])
  (I:f.heap.get? a=W1 { cls:=Wh "list",data:=ϩ L.toArray }) (hi:Fk L p) (hl:p.length<=63) (hr:ud k bn)
  (hK:W.noTabs K=š) (j:f.heap.get? tx.bm=W1 ob) (X:ob.cls=Wh "module") (a5:ob.dict=W1 builtinsNs) (Q:ob.data=.plain) (a3:K.lookup tx.bm=ŋ)
  (ϊ:∀ t∈tx.Rn,∃ c,W.CodeHd f.heap c t.P/\f.heap.get? t.P=W1 (W.tabObj #[]))
  (F:∀ base:Heap,oh P w K mg base (Xk P w) k fa fd [x] (ro ⟨K,ca,tx⟩ 1 fn)) (ϋ:∀ s u,Se s fd ⟨[u],[]⟩ [(x,u)])
  (tr:∀ p:dd,p.length<=63->∃ σ,fn [ϭ p] []=J (Ϗ š) σ) :
  codeAny (model P w) bn (.call (Db fa) ⟨[Db a],[]⟩) (λr B=>r=.ok (.ret$ Dj š)/\OldK f.heap B.heap/\B.os=f.os/\zh B.gens) f:=by
 have rv:=OF hi;have Y:p.length<=sizeLine:=zb hl ⋯;have E:∀ N:Bool,(N=š->K.lookup a=ŋ)->(N=į->K.lookup a=W1 { cls:=Wh "list",data:=ϩ L.toArray })->
   codeAny (model P w) bn (.call (Db fa) ⟨[Db a],[]⟩) (λr B=>r=.ok (.ret$ Dj š)/\OldK f.heap B.heap/\B.os=f.os/\zh B.gens) f:=by
  intro N a6 a7;obtain⟨H,c1,c2,c3,c4⟩:∃ H:Hp,(∀ t∈tx.Rn,H t.P=W1 (.zl #[]))/\(H tx.bm=W1 (Ϧ ob _))/\(N=š->H a=W1 (Ϧ { cls:=Wh "list",data:=ϩ L.toArray }$ ϰ$ p.map ϥ))/\
    ∀ b u,H b=W1 u->(u=.zl #[]/\∃ t∈tx.Rn,b=t.P)\/(b=tx.bm/\u=Ϧ ob _)\/(b=a/\N=š/\u=Ϧ { cls:=Wh "list",data:=ϩ L.toArray } (ϰ$ p.map ϥ)):=by
   refine⟨λb=>if b=tx.bm then W1 (Ϧ ob$ ϧ$ TY tx.bm)else if b=a then (if N=š then W1 (Ϧ { cls:=Wh "list",data:=ϩ L.toArray }$ ϰ$ p.map ϥ)else ŋ)else if b∈tx.Rn.map (·.P)then W1 (.zl #[])else ŋ,λt g=>?_,ja rfl,λh=>?_,λb u e=>?_⟩
   ·obtain⟨c,_,l⟩:=ϊ t g;have n1:t.P≠tx.bm:=λz=>by rw[z,j]at l;cases l;cases X
    have n2:t.P≠a:=λz=>by rw[z,I]at l;cases l
    dsimp only;rw[ra n1,ra n2,ja$ Ya.mpr ⟨t,g,rfl⟩]
   ·have n1:a≠tx.bm:=λz=>by rw[z,j]at I;cases I;cases Q
    dsimp only;rw[ra n1,ja rfl,ja h]
   ·dsimp only at e;split at e
    ·next a1=>cases e;exact ϕ$ ϔ ⟨a1,rfl⟩
    ·split at e
     ·next a2=>
      split at e
      ·next h=>cases e;exact ϕ$ ϕ ⟨a2,h,rfl⟩
      ·cases e
     ·split at e
      ·next hm=>cases e;obtain⟨t,g,rfl⟩:=Ya.mp hm;exact ϔ ⟨rfl,t,g,rfl⟩
      ·cases e
  have a9:Qh P w H f.heap:=λb u e=>by
   rcases c4 b u e with⟨rfl,t,g,rfl⟩|⟨rfl,rfl⟩|⟨rfl,_,rfl⟩
   ·obtain⟨c,_,l⟩:=ϊ t g;exact l
   ·exact⟨j,⟨ob,j,X,a5,Q⟩,⟨ob,j⟩,λh1 h2 ⟨o,e1,G⟩ k=>⟨o,k _ e1,G⟩⟩
   ·exact⟨I,by rw[Ja];exact Y,L,_,rv,I⟩
  have i:∀ {b:Addr} {o:Obj},f.heap.get? b=W1 o->H b=ŋ->(Dy f.heap H).get? b=W1 o:=λe n=>ŋz e n;have b1:∀ {b:Addr} {o:Obj} {es:Array Yt} {ep:Nat},f.heap.get? b=W1 o->o.data=.dict es ep->H b=ŋ:=fun {b o es ep} e d=>by
   cases q:H b with
   |none=>rfl
   |some u=>
    rcases c4 b u q with⟨_,t,g,rfl⟩|⟨rfl,_⟩|⟨rfl,_,_⟩
    ·obtain⟨c,_,l⟩:=ϊ t g;rw[l]at e;cases e;cases d
    ·rw[j]at e;cases e;rw[Q]at d;cases d
    ·rw[I]at e;cases e;cases d
  have S:∀ {b:Addr} {m:Str->Option Value},f.heap.Ns b m->(Dy f.heap H).Ns b m:=fun {b m} ⟨o,es,ep,e,d,r⟩=>⟨o,es,ep,i e$ b1 e d,d,r⟩
  have a0:=λb o e=>i (KX b o e) (by
   cases q:H b with
   |none=>rfl
   |some u=>
    rcases c4 b u q with⟨_,t,g,rfl⟩|⟨rfl,_⟩|⟨rfl,h,_⟩
    ·obtain⟨c,_,l⟩:=ϊ t g;have G:=KX _ _ e;rw[l]at G;cases G;have h2:=Xa.mp hK (t.P,_)$ W.mem_of_lookupK e;exact absurd (show į=š from h2) yb
    ·rw[a3]at e;cases e
    ·rw[a6 h]at e;cases e)
  have hM:Mod K mg$ Dy f.heap H:=⟨a0,S a8,⟨mb,S C,a4⟩,let ⟨mc,h1,h2⟩:=Z;⟨mc,S h1,h2⟩⟩
  have e0:Gq P w K mg (Dy f.heap H) bn [] f H:=⟨rfl,hM,λb o e=>šz e,XG$ π _ _,trivial,λb C=>absurd (show b∈[]from C) ⋯,a9,.of_eq hg⟩
  have hS:yH K H a p:=by
   cases N with
   |true=>exact ϔ ⟨_,c3 rfl⟩
   |false=>exact ϕ ⟨_,L.toArray,_,a7 rfl,rfl,rfl,rfl,by rw[Pa,hi.length];exact Y,by simpa using rv⟩
  obtain⟨σ,ef⟩:=tr p hl;have b0:ro ⟨K,ca,tx⟩ 1 fn [ϖ a] H (λv _=>v=Ϭ š) λ_ _ _=>False:=by
   refine⟨[],[],[ϭ p],xb.cons (by rw[Ha];exact⟨a,rfl,hS⟩) xb.nil,rfl,⟨rfl,Lz,λn o q=>by simp at q,λt g=>⟨⟨by simp,ob,c2⟩,by simp,#[],c1 t g,ϔ rfl⟩⟩,?_⟩;rw[ef];intro b3 v H' _ _ r;exact r
  refine lf ((F _).Xg bn [] f H _ [Db a] [ϖ a] _ _ hr e0 (ϋ f$ Db a) (ϟ rfl Ϣ) b0) λr B h=>?_;cases r with
  |error e=>obtain⟨_,_,_,_,z⟩:=h;exact z.elim
  |ok f2=>
   cases f2 with
   |next=>exact ϱ h
   |brk=>exact ϱ h
   |cont=>exact ϱ h
   |ret u=>
    obtain⟨v,H',os,T,un,A,r',q⟩:=h;have q':v=Ϭ š:=q;subst q';obtain rfl:u=Dj š:=r';have ό:∀ b o,f.heap.get? b=W1 o->(¬ ∃ t∈tx.Rn,b=t.P)->B.heap.get? b=W1 o:=λb o e n=>by
     cases q:H b with
     |none=>exact un.keep b o e q (by intro z;exact absurd (show b∈[]from z) ⋯) ⋯
     |some u=>
      rcases c4 b u q with⟨_,z⟩|⟨rfl,rfl⟩|⟨rfl,_,rfl⟩
      ·exact absurd z n
      ·obtain⟨G,_⟩:=A _ _ (un.Yi _ _ _ q);rw[j]at e;cases e;exact G
      ·obtain⟨G,_⟩:=A _ _ (un.Yi _ _ _ q);rw[I]at e;cases e;exact G
    have y:∀ t∈tx.Rn,∃ ps,B.heap.get? t.P=W1 (W.tabObj ps):=λt g=>by
     obtain⟨b2,z⟩:=un.Zk _ _ (c1 t g);exact⟨_,A _ _ z⟩
    refine⟨rfl,⟨λb o e=>?_,λb o e=>?_⟩,os,T⟩
    ·by_cases C:∃ t∈tx.Rn,b=t.P
     ·obtain⟨t,g,rfl⟩:=C;obtain⟨c,hc,l⟩:=ϊ t g;obtain⟨ps,R⟩:=y t g;rw[l]at e;cases e;exact ϕ$ ϔ ⟨(hc.tab l).isCodeTable,rfl,#[],ps,rfl,by rw[Array.empty_append];exact R⟩
     ·exact ϔ$ ό b o e C
    ·by_cases C:∃ t∈tx.Rn,b=t.P
     ·obtain⟨t,g,rfl⟩:=C;obtain⟨ps,R⟩:=y t g;exact⟨_,R⟩
     ·exact⟨o,ό b o e C⟩
 cases hk:K.lookup a with
 |some o=>
  have e:=KX a o hk;rw[I]at e;cases e;exact E į (λh=>by cases h) λ_=>hk
 |none=>exact E š (λ_=>hk) λh=>by cases h
def ò{l:W.OpenLaw}{K:Params->ϗ} xs
  (hn:l.most=W1 63) (B:d.params.defaults=[]) (hr:ud k bn) (hY:∀ w h,H w h->(K w.params).In h)
  (hK:∀ w:Na,ZM (K w.params) xs=š) (p:(xs.all λx=>((recsOf q).find? λe=>e.name == x).isSome)=š)
  (F:∀ w v h,(K w.params).In h->h.Ns mainGlobals v->kx (K w.params) xs->∃ I j,(∀ t∈j,∃ x∈xs,t.P=jx (K w.params) x)/\tN ⟨K w.params,I,⟨j,mz$ K w.params⟩⟩ l.prog w v k d.name [x] fn)
  (tr:∀ E:dd,E.length<=63->∃ σ,fn [ϭ E] []=J (Ϗ š) σ) :
  W.WalkO q i S H l.row.toRowW d [] (λf R=>PySem.call f R):=by
 refine Att.Yo hn B λw ϋ Q v mb fa o pm cd a0 a R E G Y ho hd a2 C n c m hg=>?_;have r:=hY w _ Y;have TT:=N4$ hK w;obtain⟨I,j,hP,f0,a1,L,g3,g4⟩:=F w v _ r G.T.g TT;rw[C]at L;cases L;obtain⟨bm,ob,ϊ,b2,V,X,Z,b6⟩:=G.T.bmain;have ό:=Zs r G.T.g TT.bm;rw[ϊ]at ό;cases ό;refine E5 r G.T.g G.T.b G.T.builtins G.T.nolimit hg n c m hr TT.no V X Z b6 TT.bk (λt ht=>?_) g4 (λs u=>.of_eq$ g3 [u] rfl) tr;obtain⟨y,N,e⟩:=hP t ht;have z:=Xa.mp p y N;obtain⟨d',A⟩:=ce.mp z;have:=W.tab_of G.T r A$ TT.tab y N;rw[e];exact⟨_,this.1,this.2⟩
def yrc(h:(a.P == b.P)=į):∀ t∈(⟨[a,b],f⟩:Tx).Rn,∀ d∈(⟨[a,b],f⟩:Tx).Rn,d.P=t.P->d=t:=by
 intro t g d c e;simp at g c;rcases g with rfl|rfl<;>rcases c with rfl|rfl;all_goals simp_all
def xw(x:D)(xs:gV):M D:=λa=>match x,xs with
 | O n,[y]=>(match df a n with
  |some b=>(match wf a y with
   |some zs=>if b.length+zs.length<=Yf then J Ϛ (a.set n$ ϑ$ b++zs)else Ϙ
   |none=>Ϙ)
  |none=>Ϙ)
 |_,_=>Ϙ
section
variable{T:Tb}
def zf9:OC T cR xw:=by
 intro E s H t x xs v f Q r p q h;cases x with
 |ref n=>
  match xs with
  |[]=>cases h
  |[y]=>
   obtain⟨w,z,rfl,A,l⟩:=q;rw[xb]at l;subst l;unfold xw at h;cases c:df t n with
   |none=>simp[c]at h;exact h.elim
   |some B=>
    simp[c]at h;cases d:wf t y with
    |none=>simp only[d]at h;exact h.elim
    |some zs=>
     simp only[d]at h;by_cases e:B.length+zs.length<=Yf
     ·rw[ja e]at h;obtain⟨a,f,rfl,k,g,i⟩:=r.qa p c;obtain⟨b,m,rfl,u,j⟩:=r.ls A d;have o:=r.write (ob:=ϑ _) k ⟨_,rf,by
       have ex:Wc s H s$ Qa H a$ ϰ$ f++m:=Xr (ya k) g (λC z=>by cases z) (λC C z=>by cases z);exact xb.append (xb.mono ex _ _ i)$ xb.mono ex _ _ j⟩
      exact⟨a,b,f,m,rfl,rfl,g,u,by rw[<-i.length,<-j.length];exact EA e,h _ _ _ o.1 o.2 (by rw[Ha])⟩
     ·rw[ra e]at h;exact h.elim
  |_::_::_=>exact h.elim
 |_=>exact h.elim
end
section
variable{x y:Str}{p pos:Dd}{ss:ab}
def cU(d:Gl X x)(b:bG T.K X.mg x ss)(hd: ~~~((x == ("__debug__" : Str))=į)):FE T X (Ϝ x p)$ eC$ .gt ss:=by
 obtain⟨a,e,c⟩:=b;exact uC (rH d e (v:=ϖ a) rfl hd) λf f=>by rw[Ha];exact⟨a,rfl,c⟩
def Uh.alias(h:Uh T P w b a k x ps c)(e:b y=b x):Uh T P w b a k y ps c:=by
 obtain⟨f,d,g,i⟩:=h;exact⟨f,d,e.trans g,i⟩
end
section
variable{T:Tb}{μ μ':ac}{H H':Hp}{σ:Da}{a:Addr}
mutual
theorem Ha.chg(j:∀ b,b≠a->H' b=H b)(l:a∈μ)(r:∀ xs,H a≠W1 (.Sa xs))(s:∀ o xs,H a≠W1 (Ϧ o$ ϰ xs)):∀ (d:D) (v:V),Ha T μ H d v->Ha T μ H' d v
 | Ϛ,v,h=>by simpa [Ha]using h
 | Ϗ b,v,h=>by simpa [Ha]using h
 | U i,v,h=>by simpa [Ha]using h
 | ϒ x,v,h=>by simpa [Ha]using h
 | ϐ ds,v,h=>by
  rw[Ha]at h ⊢;obtain⟨p,m,g,e,k⟩:=h;exact⟨p,m,g,by rw[j p (λz=>r _ (by rw[<-z];exact e))];exact e,xb.chg j l r s ds m k⟩
 | ϭ ns,v,h=>by
  rw[Ha]at h ⊢;obtain⟨p,g,e⟩:=h;refine⟨p,g,?_⟩;rcases e with⟨o,e⟩|e
  ·exact ϔ ⟨o,by rw[j p (λz=>s _ _ (by rw[<-z];exact e))];exact e⟩
  ·exact ϕ e
 | O n,v,h=>by rw[Ha]at h ⊢;exact h
 | ώ ds,v,h=>by
  rw[Ha]at h ⊢;obtain⟨p,m,g,f,e,k⟩:=h;exact⟨p,m,g,f,by rw[j p (λz=>f (by rw[z];exact l))];exact e,xb.chg j l r s ds m k⟩
 | Ϩ ks ds,v,h=>by
  rw[Ha]at h ⊢;obtain⟨p,m,g,f,e,t,k⟩:=h;exact⟨p,m,g,f,by unfold Rd at e ⊢;rw[j p (λz=>f (by rw[z];exact l))];exact e,t,xb.chg j l r s ds _ k⟩
 | ϸ c ns ds,v,h=>by
  rw[Ha]at h ⊢;obtain⟨p,A,m,g,f,e,t,k⟩:=h;exact⟨p,A,m,g,f,by rw[j p (λz=>f (by rw[z];exact l))];exact e,t,xb.chg j l r s ds _ k⟩
 | .tw c,v,h=>by
  rw[Ha]at h ⊢;obtain⟨p,y,g,f,e,k⟩:=h;refine⟨p,y,g,f,by rw[j p (λz=>f (by rw[z];exact l))];exact e,λn q=>?_⟩;obtain⟨u,B,w,C⟩:=k n q;exact⟨u,B,w,by rw[j u (λz=>w (by rw[z];exact l))];exact C⟩
 | .gt ss,v,h=>by rw[Ha]at h ⊢;exact h
theorem xb.chg(j:∀ b,b≠a->H' b=H b)(i:a∈μ)(f:∀ xs,H a≠W1 (.Sa xs))(g:∀ o xs,H a≠W1 (Ϧ o$ ϰ xs)):∀ (c:gV) (e:em),xb T μ H c e->xb T μ H' c e
 |[],e,h=>by simpa [xb]using h
 |d::c,e,h=>by
  rw[xb]at h ⊢;obtain⟨v,r,k,l,m⟩:=h;exact⟨v,r,k,Ha.chg j i f g d v l,xb.chg j i f g c r m⟩
end
def YJ(i:∀ b,b≠a->H' b=H b)(g:a∈μ)(e:∀ xs,H a≠W1 (.Sa xs))(f:∀ o xs,H a≠W1 (Ϧ o$ ϰ xs)){xs}{d}(h:Paired (λ p q =>p.1=q.1/\Ha T μ H p.2 q.2) xs d) :
  Paired (λ(p:c × D) (q:c × V)=>p.1=q.1/\Ha T μ H' p.2 q.2) xs d:=L2.Paired.qp h λp q z=>⟨z.1,Ha.chg i g e f _ _ z.2⟩
theorem Yn.chg(d:∀ b,b≠a->H' b=H b)(j:a∈μ)(g:∀ xs,H a≠Option.some (.Sa xs))(i:∀ o xs,H a≠Option.some (Ϧ o$ ϰ xs))(f:b≠a):∀ {o:Ob},Yn T μ H b o->Yn T μ H' b o
 | ϑ ds,⟨e,h,r⟩=>⟨e,(d b f).trans h,xb.chg d j g i _ _ r⟩
 | ύ k,⟨e,h,r⟩=>⟨e,(d b f).trans h,YJ d j g i r⟩
 | ϓ c n,⟨l,e,h,r⟩=>⟨l,e,(d b f).trans h,YJ d j g i r⟩
 | ϣ k,⟨m,e,h,r⟩=>⟨m,e,(d b f).trans h,YJ d j g i r⟩
 | .Ie ks,⟨e,h,r⟩=>⟨e,(d b f).trans h,r⟩
def Qc.chg(r:Qc T μ H σ)(f:∀ b,b≠a->H' b=H b)(g:μ[n]?=W1 a)(i:∀ xs,H a≠W1 (.Sa xs))(j:∀ o xs,H a≠W1 (Ϧ o$ ϰ xs))(l:Yn T μ H' a ob):Qc T μ H'$ σ.set n ob:=by
 have e:=ya g;refine⟨by simp[r.len],r.nd,λm x h=>?_,r.tb.out f$ ϔ e⟩;rw[Ef]at h;by_cases c:n=m
 ·subst c
  simp_all
 ·rw[ra c]at h;obtain⟨b,d,k⟩:=r.obs m x h;exact⟨b,d,k.chg f e i j (λz=>c (by subst z;exact vI r.nd g d))⟩
end
def _root_.L2.gb.bu{st}(I:gb X d st H s)(hd:H a=W1 (Ϧ r$ ϛ f))(k:∀ o u,X.H₀ a≠W1 (Ϧ o u)):gb X d st (Qa H a$ ϛ f) s:=by
 have h:∀ b u,H b=W1 u->(∀ o w,u≠ Ϧ o w)->b≠a:=λb u q n z=>by rw[z,hd]at q;exact n _ _ (Cb q).symm
 refine⟨I.ok,I.os,I.bare,⟨I.base.keep,I.base.slot,λb o e n m=>?_,I.base.there,λb xs e=>?_,λb o u e=>?_,λb ps e=>?_⟩,I.loc,I.cell,?_,λx c e=>?_,λp l=>?_,λb u e=>?_,I.len⟩
 ·have:=I.base.free b o e n m;rw[Xd (λz=>by rw[z,hd]at this;cases this)];exact this
 ·have:=I.base.jm b xs e;rw[Xd$ h b _ this (λB B z=>by cases z)];exact this
 ·have:=I.base.Yi b o u e;rw[Xd (λz=>k o u ⋯)];exact this
 ·obtain⟨g,this⟩:=I.base.Zk b ps e;exact⟨g,by rw[Xd$ h b _ this (λB B z=>by cases z)];exact this⟩
 ·rw[Xd (λz=>by have:=I.free;rw[z,hd]at this;cases this)];exact I.free
 ·have:=I.uh x c e;rw[Xd (λz=>by rw[z,hd]at this;cases this)];exact this
 ·obtain⟨t,i,A⟩:=I.pin p l;exact⟨t,by rw[Xd (λz=>by rw[z,hd]at i;cases i)];exact i,A⟩
 ·by_cases j:b=a
  ·subst j;rw[rf]at e;cases e;exact(I.pc b _ hd).2
  ·rw[Xd j]at e;refine(I.pc b u e).Rj (λc v B z=>z) (λc z=>?_) λc xs z=>?_
   ·rw[Xd$ h c _ z (λB B y=>by cases y)];exact z
   ·rw[Xd$ h c _ z (λB B y=>by cases y)];exact z
section
variable{elts:List Fa}{kk:Nat}{p0:Dd}
def dO(o:H a=W1 (Ϧ l$ ϛ c))(s:Jg T m H f c):Jy T m H (Kq f)$ Itm a l c:=by
 intro u x v i ex t;have h:=ex.Ic _ _ _ o;have e:=Jg.mono ex s;unfold Kq;cases n:f[i]? with
 |none=>
  by_cases j:i=f.length
  ·rw[ja j];exact⟨h,by rw[j];exact Paired.length e⟩
  simp_all
 |some p=>
  obtain⟨q,k,g,rx⟩:=iF e i n;refine⟨⟨h,q,k⟩,λz w y=>?_⟩;obtain⟨r,A,B,b,rfl,d,rfl⟩:=y;rw[k]at d;cases d;refine⟨lj b,t.fresh b,?_⟩;rw[Ha,g];exact⟨r,_,rfl,rf,xb.cons (pP _)$ xb.cons (Ha.mono (lj b) _ _ rx) xb.nil⟩
def wC(d:D):M NX:=λσ=>match d with
 | Ϩ ks xs=>if ks.length=xs.length then J (Kq$ ks.zip xs) σ else Ϙ
 | O n=>(match σ[n]? with
  |some (ύ a)=>J (Kq a) (σ.set n$ ϣ a)
  |some (ϣ a)=>J (Kq a) σ
  |_=>Ϙ)
 |_=>Ϙ
def gq(f:Ev->M D):Ev->M NX:=λa=>rc (f a) wC
def J6(h:FE T X e f)(G:(Lc e "items" X.env (Ib e X.env)=Ib e X.env)⁻¹)(ό:((x.endLine == A.line)=š)⁻¹) :
  jq T X (ϳ elts kk p0) (Ϡ (ϝ e "items" x) [] [] A)$ gq f:=by
 intro Q s st H R I hw;refine lV (DO ie wh Nn mX h G ό) Q s st H R I ?_;obtain⟨μ,ρ,σ,hE,hr,hp⟩:=hw;refine⟨μ,ρ,σ,hE,hr,hp.bind λd w c v i b e1 V q1 p=>?_⟩;unfold wC at p;cases d with
 |za ks xs=>
  dsimp only at p;by_cases hl:ks.length=xs.length
  ·rw[ja hl]at p;obtain⟨a,j,rfl,ϊ,q,Z,a0⟩:=q1;refine⟨⟨a,j,rfl,q⟩,a,j,rfl,rfl,q,λl g=>?_⟩;have t:a≠l:=by rcases q with q|⟨_,q⟩<;>exact ym q g
   have Y:Rd (Qa i l$ ϧ$ oq l a) a$ ϛ j:=by unfold Rd;rw[Xd t];exact q
   refine⟨l,a,j,rfl,rf,Y,λN m=>?_⟩;have C:Wc c i c$ Qa i l$ ϧ$ oq l a:=lj g;have k:Qc T c (Qa i l$ ϧ$ oq l a) w:=V.fresh g;obtain⟨x2,a1⟩:Wc c i c _/\Qc T c _ w:=by
    rcases m with m|m
    ·have y:=CP (μ:=c) (od:=N) m;exact⟨C.trans y,k.keep y (λb W=>Xd (λz=>ϊ (by rw[<-z];exact W)))$ k.tb.out (λb W=>Xd W)$ ϕ ⟨_,m⟩⟩
    ·rw[fy m];exact⟨C,k⟩
   exact Rb.here (Rb.mono x2 p) a1$ dO rf$ Jg.mono x2$ qG Z a0
  ·rw[ra hl]at p;exact p.elim
 |ref n=>
  dsimp only at p;cases S:w[n]? with
  |none=>rw[S]at p;exact p.elim
  |some o=>
   rw[S]at p;obtain⟨a,rfl,ϊ,P⟩:=V.at q1 S;cases o with
   |za j=>
    obtain⟨u,E,K⟩:=P;have q:Rd i a _:=ϔ E;refine⟨⟨a,u,rfl,q⟩,a,u,rfl,rfl,q,λl g=>?_⟩;have t:=ym E g;have r:Qa i l (ϧ$ oq l a) a=W1 (ϛ u):=by rw[Xd t];exact E
    refine⟨l,a,u,rfl,rf,ϔ r,λN b=>?_⟩;have C:Wc c i c$ Qa i l$ ϧ$ oq l a:=lj g;have k:Qc T c (Qa i l$ ϧ$ oq l a) w:=V.fresh g;have ϋ:Wc c _ c$ Qa _ a$ Ϧ N$ ϛ u:=Xr (ya ϊ) r (λb z=>by cases z) (λb b z=>by cases z);have B:=Jg.mono (C.trans ϋ) K;exact Rb.here (Rb.mono (C.trans ϋ) p) (k.write (ob:=ϣ j) ϊ ⟨N,u,rf,B⟩$ λkv z=>by rw[S]at z;cases z).2$ dO rf B
   |Ub j=>
    obtain⟨L,u,E,K⟩:=P;have q:Rd i a _:=ϕ ⟨L,E⟩;refine⟨⟨a,u,rfl,q⟩,a,u,rfl,rfl,q,λl g=>?_⟩;have t:a≠l:=ym E g;have r:Qa i l (ϧ$ oq l a) a=W1 (Ϧ L$ ϛ u):=by rw[Xd t];exact E
    refine⟨l,a,u,rfl,rf,ϕ ⟨L,r⟩,λN m=>?_⟩;have C:Wc c i c$ Qa i l$ ϧ$ oq l a:=lj g;have k:Qc T c (Qa i l$ ϧ$ oq l a) w:=V.fresh g;rcases m with m|m
    ·rw[r]at m;cases m
    ·rw[fy m];exact Rb.here (Rb.mono C p) k$ dO m$ Jg.mono C K
   |_=>exact p.elim
 |_=>exact p.elim
def DD{c:Type}(ok:c->Bool)(n:Nat):Gi c->Gi c
 | J a σ=>if ok a=š then (match σ[n]? with
  |some (ϣ b)=>J a (σ.set n$ ύ b)
  |_=>Ϙ)else Ϙ
 |_=>Ϙ
def ax{b:Type}(ok:b->Bool)(m:M D)(g:M b):M b:=λa=>match m a with
 | J (O n) _=>(match a[n]? with
  |some (ύ _)=>DD ok n (g a)
  |_=>g a)
 |_=>g a
noncomputable def xJ:Fl->Bool
 | .xc _ _=>į
 |_=>š
def ur(f:Ev->M D)(g:Ev->M Fl):Ev->M Fl:=λa=>ax xJ (f a)$ g a
noncomputable def TH(f:Ev->M D)(g:Ev->M D):Ev->M D:=λa=>ax (λb=>š) (f a)$ g a
def B5(ex:Wc e H b c)(i:a∈e)(f:H a=W1 (ϛ d))(k:c a=W1 (Ϧ j$ ϛ g)):Wc e H b$ Qa c a$ ϛ g:=by
 refine⟨ex.pre,λp xs h=>?_,λp o u h=>?_,λp o h n=>?_⟩
 ·rw[Xd (λz=>by rw[z,f]at h;cases h)];exact ex.Sa p xs h
 ·rw[Xd (λz=>by rw[z,f]at h;cases h)];exact ex.Ic p o u h
 ·rw[Xd (λz=>n ⋯)];exact ex.keep p o h n
def zR(D:y[n]?=W1 a)(I:H a=W1 (ϛ v))
  (G:∀ c e (d:s) (g:w) k f,a∈c->e a=W1 (Ϧ k$ ϛ f)->ok d=š->R c e d g->R c (Qa e a$ ϛ f) d g) (h:Rb T E R y H (DD ok n o) Q) :
  Rb T E R y H o (λg e=>∃ k f,e a=W1 (Ϧ k$ ϛ f)/\Q g (Qa e a$ ϛ f)/\∃ c d,ok d=š/\R c e d g):=by
 cases o with
 |Jb=>exact h
 |ex x q=>trivial
 |ok d q=>
  unfold DD at h;dsimp only at h;by_cases i:ok d=š
  ·rw[ja i]at h;cases t:q[n]? with
   |none=>rw[t]at h;exact h.elim
   |some ob=>
    rw[t]at h;cases ob with
    |Ub K=>
     intro c g e ex r F;obtain⟨L,m,k,f,p,u⟩:=r.obs n _ t;have j:=ex.get D;rw[j]at m;cases m;have l:=ya j;have C:∀ b,b≠a->Qa e a (ϛ f) b=e b:=λb ό=>Xd ό;have A:∀ xs,e a≠W1 (.Sa xs):=λxs z=>by rw[p]at z;cases z
     have B:∀ o xs,e a≠W1 (Ϧ o$ ϰ xs):=λo xs z=>by rw[p]at z;cases z
     exact⟨k,f,p,h c g _ (B5 ex (ya D) I p) (r.chg C j A B ⟨f,rf,YJ C l A B u⟩)$ G c e d g k f l p i F,c,d,i,F⟩
    |_=>exact h.elim
  ·rw[ra i]at h;exact h.elim
def iG(f:a∈c)(g:e a=W1 (Ϧ k$ ϛ i)) d v(h:Ha T c e d v):Ha T c (Qa e a$ ϛ i) d v:=
 Ha.chg (λb j=>Xd j) f (λxs z=>by rw[g]at z;cases z) (λo xs z=>by rw[g]at z;cases z) d v h
set_option tactic.hygienic true in
def VU ok m(g:M b) σ:ax ok m g σ=g σ\/∃ n a,σ[n]?=W1 (ύ a)/\ax ok m g σ=DD ok n (g σ):=by
 unfold ax;rcases e:m σ with⟨d,_⟩|_|_<;>try exact ϔ rfl
 cases d<;>try exact ϔ rfl
 next n=>
 rcases es:σ[n]? with _|o
 ·exact ϔ (by dsimp only;rw[es])
 cases o<;>first|exact ϕ ⟨n,_,es,by dsimp only;rw[es]⟩|exact ϔ (by dsimp only;rw[es])
def YO(h:FS T X s g):FS T X s$ ur f g:=by
 intro r N st H D I l;obtain⟨ϋ,ρ,σ,K,G,F⟩:=l;have x:=λq=>h r N st H D I ⟨ϋ,ρ,σ,K,G,q⟩;rcases VU _ (f ρ) (g ρ) σ with z|⟨n,S,P,z⟩<;>rw[show ur f g ρ σ=_ from z]at F
 ·exact x F
 ··
   obtain⟨a,R,V,L,_⟩:=G.obs n _ P;have E:∀ o u,X.H₀ a≠W1 _:=λo u z=>by have:=I.base.Yi a o u z;rw[L]at this;cases this
   have q:=zR R L (λό e d y k c p j w m=>by
    cases d with
    |xc _ _=>cases w
    |nx C=>cases y<;>first|exact m.elim|exact⟨m.1,λi d q=>let ⟨v,A,B⟩:=m.2 i d q;⟨v,A,iG p j _ _ B⟩⟩
    |bk C=>cases y<;>first|exact m.elim|exact⟨m.1,λi d q=>let ⟨v,A,B⟩:=m.2 i d q;⟨v,A,iG p j _ _ B⟩⟩
    |ct C=>cases y<;>first|exact m.elim|exact⟨m.1,λi d q=>let ⟨v,A,B⟩:=m.2 i d q;⟨v,A,iG p j _ _ B⟩⟩
    |rt W=>cases y<;>first|exact m.elim|exact iG p j _ _ m) F
   refine ic (h r N st H ⟨λb e=>∃ k c,e a=W1 (Ϧ k$ ϛ c)/\D.nx b (Qa e a$ ϛ c),λv e=>∃ k c,e a=W1 (Ϧ k$ ϛ c)/\D.rt v (Qa e a$ ϛ c),λb e=>∃ k c,e a=W1 (Ϧ k$ ϛ c)/\D.bk b (Qa e a$ ϛ c),λb e=>∃ k c,e a=W1 (Ϧ k$ ϛ c)/\D.ct b (Qa e a$ ϛ c)⟩ I ⟨ϋ,ρ,σ,K,G,q.imp λy e z=>?_⟩) (λQ Y z=>?_) λJ J z=>z
   ·obtain⟨k,c,j,l,ό,d,w,m⟩:=z;cases y with
    |nx b=>exact⟨k,c,j,l⟩
    |rt v=>exact⟨k,c,j,l⟩
    |bk b=>exact⟨k,c,j,l⟩
    |ct b=>exact⟨k,c,j,l⟩
    |xc b cls fd=>cases d<;>first|exact m.elim|cases w
   ·cases Q with
    |next=>obtain⟨b,e,t,k,c,j,l⟩:=z;exact⟨b,_,t.bu j E,l⟩
    |brk=>obtain⟨b,e,t,k,c,j,l⟩:=z;exact⟨b,_,t.bu j E,l⟩
    |cont=>obtain⟨b,e,t,k,c,j,l⟩:=z;exact⟨b,_,t.bu j E,l⟩
    |ret u=>obtain⟨v,b,e,t,ϊ,k,c,j,l⟩:=z;exact⟨v,b,_,t.bu j E,ϊ,l⟩
def W2(h:FE T X e g):FE T X e$ TH f g:=by
 intro b s st H Q I k;obtain⟨t,ρ,σ,p,l,j⟩:=k;have c:=λq=>h b s st H Q I ⟨t,ρ,σ,p,l,q⟩;rcases VU _ (f ρ) (g ρ) σ with z|⟨n,C,y,z⟩<;>rw[show TH f g ρ σ=_ from z]at j
 ·exact c j
 ··
   obtain⟨a,B,K,r,_⟩:=l.obs n _ y;have A:∀ o u,X.H₀ a≠W1 _:=λo u z=>by have:=I.base.Yi a o u z;rw[r]at this;cases this
   refine ic (h b s st H _ I ⟨t,ρ,σ,p,l,(zR B r (λL w d v E ό i m D F=>iG i m d v F) j)⟩) (λu N z=>?_) λD D z=>z;obtain⟨v,w,x,G,E,ό,m,k,_⟩:=z;exact⟨v,_,x.bu m A,G,k⟩
end
def wJ(d:Addr)(b:Obj)(a:List$ jc × V):It:=
 ⟨λi H=>H d=W1 (Ϧ b$ ϛ a)/\∃ x,a[i]?=W1 x,λi H v c=>c=H/\∃ k x,v=kV k/\a[i]?=W1 (k,x),λi H=>H d=W1 (Ϧ b$ ϛ a)/\i=a.length⟩
def Μ{P:xa}{w:Na}{K:ϗ}{tg:Fa}(d f:Addr)(T:Obj)(p:List$ jc × V)(a0:d≠f){Z:Array Yt}{Q:Nat}(n:T.data=.dict Z Q) :
  Jm P w K tg (wJ d T p) [f] f (λi h=>h.IsKeyIter f d i p.length Q) where
 mem:=by simp
 obj:=λi h st b j=>by
  obtain rfl:b=f:=by simpa using j
  obtain⟨o,e,c,ϋ⟩:=st
  simp_all
 keep:=λi h h' st k=>st.at λo e=>k f ⋯ o e
 item:=by
  intro X F M D R i g s σ H E I r st G;subst F M D;obtain⟨hd,⟨k,x⟩,S⟩:=G;obtain⟨vs,v,t,a,l,ό⟩:=Zf I hd;rw[n]at l;cases l;obtain⟨u,hu,ru⟩:=yJ a i S;rw[a.length]at st;obtain⟨y,z,f2,A,B,C⟩:=r f ⋯;refine wpAny_pyNext_dict_item st ό hu λN h' m q L=>?_;have ϊ:gb X g σ H { s with heap:=h' }:=I.turned (λb o j e=>L.extBut b o j e) y z A B C;obtain⟨o,e,c,ϋ⟩:=id q;exact⟨N,rfl,wF e c ϋ ⋯ ⟨kV k,H,ϊ,AQ m,⟨rfl,k,x,rfl,S⟩,by rw[a.length];exact q,λb j=>(r b j).1⟩⟩
 done:=by
  intro X F M D R i g s σ H E I r st G;subst F M D;obtain⟨hd,hi⟩:=G;obtain⟨vs,v,t,a,l,ό⟩:=Zf I hd;rw[n]at l;cases l;rw[a.length]at st hi;obtain⟨y,z,f2,A,B,C⟩:=r f ⋯;exact wpAny_pyNext_dict_end (I.ok.hd R) st ό ⋯ λh' Y=>⟨rfl,I.turned (λb o j e=>Y b o j e) y z A B C⟩
 self:=λJ J J J J st h=>wpAny_pyIter_keyiter st h
noncomputable def GF(a:List$ jc × D):NX:=λi b=>match a[i]? with
 |some p=>W1 (W1$ Nv p.1)
 |none=>if i=a.length then W1 ŋ else ŋ
def XI(d:D):M NX:=λσ=>match d with
 | O n=>(match σ[n]? with
  |some (ύ a)=>J (GF a) (σ.set n$ ϣ a)
  |some (ϣ a)=>J (GF a) σ
  |_=>Ϙ)
 |_=>Ϙ
def kJ(f:Ev->M D):Ev->M NX:=λa=>rc (f a) XI
section
variable{tg:Fa}
def QW(n:H a=W1 (Ϧ k$ ϛ b))(o:Jg T l H e b):Jy T l H (GF e)$ wJ a k b:=by
 intro s v t i ex r;have g:=ex.Ic _ _ _ n;have d:=Jg.mono ex o;unfold GF;cases m:e[i]? with
 |none=>
  by_cases h:i=e.length
  ·rw[ja h];exact⟨g,by rw[h];exact Paired.length d⟩
  simp_all
 |some p=>
  obtain⟨q,j,f,rx⟩:=iF d i m;refine⟨⟨g,q,j⟩,λz u y=>?_⟩;obtain⟨rfl,w,x,rfl,c⟩:=y;rw[j]at c;cases c;exact⟨Ϯ _ _,r,by rw[f];exact pP _⟩
def ymq(e:TE):TI:=λf H R=>e f H λv c=>∃ a b,v=ϖ a/\Rd c a (ϛ b)/\∀ d,c a=W1 (ϛ b)\/c a=W1 (Ϧ d$ ϛ b)->R (wJ a d b) (Qa c a$ Ϧ d$ ϛ b)
def Ι(A:PE X d p):PI X tg d$ ymq p:=by
 intro g s r H R I h;refine Zc (A g s r H _ I h) λv s1 ſ=>?_;obtain⟨x,H1,k,D,C⟩:=ſ;obtain⟨a,i,rfl,c,q⟩:=C;cases D;obtain⟨_,B,_⟩:=Ht k.pc c;obtain⟨f,m,l⟩:∃ f,(H1 a=W1 _\/H1 a=W1 (Ϧ f _))/\gb X g r (Qa H1 a$ Ϧ f _) s1:=by
  rcases c with c|⟨f,c⟩
  ·obtain⟨_,_,E,j,o,w,u,e,_⟩:=k.pc a _ c;exact⟨o,ϔ c,k.freeze c e⟩
  ·exact⟨f,ϕ c,by rw[fy c];exact k⟩
 obtain⟨E,w,u,j,t,n⟩:=Zf l rf;refine wpAny_pyIter_dict B n ⟨s1.heap.objs.size,[s1.heap.objs.size],_,wJ a f i,_,rfl,l.kept (λb o e=>ga _ e),Μ a _ f i (Aa n.lt_size) t,by rw[j.length];exact⟨_,kA _ _ (λz=>by cases z),rfl,rfl⟩,λb y=>?_,q f m⟩;obtain rfl:b=s1.heap.objs.size:=by simpa using y
 exact l.Km (va _)$ l.pc.fresh$ va _
def Ř(h:FE T X e f):jq T X tg e$ kJ f:=by
 intro p s K H R I G;refine Ι h p s K H R I ?_;obtain⟨L,ρ,σ,C,F,E⟩:=G;refine⟨L,ρ,σ,C,F,E.bind λd y r v A D N x ό b=>?_⟩;unfold XI at b;cases d with
 |ref n=>
  dsimp only at b;cases t:y[n]? with
  |none=>rw[t]at b;exact b.elim
  |some o=>
   rw[t]at b;obtain⟨a,rfl,B,l⟩:=x.at ό t;cases o with
   |za m=>
    obtain⟨q,k,i⟩:=l;refine⟨a,q,rfl,ϔ k,λu D=>?_⟩;have j:Wc r A r$ Qa A a$ Ϧ u$ ϛ q:=Xr (ya B) k (λD z=>by cases z) (λD D z=>by cases z);have c:=Jg.mono j i;exact Rb.here (Rb.mono j b) (x.write (ob:=ϣ m) B ⟨u,q,rf,c⟩$ λϋ z=>by rw[t]at z;cases z).2$ QW rf c
   |Ub m=>
    obtain⟨w,q,k,i⟩:=l;refine⟨a,q,rfl,ϕ ⟨w,k⟩,λu g=>?_⟩;rcases g with g|g
    ·rw[k]at g;cases g
    ·rw[fy g];exact Rb.here b x$ QW g i
   |_=>exact b.elim
 |_=>exact b.elim
end
def EF(x y:D):M D:=λa=>match wf a x,wf a y with
 |some xs,W1 b=>if xs.length+b.length<=Yf then Ey (xs++b) a else Ϙ
 |_,_=>Ϙ
def zxl:Ph X (De .Add)$ rD T EF:=by
 rintro b s st H v u z w Q I t o ⟨E,D,h,x,y,r,m,n,a⟩;unfold EF at a;cases c:wf h x with
 |none=>rw[c]at a;exact a.elim
 |some xs=>
  cases d:wf h y with
  |none=>rw[c,d]at a;exact a.elim
  |some C=>
   rw[c,d]at a;dsimp only at a;by_cases e:xs.length+C.length<=Yf
   ·rw[ja e]at a;obtain⟨p,A,rfl,i,f⟩:=r.ls m c;obtain⟨q,B,rfl,j,g⟩:=r.ls n d;exact UT b s st H _ _ z w Q I t o ⟨p,q,A,B,rfl,rfl,i,j,by rw[<-f.length,<-g.length];exact EA e,λl k=>qD a r (xb.append f g) k⟩
   ·rw[ra e]at a;exact a.elim
def pz:im T X a km:=λpins s st H D I ⟨c,d,σ,_,_,b⟩=>b.elim
open Classical in
def Yu(l a:Addr):Heap->Prop:=λh=>h.IsValuesView l a
def B7:V->em->Hp->VK->Prop:=λx xs H Q=>∃ a b,x=ϖ a/\xs=[]/\Rd H a (ϛ b)/\∀ l,H l=ŋ->Q (ϖ l) (Qa H l$ ϧ$ Yu l a)
def KH(d:Addr)(b:Obj)(a:List$ jc × V):It:=
 ⟨λi H=>H d=W1 (Ϧ b$ ϛ a)/\∃ x,a[i]?=W1 x,λi H v c=>c=H/\∃ k,a[i]?=W1 (k,v),λi H=>H d=W1 (Ϧ b$ ϛ a)/\i=a.length⟩
def zjx{P:xa}{w:Na}{K:ϗ}{tg:Fa}(d f:Addr)(R:Obj)(n:List$ jc × V)(a0:d≠f){ϊ:Array Yt}{N:Nat}(m:R.data=.dict ϊ N) :
  Jm P w K tg (KH d R n) [f] f (λi h=>h.IsValIter f d i n.length N) where
 mem:=by simp
 obj:=λi h st b j=>by
  obtain rfl:b=f:=by simpa using j
  obtain⟨o,e,c,M⟩:=st
  simp_all
 keep:=λi h h' st k=>st.at λo e=>k f ⋯ o e
 item:=by
  intro X D L C ϋ i g s σ H E I q st F;subst D L C;obtain⟨hd,⟨k,x⟩,Q⟩:=F;obtain⟨vs,t,r,a,l,G⟩:=Zf I hd;rw[m]at l;cases l;obtain⟨u,hu,ru⟩:=yJ a i Q;rw[a.length]at st;obtain⟨v,y,Y,z,A,B⟩:=q f ⋯;refine wpAny_pyNext_values_item st G hu λh' p ό=>?_;have S:gb X g σ H { s with heap:=h' }:=I.turned (λb o j e=>ό.extBut b o j e) v y z A B;obtain⟨o,e,c,M⟩:=id p;exact⟨u,rfl,wF e c M ⋯ ⟨x,H,S,ru,⟨rfl,k,Q⟩,by rw[a.length];exact p,λb j=>(q b j).1⟩⟩
 done:=by
  intro X D L C ϋ i g s σ H E I q st F;subst D L C;obtain⟨hd,Z⟩:=F;obtain⟨vs,t,r,a,l,G⟩:=Zf I hd;rw[m]at l;cases l;rw[a.length]at st Z;obtain⟨v,y,Y,z,A,B⟩:=q f ⋯;exact wpAny_pyNext_values_end (I.ok.hd ϋ) st G ⋯ λh' T=>⟨rfl,I.turned (λb o j e=>T b o j e) v y z A B⟩
 self:=λJ J J J J st h=>wpAny_pyIter_valiter st h
noncomputable def fA(a:List$ jc × D):NX:=λi b=>match a[i]? with
 |some p=>W1 (W1 p.2)
 |none=>if i=a.length then W1 ŋ else ŋ
def mJ(d:D):M NX:=λσ=>match d with
 | Ϩ ks xs=>if ks.length=xs.length then J (fA$ ks.zip xs) σ else Ϙ
 | O n=>(match σ[n]? with
  |some (ύ a)=>J (fA a) (σ.set n$ ϣ a)
  |some (ϣ a)=>J (fA a) σ
  |_=>Ϙ)
 |_=>Ϙ
def DN(f:Ev->M D):Ev->M NX:=λa=>rc (f a) mJ
section
variable{tg:Fa}
def ψ:Lx X "dict.values" B7:=by
 rintro f s st H x t v r Q I rx j ⟨a,h,rfl,rfl,g,q⟩;cases rx;cases j;obtain⟨z,hd,l,i,d⟩:=Ht I.pc g;refine Sm Vm d.typeIs PySem.F.entry_dict_values (PySem.F.args_dict_values_1 _) (meets_dict_values _ a hd) ⟨⟨l,d⟩,⟨ϖ s.heap.objs.size,_,I.laid (λb o e=>ga _ e) (va _) ?_,rfl,q _$ I.pc.fresh$ va _⟩⟩;refine⟨⟨_,kA _ _ (λz=>by cases z),rfl,rfl⟩,⟨_,kA _ _ (λz=>by cases z)⟩,λm n p k=>?_⟩;obtain⟨o,e,c⟩:=p;exact⟨o,k o e,c⟩
def CM(m:H a=W1 (Ϧ j$ ϛ b))(o:Jg T k H e b):Jy T k H (fA e)$ KH a j b:=by
 intro s v t i ex r;have f:=ex.Ic _ _ _ m;have d:=Jg.mono ex o;unfold fA;cases l:e[i]? with
 |none=>
  by_cases g:i=e.length
  ·rw[ja g];exact⟨f,by rw[g];exact Paired.length d⟩
  simp_all
 |some p=>
  obtain⟨q,h,n,rx⟩:=iF d i l;refine⟨⟨f,q,h⟩,λz u y=>?_⟩;obtain⟨rfl,w,c⟩:=y;rw[h]at c;cases c;exact⟨Ϯ _ _,r,rx⟩
def Ĭ(e:TE):TI:=λf H R=>e f H λv c=>∃ l a b,v=ϖ l/\c l=W1 (ϧ$ Yu l a)/\Rd c a (ϛ b)/\∀ d,c a=W1 (ϛ b)\/c a=W1 (Ϧ d$ ϛ b)->R (KH a d b) (Qa c a$ Ϧ d$ ϛ b)
def ì(B:PE X d r):PI X tg d$ Ĭ r:=by
 intro g s t H R I h;refine Zc (B g s t H _ I h) λv s1 ſ=>?_;obtain⟨x,H1,k,E,D⟩:=ſ;obtain⟨l,a,i,rfl,C,c,q⟩:=D;cases E;obtain⟨f,n,m⟩:∃ f,(H1 a=W1 _\/H1 a=W1 (Ϧ f _))/\gb X g t (Qa H1 a$ Ϧ f _) s1:=by
  rcases c with c|⟨f,c⟩
  ·obtain⟨_,_,F,j,o,y,w,e,_⟩:=k.pc a _ c;exact⟨o,ϔ c,k.freeze c e⟩
  ·exact⟨f,ϕ c,by rw[fy c];exact k⟩
 obtain⟨F,y,w,j,u,p⟩:=Zf m rf;refine wpAny_pyIter_values ((k.pc l _ C).1) p ⟨s1.heap.objs.size,[s1.heap.objs.size],_,KH a f i,_,rfl,m.kept (λb o e=>ga _ e),zjx a _ f i (Aa p.lt_size) u,by rw[j.length];exact⟨_,kA _ _ (λz=>by cases z),rfl,rfl⟩,λb A=>?_,q f n⟩;obtain rfl:b=s1.heap.objs.size:=by simpa using A
 exact m.Km (va _)$ m.pc.fresh$ va _
def ŀ(h:FE T X e f)(G:(Lc e "values" X.env (Ib e X.env)=Ib e X.env)⁻¹)(ό:((x.endLine == A.line)=š)⁻¹) :
  jq T X tg (Ϡ (ϝ e "values" x) [] [] A)$ DN f:=by
 intro Q s st H R I hw;refine ì (DO ie Vm PySem.F.type_dict_values ψ h G ό) Q s st H R I ?_;obtain⟨μ,ρ,σ,hE,hr,hp⟩:=hw;refine⟨μ,ρ,σ,hE,hr,hp.bind λd w c v i b e1 V q1 p=>?_⟩;unfold mJ at p;cases d with
 |za ks xs=>
  dsimp only at p;by_cases hl:ks.length=xs.length
  ·rw[ja hl]at p;obtain⟨a,j,rfl,ϊ,q,Y,Z⟩:=q1;refine⟨⟨a,j,rfl,q⟩,a,j,rfl,rfl,q,λl g=>?_⟩;have t:a≠l:=by rcases q with q|⟨_,q⟩<;>exact ym q g
   have W:Rd (Qa i l$ ϧ$ Yu l a) a$ ϛ j:=by unfold Rd;rw[Xd t];exact q
   refine⟨l,a,j,rfl,rf,W,λN m=>?_⟩;have C:Wc c i c$ Qa i l$ ϧ$ Yu l a:=lj g;have k:Qc T c (Qa i l$ ϧ$ Yu l a) w:=V.fresh g;obtain⟨x2,a0⟩:Wc c i c _/\Qc T c _ w:=by
    rcases m with m|m
    ·have y:=CP (μ:=c) (od:=N) m;exact⟨C.trans y,k.keep y (λb hb=>Xd (λz=>ϊ ⋯))$ k.tb.out (λb hb=>Xd hb)$ ϕ ⟨_,m⟩⟩
    ·rw[fy m];exact⟨C,k⟩
   exact Rb.here (Rb.mono x2 p) a0$ CM rf$ Jg.mono x2$ qG Y Z
  ·rw[ra hl]at p;exact p.elim
 |ref n=>
  dsimp only at p;cases S:w[n]? with
  |none=>rw[S]at p;exact p.elim
  |some o=>
   rw[S]at p;obtain⟨a,rfl,ϊ,P⟩:=V.at q1 S;cases o with
   |za j=>
    obtain⟨u,E,K⟩:=P;have q:Rd i a _:=ϔ E;refine⟨⟨a,u,rfl,q⟩,a,u,rfl,rfl,q,λl g=>?_⟩;have t:=ym E g;have r:Qa i l (ϧ$ Yu l a) a=W1 (ϛ u):=by rw[Xd t];exact E
    refine⟨l,a,u,rfl,rf,ϔ r,λN b=>?_⟩;have C:Wc c i c$ Qa i l$ ϧ$ Yu l a:=lj g;have k:Qc T c (Qa i l$ ϧ$ Yu l a) w:=V.fresh g;have ϋ:Wc c _ c$ Qa _ a$ Ϧ N$ ϛ u:=Xr (ya ϊ) r (λb z=>by cases z) (λb b z=>by cases z);have B:=Jg.mono (C.trans ϋ) K;exact Rb.here (Rb.mono (C.trans ϋ) p) (k.write (ob:=ϣ j) ϊ ⟨N,u,rf,B⟩$ λkv z=>by rw[S]at z;cases z).2$ CM rf B
   |Ub j=>
    obtain⟨L,u,E,K⟩:=P;have q:Rd i a _:=ϕ ⟨L,E⟩;refine⟨⟨a,u,rfl,q⟩,a,u,rfl,rfl,q,λl g=>?_⟩;have t:a≠l:=ym E g;have r:Qa i l (ϧ$ Yu l a) a=W1 (Ϧ L$ ϛ u):=by rw[Xd t];exact E
    refine⟨l,a,u,rfl,rf,ϕ ⟨L,r⟩,λN m=>?_⟩;have C:Wc c i c$ Qa i l$ ϧ$ Yu l a:=lj g;have k:Qc T c (Qa i l$ ϧ$ Yu l a) w:=V.fresh g;rcases m with m|m
    ·rw[r]at m;cases m
    ·rw[fy m];exact Rb.here (Rb.mono C p) k$ CM m$ Jg.mono C K
   |_=>exact p.elim
 |_=>exact p.elim
end
noncomputable def II(a b:gV):M$ gV:=ret$ b++a
def lB(a:gV)(b:Ev->M (gV)):Ev->M (gV):=λc=>rc (b c)$ II a
def U6(hm:X.mg x=W1 (Db$ T.ca c))(z:Mk T.K (T.ca c) f)(P:wr T.K N ps b)
  (ϋ:oh X.prog X.w T.K X.mg X.base (Xk X.prog X.w) k f N ps$ ro T ps.length h) (hv:ke d b) (C:∀ y H,xb T y H a d) (ϊ:T.K=X.K) (hr:ud (k+1) X.A) (hg:Gl X x)
  (Y:FA T X (e::l) i) (B: ~~~((x == ("__debug__" : Str))=į)) (Z:(na (e::l) X.env=(į,Ib e X.env)::na l X.env)⁻¹) (F:((Zb g$ na l X.env).any (·.1)=į)⁻¹) :
  FE T X (Ϡ (Ϝ x p) (e::l) [] g)$ pp c ps.length h$ lB a i:=by
 rw[ϊ]at z ϋ P;rintro m s st H Q I ⟨y,n,o,S,G,hp⟩;have E:Rb T (XE X st) (Ha T) y H (rc (i n) (λt=>Bj c ps.length h$ t++a) o) Q:=by
  have:pp c ps.length h (lB a i) n o=rc (i n) (λt=>Bj c ps.length h$ t++a) o:=by
   unfold pp lB II rc;cases i n o<;>rfl
  simp_all
 refine Re$ uF I hg hm (gh I.ok.mod.gx z.kp (Zc (Y g m s st H (λό j=>∀ x u,j x=ŋ->j u=ŋ->u≠x->ro T ps.length h (ϖ x::(ό++d)) (Qa (Qa j u$ .own x) x$ .ub (T.ca c) u []) (λv R=>v=.Sb/\Q (ϖ x) R) (XE X st)) I ⟨y,n,o,S,G,E.bind λt a1 a0 ό j D e1 r1 p1 q1=>?_⟩) λus s1 ⟨ό,j,L,r,q⟩=>⟨L.Li,?_⟩) Z F) B
 ·have:=GS r1 (xb.append p1$ C _ _) q1
  grind
 ·exact SQ z ϋ hr P hv L r q
def IY(B:X.mg x=W1 (Db$ T.ca c))(t:Mk T.K (T.ca c) f)(h:vt T X.prog X.w X.mg X.base k f ps n o)(hd:a=[]\/a=n)(E:ke d a)(l:∀ F H,xb T F H b d)(s:T.K=X.K)(C:ud (k+1) X.A)(z:Gl X x)
  (u:FA T X (e::g) q) (j: ~~~((x == ("__debug__" : Str))=į)) (y:(na (e::g) X.env=(į,Ib e X.env)::na g X.env)⁻¹) (m:((Zb i$ na g X.env).any (·.1)=į)⁻¹) :
  FE T X (Ϡ (Ϝ x p) (e::g) [] i)$ pp c ps.length o$ lB b q:=by
 obtain⟨G,I,v,r⟩:=h;exact U6 B t (by rcases hd with rfl|rfl<;>assumption) r E l s C z u j y m
def cx{a:Type}(f:D->Option a):gV->Option (List a)
 |[]=>W1 []
 |d::ds=>match f d,cx f ds with
  |some k,W1 ks=>W1 (k::ks)
  |_,_=>ŋ
noncomputable def wR:D->Option (gV)
 | ϐ ds=>W1 ds
 |_=>ŋ
def Lv:(n:Nat)->D->Option (NK n)
 |0=>mr
 |n+1=>λd=>match wR d with
  |some ds=>(cx (Lv n) ds).map Sum.inr
  |none=>(mr d).map Sum.inl
theorem eO{j:ac}{H:Hp}{n:Nat}{f:D->Option (NK n)}(i:∀ {d:D} {v:V} {k:NK n},Ha T j H d v->f d=W1 k->NR H n k v):∀ {a:gV} {c:em} {ks:List$ NK n},xb T j H a c->cx f a=W1 ks->Paired (NR H n) ks c
 |[],c,ks,h,e=>by rw[xb]at h;cases e;subst h;exact Ϣ
 |d::a,c,ks,h,e=>by
  obtain⟨v,r,rfl,l,m⟩:=h;unfold cx at e;cases b:f d with
  |none=>rw[b]at e;cases e
  |some k=>
   cases g:cx f a with
   |none=>rw[b,g]at e;cases e
   |some o=>rw[b,g]at e;cases e;exact ϟ (i l b)$ eO i m g
theorem PV{i:ac}{H:Hp}:∀ (n:Nat) {d:D} {v:V} {k:NK n},Ha T i H d v->Lv n d=W1 k->NR H n k v
 |0,_,_,_,r,e=>bA r e
 |n+1,d,v,k,r,e=>by
  cases c:wR d with
  |some ds=>
   simp[Lv,c]at e;obtain⟨ks,a,rfl⟩:=Ka.mp e;cases d<;>cases c;obtain⟨b,h,rfl,g,f⟩:=r;exact⟨b,h,rfl,g,eO (λr e=>PV n r e) f a⟩
  |none=>
   simp only[Lv,c]at e;obtain⟨j,a,rfl⟩:=Ka.mp e;exact bA r a
def Qp:gV->Option TK:=cx$ Lv 4
def uV(f:H b=W1 (.Sa c))(a:xb T g H d c)(e:Qp d=W1 k):NR H 5 (.inr k)$ ϖ b:=⟨b,c,rfl,f,eO (λr e=>PV 4 r e) a e⟩
noncomputable def AY:Ev->M D:=λb a=>J (O a.length)$ a++[.Ie []]
def E1:FE T X (.Dict [] [] b) AY:=by
 rintro a s f H Q I ⟨h,i,j,g,d,e⟩;exact zow a s f H Q I λp c=>(e _ _ _ (Du c) (d.push c ⟨[],rf,rfl⟩)$ dC d)
open Classical in
def yn(ks:List TK)(k:TK):List TK:=if k∈ks then ks else ks++[k]
open Classical in
theorem L5 a(k:TK) v:(Pj a k v).map (·.1)=if k∈a.map (·.1)then a.map (·.1)else a.map (·.1)++[k]:=by
 unfold Pj;by_cases h:k∈a.map (·.1)
 ·have:(a.any λc=>decide$ c.1=k)=š:=by
   obtain⟨p,b,e⟩:=Ya.mp h;exact Ye.mpr ⟨p,b,by simpa using e⟩
  rw[ja this,ja h,Bc];refine List.map_congr_left λp b=>?_;show (if p.1=k then (p.1,v)else p).1=p.1;split<;>rfl
 ·have:¬ (a.any λc=>decide$ c.1=k)=š:=λz=>by
   obtain⟨p,b,e⟩:=Ye.mp z;exact h$ Ya.mpr ⟨p,b,by simpa using e⟩
  rw[ra this,ra h,Dm];rfl
def LA(c:Ev)(x y:D):M Fl:=λa=>match x,y with
 | O n,ϐ b=>(match Qp b,a[n]? with
  |some k,W1 (.Ie ks)=>if ks.length<Yf then J (ϙ c) (a.set n$ .Ie$ yn ks k)else Ϙ
  |_,_=>Ϙ)
 |_,_=>Ϙ
def UO(a:Ev)(b:Ev->M D)(x:D):M Fl:=xs a (b a)$ LA a x
def MP(a:Ev)(c b:Ev->M D)(_:D):M Fl:=xs a (c a)$ UO a b
def kH(f c b:Ev->M D):Ev->M Fl:=λa=>xs a (f a)$ MP a c b
def ħ(hu:X.A.units+9<cLine)(Z:FE T X e f)(ho:FE T X o P)(hi:FE T X i fi)
  (W:∀ v,xi (ϡ o i c) X.env v=(do
   let r <-Ld [v] (Ib o X.env);let E <-Ld [v,r] (Ib i X.env)
   Ig c
   Ld [v,r,E] (cq r E v)
   fE [v,r,E] []):=by intro _;rfl)
  (hs:(yi [ϡ o i c] e p.line X.env=pure į)⁻¹) (hw:(zi [ϡ o i c] e X.env=pure ŋ)⁻¹)
  (V:((Ad [ϡ o i c] X.env).map (·.2)=[xi (ϡ o i c) X.env])⁻¹):FS T X (ϻ [ϡ o i c] e p)$ kH f P fi:=by
 intro m s st H D I hq;refine LI Z (uK ho hi (LQ hu) W) hs hw V m s st H D I ?_;obtain⟨μ,ρ,σ,h,hr,hp⟩:=hq;refine⟨μ,ρ,σ,h,hr,hp.xs h λd K G v H1 d j r1 q1 p1=>⟨G,ρ,K,h.mono j,r1,p1.xs (h.mono j) λx L ό vo H2 d u r2 q2 p2=>⟨ό,ρ,L,(h.mono j).mono u,r2,p2.xs ((h.mono j).mono u) λy N a0 vi H3 d ϋ R q3 g=>?_⟩⟩⟩;have hx:=Ha.mono ϋ _ _ q2;unfold LA at g;cases x with
 |ref n=>
  cases y with
  |Sa ys=>
   dsimp only at g;cases w:Qp ys with
   |none=>rw[w]at g;exact g.elim
   |some k=>
    rw[w]at g;cases q:N[n]? with
    |none=>rw[q]at g;exact g.elim
    |some ob=>
     rw[q]at g;cases ob with
     |Ie ks=>
      dsimp only at g;by_cases B:ks.length<Yf
      ·rw[ja B]at g;obtain⟨a,rfl,hn,S,ϊ,Q⟩:=R.at hx q;obtain⟨b,ws,rfl,Y,C⟩:=q3;have F:=R.write (o:=.dT$ Pj S k v) (ob:=.Ie$ yn ks k) hn ⟨_,rf,by
        subst Q;rw[L5];rfl⟩ (λkv z=>by rw[q]at z;cases z)
       have l:S.length=ks.length:=by rw[<-Q,Ja]
       exact⟨a,_,rfl,oz.t ϊ (uV Y C w) (by rw[l];exact Ma B ⋯),g _ (Ϻ st) _ F.1 F.2$ ((h.mono j).mono u).mono ϋ |>.mono F.1⟩
      ·rw[ra B]at g;exact g.elim
     |_=>exact g.elim
  |_=>exact g.elim
 |_=>exact g.elim
theorem UR(k:TK):∀ a:List$ TK × V,(dm a k).isSome=š ↔ k∈a.map (·.1)
 |[]=>by rw[Ĉ];simp
 |p::a=>by
  by_cases e:p.1=k
  ·rw[CG e];simp[e]
  ·rw[BE e,UR k a,db,La];exact⟨ϕ,λz=>z.elim (λy=>absurd y.symm e) id⟩
open Classical in
def nD(y x:D):M D:=λa=>match y,x with
 | ϐ b,O n=>(match Qp b,a[n]? with
  |some k,W1 (.Ie ks)=>J (Ϗ$ decide$ k∈ks) a
  |_,_=>Ϙ)
 |_,_=>Ϙ
def iS:yk T vM nD:=by
 intro E s H m y x u v Q r q p h;unfold nD at h;cases y with
 |Sa l=>
  cases x with
  |ref n=>
   dsimp only at h;cases c:Qp l with
   |none=>rw[c]at h;exact h.elim
   |some k=>
    rw[c]at h;cases d:m[n]? with
    |none=>rw[d]at h;exact h.elim
    |some ob=>
     rw[d]at h;cases ob with
     |Ie ks=>
      obtain⟨a,rfl,o,j,f,g⟩:=r.at p d;obtain⟨b,ws,rfl,i,e⟩:=q;refine⟨a,dm j k,rfl,aj.t f$ uV i e c,Rb.here h r ?_⟩;congr 1;rw[qg,UR,g];simp
     |_=>exact h.elim
  |_=>exact h.elim
 |_=>exact h.elim
def Ŧ(h:vH T f g c ό):Jy T f g c.nx ό:=λl H j i ex r=>by
 have q:=h l H j i ex r;cases e:c.nx i j with
 |none=>trivial
 |some o=>
  rw[e]at q;cases o with
  |none=>exact q
  |some d=>exact⟨q.1,λx k y=>let ⟨a,b⟩:=q.2 x k y;by subst a;exact⟨Ϯ _ _,r,b⟩⟩
noncomputable def eN(s:cj):M NX:=ret s.nx
def Oo(f:Ev->M cj):Ev->M NX:=λa=>rc (f a) eN
def Ź(h:FI T X tg a f):jq T X tg a$ Oo f:=by
 rintro b s l H R I ⟨m,o,p,c,e,d⟩;exact h b s l H R I ⟨m,o,p,c,e,d.bind λk q n ό r k t j i g=>Rb.here g j$ Ŧ i⟩
def zho{K}
  (hN:X.N.Nodup) (hi:X.N[i]?=W1 y) (hx:Loc X.env.scope y)
  (hc:X.Fd=š) (L:Sj X x M' ix f) (V:jq T X A l ϋ)
  (b5:∀ cl C j h ex,FG T (Ko X (x::z0::M') f cl C j h ex) A tg)
  (a8:∀ cl C j h ex,vx T (Ko X (x::z0::M') f cl C j h ex) K fi)
  (S:∀ cl C j h ex,FE T (Ko X (x::z0::M') f cl C j h ex) F fe)
  (hs:∀ y,pe l X.env y=pure y:=by intro _;rfl)
  (b3:(Fg (ϴ F [⟨A,l,K,0⟩] f a0) (W1$ Ϝ y py) E.line X.env=pure š)⁻¹)
  (hf:X.fn y=š\/X.env.scope.names.lookup y=W1 .local:=by first|exact .inl rfl|exact .inr rfl|assumption) :
  FS T X (ϻ [Ϝ y py] (ϴ F [⟨A,l,K,0⟩] f a0) E)$ Qe i$ uk ϋ ix tg fi fe:=by
 rintro B s st H D I ⟨μ,ρ,σ,hE,hr,b1⟩;have hp:Rb T _ _ μ H (uk ϋ ix tg fi fe ρ σ) (λv Q=>D.nx _ Q):=b1.xs hE λd a3 a2 v Q d e1 r1 q1 p1=>Rb.here (g:=Ϻ$ st.set i$ W1 v) p1 r1$ (hE.mono e1).set i q1;rw[exec_Assign_Name_used _ _ _ _ b3];refine ba$ Vs$ ba ?_;refine ba (ic (kt rfl hs (aM X.env f$ iB I L) L.kind (λy hy e=>?_)
  ?_) (λd s' hq=>da$ da hq) λd d e=>e)
 ·have q:=Xa.mp L.names y hy;rw[e]at q;exact eq_of_beq q
 have h1:=V B s st H (λό t=>∃ nx k a4,Wc μ H k t/\Qc T k t a4/\Jy T k t nx ό/\Rb T (XE X st) (Ha T) k t _ (λv Q=>D.nx (st.set i$ W1 v) Q)) I
  ⟨μ,ρ,σ,hE,hr,hp.bind λnx a3 a2 ό Q d e1 r1 q1 p1=>⟨nx,a2,a3,e1,r1,q1,p1⟩⟩
 refine Zc h1 λv s1 h2=>Zc h2 λb8 s2 h3=>?_;obtain⟨it,fp,tn,ό,t,rfl,I2,TT,a1,f2,nx,k,a4,a5,r2,so,p2⟩:=h3;refine Nc$ ck (rF L) (by intro y hy;simp at hy) (λW u w=>?_) L.kind;have P:=I2.Xz (t':=s2.toks) Ϣ ⋯;have R:t s2.heap.objs.size=ŋ:=I2.pc.fresh$ va _;have G:Wc k t (k++[s2.heap.objs.size])$ Qa t s2.heap.objs.size$ ϰ []:=Du R;have b4:s2.heap.objs.size<(s2.heap.push { cls:=Wh "list",data:=ϩ [].toArray }).objs.size:=by rw[Ed];exact cc _
 have kp:∀ b o,(s2.heap.push { cls:=Wh "list",data:=ϩ [].toArray }).get? b=W1 o->W.get? b=W1 o:=λb o e=>w.extBut b o (Aa$ wa e)$ ga _ e;have n:∀ b∈fp,Wk X B (Qa t s2.heap.objs.size$ ϰ []) b/\b<(s2.heap.push { cls:=Wh "list",data:=ϩ [].toArray }).objs.size:=λb m=>by
  obtain⟨o,e,_⟩:=TT.obj 0 _ a1 b m;have lt:=wa e;exact⟨⟨by rw[Xd$ Aa lt];exact(f2 b m).1,(f2 b m).2⟩,Pq lt b4⟩
 refine eY hc L b5 a8 S P n u kp TT (TT.keep 0 _ _ a1 λb m o e=>kp b o$ ga _ e)
  (λμ H σ i ex r=>so μ H σ i (G.trans ex) r) ((hE.mono a5).mono G) (r2.push (ob:=ϑ []) R ⟨[],rf,xb.nil⟩) (by rw[<-r2.len];simp) (p2.mono G) (λs6 H' m6 a9 a6 b6 b0 ϊ a7 hq=>?_)
 have Z:X.env.locals<(s2.heap.push { cls:=Wh "list",data:=ϩ ([]:b').toArray }).objs.size:=P.lt;have Y:∀ z c,X.env.cells.lookup z=W1 c->c<(s2.heap.push { cls:=Wh "list",data:=ϩ ([]:b').toArray }).objs.size:=λz c e=>by
  obtain⟨v,q⟩:=P.cell z c e;exact q.lt
 refine QD$ MQ (v:=ϖ s2.heap.objs.size) (L2.gb.Py (s':=s6) (ch:=fp) P b0 b6 ϊ a7$ λb m=>⟨(n b m).1.2.2.2.1,(n b m).1.2.1,(n b m).1.2.2.2.2.1,(n b m).1.2.2.2.2.2⟩) hN hi hx rfl (λs7 I7 ſ=>?_) hf;obtain⟨a,sb,ha⟩:=ſ;have b7:a≠(s2.heap.push { cls:=Wh "list",data:=ϩ ([]:b').toArray }).objs.size:=by
  rcases ha with rfl|ha
  ·exact Aa Z
  ·exact Aa$ Y _ _ ha
 refine⟨m6,a9.sameBut sb$ Cd b7,λh8 b2=>⟨st.set i$ W1$ ϖ s2.heap.objs.size,H',?_,hq⟩⟩;exact I7.turned (t':=s7.toks) (it:=(s2.heap.push { cls:=Wh "list",data:=ϩ ([]:b').toArray }).objs.size) (λb o m e=>(b2.2 b m).trans e) a6 (ee Z) (ϕ$ zb P.sz$ va _) (λz c e=>Aa$ Y z c e) (λp hp=>Aa$ wa (P.pin p hp).1)
structure xm(K:ϗ)(C:Addr):Prop where
 f:W.findIn K (Db C) "__eq__" = W1 (W1 (Ϟ "object.__eq__"))
 o:W.mroIn K C (Wh "object")=W1 š
section
variable{prog:xa}{w:Na}{K:ϗ}{A:Ia}{E:Value->Shared->Prop}{h:Heap}{g:Array Nh}{d:Vo}{t:Nat}{os:Dv}{x y C D:Addr}{ox oy:Obj}
def pX{M}(X:K.In h)(f:W.findIn K (Db C) a=W1 r)(e:h.get? x=W1 ox)(b:ox.cls=Db C)(c:Q r ⟨h,g,d,t,os⟩):wpAny M A (specialOf (Db x) a) Q E ⟨h,g,d,t,os⟩:=by
 unfold specialOf;repeat (first|(with_reducible refine vd e ?_;rw[b])|(with_reducible refine W.Looks.at (WG X f) ?_)|wp_step)
 exact c
def vV(X:K.In h)(c:xm K C)(n:h.get? x=W1 ox)(l:ox.cls=Db C)(r:h.get? y=W1 oy)(i:x≠y)(q:Q .notImplemented ⟨h,g,d,t,os⟩) :
  wpAny (model prog w) A (call (Ϟ "object.__eq__") [Db x,Db y]) Q E ⟨h,g,d,t,os⟩:=by
 refine ij$ ak F.cmp_object.eq.plain F.cmpEntry_eq ?_;have j:=F.cmpArgs_eq (Db x)$ Db y;have f:=Uq (M:=model prog w) X c.o;have b:ox.cls≠ Wh "tuple":=by rw[l];intro e;cases e
 simp only[jH,F.cmpKind_eq,F.cmpSplit_eq];refine ba ?_;unfold IB;have s:∀ (k:Unit->Shared->Prop),k () _->wpAny (model prog w) A (match gg "object.__eq__" with|some sig=>Gf "object.__eq__" sig ⟨[Db x,Db y],[]⟩|none=>pure ()) k E ⟨h,g,d,t,os⟩:=λk m=>by
  cases a:gg "object.__eq__" with
  |none=>exact da m
  |some sig=>
   simp only[Gv,a]at j;have p:Gf "object.__eq__" sig ⟨[Db x,Db y],[]⟩=pure ():=j;show wpAny _ A (Gf "object.__eq__" sig ⟨[Db x,Db y],[]⟩) k E _;rw[p];exact da m
 repeat (first|(with_reducible refine vd n ?_;rw[l])|(with_reducible refine W.Looks.at f ?_)|(with_reducible refine jj i n r b ?_)|wp_step)
 exact q
def QH(X:K.In h)(c:xm K C)(e:h.get? x=W1 ox)(b:ox.cls=Db C)(j:h.get? y=W1 oy)(a:x≠y)(i:Q ŋ ⟨h,g,d,t,os⟩) :
  wpAny (model prog w) A (JB (Db x) "__eq__"$ Db y) Q E ⟨h,g,d,t,os⟩:=by
 refine ba ?_;simp only[Qz,Rz];refine Xb$ ba$ ba$ pX X c.f e b ?_;simp only[F.cmp_object.eq.bind];refine ba$ Eg$ wpAny_ite ?_;split
 ·exact ba$ da$ da$ ba$ vV X c e b j a$ da$ da i
 ·exact Ce$ ba$ da$ da$ ba$ vV X c e b j a$ da$ da i
def ģ(X:K.In h)(c:xm K C)(o:xm K D)(q:W.mroIn K D (Db C)=W1 į)(f:h.get? x=W1 ox)(k:ox.cls=Db C)(i:h.get? y=W1 oy)(b:oy.cls=Db D)(j:C≠D)(r:A.units<cLine)(p:Q (Dj į) ⟨h,g,d,t,os⟩) :
  wpAny (model prog w) A (Nb .Eq (Db x)$ Db y) Q E ⟨h,g,d,t,os⟩:=by
 have a:x≠y:=λe=>by
  simp_all
 have m:ox.cls≠ Wh "tuple":=by rw[k];intro e;cases e
 have n:=Uq (M:=model prog w) X q;have l:(Db C != Db D)=š:=by simp[j]
 show wpAny _ A (gk .Eq (Db x)$ Db y) Q E _;simp only[gk,EB,uv];repeat (first|with_reducible refine Vq r ?_|(with_reducible refine vd f ?_;rw[k])|(with_reducible refine vd i ?_;rw[b])|(rw[l,ja rfl];with_reducible refine ba$ W.Looks.at n ?_)|(with_reducible refine W.Looks.at n ?_)|(with_reducible refine QH X c f k i a ?_)|(with_reducible refine QH X o i b f (Cd a) ?_)|(with_reducible refine jj a f i m ?_)|wp_step)
 exact p
end
def ZS(K:ϗ):R2:=λv u H Q=>∃ x y C D a b c gs,v=ϖ x/\u=ϖ y/\H x=W1 (.ub C a c)/\H y=W1 (.ub D b gs)/\xm K C/\xm K D/\W.mroIn K D (Db C)=W1 į/\C≠D/\Q (Ϭ į) H
def uJ(K:ϗ)(a:Nat->Addr)(l:List$ Nat × Nat):Prop:=∀ p∈l,xm K (a p.1)/\xm K (a p.2)/\W.mroIn K (a p.2) (Db$ a p.1)=W1 į/\a p.1≠a p.2
def t9{K}:uJ K a []:=λb h=>nomatch h
def OK{K}(a:xm K$ e c)(b:xm K$ e d)(m:W.mroIn K (e d) (Db$ e c)=W1 į)(n:e c≠e d)(r:uJ K e l):uJ K e$ (c,d)::l:=λp f=>by
 rcases La.mp f with rfl|f
 ·exact⟨a,b,m,n⟩
 ·exact r p f
def O7(E:X.A.units+9<cLine):Ph X (Nb .Eq)$ ZS X.K:=by
 intro b s st H v u m p Q I o n h;obtain⟨x,y,C,D,r,z,B,gs,rfl,rfl,f,i,c,e,j,a,q⟩:=h;obtain rfl:m=Db x:=o;obtain rfl:p=Db y:=n;obtain⟨_,_,_,k,_⟩:=(show Uj X.prog X.w H s.heap x _ from I.pc x _ f)
 obtain⟨_,_,_,l,_⟩:=(I.pc y _ i)
 obtain⟨h,g,d,t,F⟩:=s;exact ģ I.Li c e j k rfl l rfl a ⋯ ⟨Ϭ į,H,I,rfl,q⟩
end Lake
namespace Lake
open W L2
noncomputable def KG:D->Option (gV)
 | .gt ss=>W1 (ss.map ϒ)
 | ϐ ds=>W1 ds
 |_=>ŋ
def OJ(x y:D):M D:=λa=>match KG x,KG y with
 |some xs,W1 c=>(match ln (bp a 0) xs c with
  |some b=>J (Ϗ b) a
  |none=>Ϙ)
 |_,_=>Ϙ
def iZ{xs}(f:T.K=X.K)(h:KG x=W1 xs)(c:Ha T d H x v):∃ p b,v=ϖ p/\Yg X.K H p b/\xb T d H xs b:=by
 cases x with
 |gt ss=>
  cases h;obtain⟨p,rfl,a⟩:=c;rw[f]at a;exact⟨p,_,rfl,ϕ a,YP ss⟩
 |Sa ds=>
  cases h;obtain⟨p,b,rfl,a,e⟩:=c;exact⟨p,b,rfl,Yg.of a,e⟩
 |_=>cases h
def t5(f:T.K=X.K)(V:X.A.units+9<cLine):Ph X (Nb .Eq)$ rD T OJ:=by
 intro c s st H v u g Z Q I N M h;obtain⟨E,μ,ϊ,x,y,r,B,C,a⟩:=h;unfold OJ at a;cases ex:KG x with
 |none=>rw[ex]at a;exact a.elim
 |some xs=>
  cases d:KG y with
  |none=>rw[ex,d]at a;exact a.elim
  |some S=>
   rw[ex,d]at a;dsimp only at a;cases e:ln (bp ϊ 0) xs S with
   |none=>rw[e]at a;exact a.elim
   |some b=>
    rw[e]at a;obtain⟨p,vs,rfl,t,G⟩:=iZ f ex B;obtain⟨q,ws,rfl,z,ό⟩:=iZ f d C;cases N;cases M;obtain⟨W,D,ϋ,_⟩:=L2.gb.tuple I t;obtain⟨Y,F,P,_⟩:=L2.gb.tuple I z;obtain⟨n,o⟩:=yN (λx y v w g R b i j k l m=>BI I r 0 X.A.in1 x y v w g R b (by show X.A.units+1+0+1<cLine;lia) i j k l m) G ό D F e;have L:Og X.A s (Db p) (Db q) b:=by rw[o];exact .tuples ϋ P ⋯ n
    exact L X.prog X.w X.xe (EP X c st Q) ⟨Ϭ b,H,I,rfl,Rb.here a r (by rw[Ha])⟩
end Lake
namespace Lake
open Spec L2
section
variable{prog:xa}{w:Na}{K:ϗ}{A:Ia}{E:Value->Shared->Prop}{h:Heap}{g:Array Nh}{d:Vo}{t:Nat}{os:Dv}{x y C:Addr}{ox oy:Obj}
def OQ(X:K.In h)(c:xm K C)(m:h.get? x=W1 ox)(j:ox.cls=Db C)(l:Q (Dj š) ⟨h,g,d,t,os⟩) :
  wpAny (model prog w) A (call (Ϟ "object.__eq__") [Db x,Db x]) Q E ⟨h,g,d,t,os⟩:=by
 refine ij$ ak F.cmp_object.eq.plain F.cmpEntry_eq ?_;have e:=F.cmpArgs_eq (Db x)$ Db x;have b:=Uq (M:=model prog w) X c.o;simp only[jH,F.cmpKind_eq,F.cmpSplit_eq];refine ba ?_;unfold IB;have n:∀ (k:Unit->Shared->Prop),k () ⟨h,g,d,t,os⟩->wpAny (model prog w) A (match gg "object.__eq__" with|some sig=>Gf "object.__eq__" sig ⟨[Db x,Db x],[]⟩|none=>pure ()) k E ⟨h,g,d,t,os⟩:=λk f=>by
  cases a:gg "object.__eq__" with
  |none=>exact da f
  |some sig=>
   simp only[Gv,a]at e;have i:Gf "object.__eq__" sig ⟨[Db x,Db x],[]⟩=pure ():=e;show wpAny _ A (Gf "object.__eq__" sig ⟨[Db x,Db x],[]⟩) k E _;rw[i];exact da f
 repeat (first|(with_reducible refine vd m ?_;rw[j])|(with_reducible refine W.Looks.at b ?_)|(with_reducible refine wpAny_isSame_ref_self ?_)|wp_step)
 exact l
def Ο(X:K.In h)(c:xm K C)(b:h.get? x=W1 ox)(a:ox.cls=Db C)(e:Q (W1$ Dj š) ⟨h,g,d,t,os⟩) :
  wpAny (model prog w) A (JB (Db x) "__eq__"$ Db x) Q E ⟨h,g,d,t,os⟩:=by
 simp only[JB];refine ba ?_;simp only[Qz,Rz];refine Xb$ ba$ ba$ pX X c.f b a ?_;simp only[F.cmp_object.eq.bind];refine ba$ Eg$ wpAny_ite ?_;split
 ·exact ba$ da$ da$ ba$ OQ X c b a$ da$ da e
 ·exact Ce$ ba$ da$ da$ ba$ OQ X c b a$ da$ da e
end
open Classical in
def Ĵ{K}{a:Nat->Addr}:∀ c∈([]:dl),xm K (a c):=λb h=>nomatch h
def KM{K}{b:Nat->Addr}(a:xm K$ b c)(r:∀ x∈l,xm K (b x)):∀ x∈c::l,xm K (b x):=λx d=>by
 rcases La.mp d with rfl|d
 ·exact a
 ·exact r x d
section
variable{prog:xa}{w:Na}{K:ϗ}{A:Ia}{E:Value->Shared->Prop}{h:Heap}{g:Array Nh}{d:Vo}{t:Nat}{os:Dv}{x y C:Addr}{ox oy:Obj}
def İ(X:K.In h)(c:xm K C)(f:h.get? x=W1 ox)(i:ox.cls=Db C)(l:h.get? y=W1 oy)(j:oy.cls=Db C)(o:A.units<cLine)(p:x=y->Q (Dj š) ⟨h,g,d,t,os⟩)(b:x≠y->Q (Dj į) ⟨h,g,d,t,os⟩) :
  wpAny (model prog w) A (Nb .Eq (Db x)$ Db y) Q E ⟨h,g,d,t,os⟩:=by
 have m:ox.cls≠ Wh "tuple":=by rw[i];intro e;cases e
 have k:(Db C != Db C)=į:=by simp
 show wpAny _ A (gk .Eq _ _) Q E _;by_cases a:x=y
 ·have n:=p a;subst a;simp only[gk,EB,uv];repeat (first|with_reducible refine Vq o ?_|(with_reducible refine vd f ?_;rw[i])|(rw[k,ra yb])|(with_reducible refine Ο X c f i ?_)|wp_step)
  exact n
 ·have b:=b a;simp only[gk,EB,uv];repeat (first|with_reducible refine Vq o ?_|(with_reducible refine vd f ?_;rw[i])|(with_reducible refine vd l ?_;rw[j])|(rw[k,ra yb])|(with_reducible refine QH X c f i l a ?_)|(with_reducible refine QH X c l j f (Cd a) ?_)|(with_reducible refine jj a f l m ?_)|wp_step)
  exact b
end
def M6(K:ϗ):R2:=λv u H Q=>ZS K v u H Q\/∃ x y C a b c gs,v=ϖ x/\u=ϖ y/\H x=W1 (.ub C a c)/\H y=W1 (.ub C b gs)/\xm K C/\(x=y->Q (Ϭ š) H)/\(x≠y->Q (Ϭ į) H)
noncomputable def í:Gi Fl->Gi Fl
 | J (.rt v) σ=>J (.rt v) σ
 |_=>Ϙ
def XR(A R:M Fl):D->D->M Fl
 | O i,O j=>λa=>if i=j then í (A a)else R a
 |_,_=>λb=>Ϙ
def zM(l:List$ Nat × Nat)(b:dl)(A R:M Fl)(x y:D):M Fl:=λa=>match qi a x,qi a y with
 |some (c,_),W1 (d,_)=>if (c,d)∈l then R a else if c=d/\c∈b then XR A R x y a else Ϙ
 |_,_=>Ϙ
def VF(l:List$ Nat × Nat)(b:dl)(c fr:Ev->M D)(d e:Ev->M Fl):Ev->M Fl:=λa=>xs a (c a) λx=>xs a (fr a)$ zM l b (d a) (e a) x
def Õ(m:X.A.units+9<cLine):Ph X (Nb .Eq)$ M6 X.K:=by
 intro a s st H v u b j Q I i f h;rcases h with h|h
 ·exact O7 m a s st H v u b j Q I i f h
 ·obtain⟨x,y,C,r,w,z,gs,rfl,rfl,k,l,c,q,p⟩:=h;obtain rfl:b=Db x:=i;obtain rfl:j=Db y:=f;obtain⟨_,_,_,n,_⟩:=(I.pc x _ k)
  obtain⟨_,_,_,o,_⟩:=(I.pc y _ l)
  obtain⟨h,g,d,t,B⟩:=s;exact İ I.Li c n rfl o rfl ⋯ (λe=>⟨Ϭ š,H,I,rfl,q e⟩) (λe=>⟨Ϭ į,H,I,rfl,p e⟩)
def Β{A rest}(hu:X.A.units+9<cLine)(ht:uJ X.K T.ca l)(hs:∀ c∈ϋ,xm X.K (T.ca c))(hm:We .Eq b=į)(hl:FE T X a fl)(hr:FE T X b fr)(ha:im T X A P)(m:im T X rest gr) :
  im T X (.If (.Compare a [.Eq] [b] p) A [] W::rest)$ VF l ϋ fl fr P gr:=by
 intro w s st H D I hw;refine tX (yS (KP (Õ hu) hl hr hm) ha rT) m w s st H D I ?_;obtain⟨μ,ρ,σ,r,ϊ,hp⟩:=hw;refine⟨μ,ρ,σ,r,ϊ,Rb.xs r hp λx a4 a3 v H1 J ό r1 p1 q1=>⟨a3,ρ,a4,r.mono ό,r1,Rb.xs (r.mono ό) q1 λy f n u H2 J e2 o p2 e=>?_⟩⟩;have t:=Ha.mono e2 _ _ p1;have h:=(r.mono ό).mono e2;unfold zM at e;cases C:qi f x with
 |none=>rw[C]at e;exact e.elim
 |some cf=>
  cases N:qi f y with
  |none=>rw[C,N]at e;exact e.elim
  |some cg=>
   obtain⟨c,fs⟩:=cf;obtain⟨d,gs⟩:=cg;rw[C,N]at e;dsimp only at e;obtain⟨B,F,Y,rfl,Q,_⟩:=Gy o t C;obtain⟨q,G,Z,rfl,R,_⟩:=Gy o p2 N;by_cases g:(c,d)∈l
   ·rw[ja g]at e;obtain⟨z1,z2,z3,z4⟩:=ht _ g;exact ϔ ⟨B,q,_,_,F,G,Y,Z,rfl,rfl,Q,R,z1,z2,z3,z4,į,rfl,n,ρ,f,h,o,e⟩
   ·rw[ra g]at e;by_cases S:c=d/\c∈ϋ
    ·rw[ja S]at e;obtain⟨rfl,hc⟩:=S;cases x with
     |ref i=>
      cases y with
      |ref j=>
       obtain⟨a1,z1,m1⟩:=t;obtain⟨a2,z2,V⟩:=p2;cases z1;cases z2;unfold XR at e;dsimp only at e;by_cases k:i=j
       ·subst k;rw[m1]at V;cases V;rw[ja rfl]at e;refine ϕ ⟨B,B,_,F,G,Y,Z,rfl,rfl,Q,R,hs c hc,λJ=>⟨š,rfl,n,ρ,f,h,o,?_⟩,λz=>absurd rfl z⟩;cases L:P ρ f with
        |ok E a5=>
         cases E with
         |rt v=>
          rw[L]at e;intro a0 E H' e' r' q';have:=e a0 E H' e' r' q';cases E with
          |rt v=>exact this
          |_=>exact q'.elim
         |_=>rw[L]at e;exact e.elim
        |_=>rw[L]at e;exact e.elim
       ·rw[ra k]at e;refine ϕ ⟨B,q,_,F,G,Y,Z,rfl,rfl,Q,R,hs c hc,λz=>?_,λJ=>⟨į,rfl,n,ρ,f,h,o,e⟩⟩;subst z;obtain⟨i1,i2⟩:=aa.mp m1;obtain⟨j1,j2⟩:=aa.mp V;exact absurd ((Gw o.nd).mp$ i2.trans j2.symm) k
      |_=>exact e.elim
     |_=>exact e.elim
    ·rw[ra S]at e;exact e.elim
def jW
  (F:∀ a v,Go (model X.prog X.w) X.A X.env v->im T (Cx.bJ X a v) d g):FS T X (.Try d (i::o) [] [] p)$ FJ g []:=by
 rintro a s k H D I ⟨y,e,r,E,ό,G⟩;refine wpAny_Try_except (ic (F a _ zaE [] s k H D (Ě I)
  ⟨y,e,r,E,ό,?_⟩) (λf s1 q=>?_) λJ J z=>z)
 ·have b:Rb T EN _ y H ((g e r).bind _) _:=G;cases t:g e r with
  |ok C L=>
   rw[t]at b;intro c m l B n h;have j:=b.mono B;cases C with
   |nx e=>cases m with
    |nx k=>exact j c _ l (Ϯ _ _) n h
    |_=>exact h.elim
   |rt e=>cases m with
    |rt k=>exact j c _ l (Ϯ _ _) n h
    |_=>exact h.elim
   |bk e=>cases m with
    |bk k=>exact j c _ l (Ϯ _ _) n h
    |_=>trivial
   |ct e=>cases m with
    |ct k=>exact j c _ l (Ϯ _ _) n h
    |_=>trivial
   |xc K x=>exact j.elim
  |_=>rw[t]at b;exact b
 ·have u:=M3 q;cases f with
  |next=>exact nj u
  |_=>exact u
end Lake
set_option maxHeartbeats 0
namespace Internal
open Spec L2 Lake
noncomputable def ph(i:Nat):Stmt:=PySem.Challenge.pw_sidebook_k94_whole_amid_a_payment.main.body.getD i$ .Pass ⟨0,0,0,0⟩
def yI(K:ϗ):Tab:=⟨jx K "least_fate",443,35, "least_fate.<locals>.<lambda>"⟩
def EI(K:ϗ):Tab:=⟨jx K "paper",458,27, "paper.<locals>.<lambda>"⟩
def tx(K:ϗ):Tx:=⟨[yI K,EI K],mz K⟩
def DX K:yI K∈(tx K).Rn:=(.head _)
def pY K:EI K∈(tx K).Rn:=(.tail _$ .head _)
def i6 K:∀ t∈(tx K).Rn,∃ x∈[("least_fate" : Str),("paper" : Str)],t.P=jx K x:=by
 intro t a;have h:t∈[yI K,EI K]:=a;simp only[La,Wf,Wt]at h;rcases h with rfl|rfl
 ·exact⟨"least_fate",by simp,rfl⟩
 ·exact⟨"paper",by simp,rfl⟩
inductive Al{α:Type}(P:α->Prop):List α->Prop
 |n:Al P []
 |c {x:α} {l:List α} (h:P x) (t:Al P l):Al P (x::l)
def Al.get{P}{l:List a}(h:Al P l):∀ x∈l,P x:=by
 induction h with
 |n=>simp
 |c h _ i=>simp_all
inductive JD(E:ab):List Arg->ab->ab->Prop
 |nil:JD E [] [] E
 |cons {x:Str} {a:Option Fa} {p:Dd} {as:List Arg} {ps N:ab} (t:JD E as ps N):JD E (⟨x,a,p⟩::as) (x::ps) (x::N)
def JD.map(h:JD E a ps N):a.map (·.arg)=ps:=by
 induction h<;>simp_all
def fX:Stmt->Str
 | .FunctionDef x _ _ _ _ _ _ _ _ _=>x
 |_=>""
inductive nz(E:ab):Stmt->Str->ab->ab->Prop
 |mk {x as ps N a b c d e f g h i j k l m n} (t:JD E as ps N):nz E (.FunctionDef x ⟨a,as,b,c,d,e,f⟩ g h i j k l m n) x ps N
def HF(K:ϗ)(b:Str->Option Value)(a:Stmt):Prop:=wq K b (fX a) a ((ul a).args.map (·.arg))
def HM(K:ϗ)(f:Addr)(a:Stmt):Prop:=∃ q,su K 0 (fX a) q a ((ul a).args.map (·.arg)) f
def C9{K mg x st st' ps}(a:st=st')(d:(fX st',(ul st').args.map (·.arg))=(x,ps))(h:wq K mg x st ps):HF K mg st:=by
 subst a;cases d;exact h
def ú{K f x q st st' ps}(a:st=st')(d:(fX st',(ul st').args.map (·.arg))=(x,ps))(h:su K 0 x q st ps f):HM K f st:=by
 subst a;cases d;exact⟨q,h⟩
def nz.fn{K mg x E st ps N}(d:nz E st x ps N)(h:HF K mg st):wq K mg x st ps:=by
 cases d with|mk t=>cases t.map;exact h
def nz.me{K f x E st ps N}(d:nz E st x ps N)(h:HM K f st):∃ q,su K 0 x q st ps f:=by
 cases d with|mk t=>cases t.map;exact h
def QF{b c:Type}:List c->(List b->Prop)->Prop
 |[],P=>P []
 |_::l,P=>∀ a,QF l λt=>P$ a::t
@[elab_as_elim] theorem QF.ap{b c:Type}:∀ (l:List c) {P:List b->Prop} (u:List b) (_:u.length=l.length) (_:QF l P),P u
 |[],_,[],_,z=>z
 |_::l,_,a::u,h,z=>QF.ap l u (Nat.succ.inj h) (z a)
abbrev GH(x q:Str)(st:Stmt)(ps:ab)(c:b'):Prop:=∀ (t:Addr) (kV b pm:Value) (an:Option Addr) (a ct:Value) (s:Shared) (o:Obj) (n:Nat) (us:b'),s.heap.get? t=W1 o->o.data=ϩ c.toArray n->((us++[]).length=ps.length->Se s (ϯ x q (ul st) (Fj st) (qf st) (Db t) kV b pm an a ct) ⟨us,[]⟩ (ps.zip$ us++[]))/\((us++c).length=ps.length->Se s (ϯ x q (ul st) (Fj st) (qf st) (Db t) kV b pm an a ct) ⟨us,[]⟩ (ps.zip$ us++c))
noncomputable abbrev MV:dl:=[113,114,8,9,11,57,58,59,100,13,12,15,10,27,29,28,14,30,32,110,103,61,17,16,46,47,35,33,101,102,34,60,120,115,65,64,66,67,68,70,40,80,81,82,83,84,85,87,88,89,90,92,93,86,95,36,38,105,106,49]
noncomputable abbrev MN:List$ Nat × List (Nat × Nat):=[(50,[(0,17)]),(62,[(0,30),(14,44),(2,32),(1,31),(8,38),(9,39),(13,43),(7,37),(4,34),(5,35),(3,33),(10,40),(12,42),(11,41)]),(108,[(2,57),(1,56),(4,59),(20,75),(21,76),(22,77),(12,67),(23,78),(19,74),(6,61),(17,72),(3,58),(7,62),(8,63),(9,64),(11,66),(18,73),(15,70),(14,69),(13,68),(5,60)]),(71,[(0,45),(2,47),(1,46)]),(51,[(0,18),(1,19)]),(52,[(1,22),(2,23),(4,25),(0,21),(3,24)]),(53,[(1,27),(0,26),(2,28)]),(111,[(22,101),(2,81),(1,80),(5,84),(16,95),(6,85),(8,87),(10,89),(9,88),(11,90),(17,96),(12,91),(21,100),(18,97),(7,86),(19,98),(4,83)]),(72,[(1,49),(0,48)]),(73,[(1,51),(0,50)]),(74,[(1,53),(0,52)]),(79,[(0,54)])]
noncomputable abbrev LN:dl:=[5,6,7,8,9,10,11,12,13,14,15,16]
noncomputable abbrev yF:List$ Str × dl:=[("pots",[9,14,16]),("day",[7,9]),("whole",[5,6,7,8]),("claims",[9,15]),("shown",[9]),("public",[16]),("every",[14,15,16]),("keepers",[16]),("under_way",[16]),("things",[16]),("hand",[15]),("last_look",[14,15]),("gave",[15]),("known",[14,15]),("accounts",[15]),("seen",[15]),("asked",[15]),("finishing",[15]),("pot",[10,11,12,13]),("side",[7,8,10,11,12,13]),("mine",[10,11,12,13]),("grant",[10,11,12,13]),("may",[10,11,12,13]),("strikes",[10,11,12,13]),("stand",[7]),("wait",[7])]
noncomputable abbrev qQ:List$ Nat × List (Str × Nat):=[(9,[("made_of",44),("today",32),("check_pot",31),("told",38),("shown_for",39),("all_shown",43),("strike",37),("show",34),("may_lie",35),("lay",36),("next_day",33),("due_of",40),("is_over",42),("coin_of",41)]),(15,[("learn",57),("hold",56),("looked",59),("strike_all",75),("is_to_show",76),("show_all",77),("holds",67),("lay_all",78),("look",74),("account",61),("is_as_asked",72),("words",58),("view_by",62),("view",63),("worth",64),("is_good",66),("take_step",73),("take",70),("wish_for",69),("wish",68),("given",60)]),(8,[("told",27),("comes",28)]),(7,[("told",22),("waits",23),("may_strike",25),("comes",24)]),(6,[("told",18),("comes",19)]),(13,[("strike_of",47),("taken",53),("word",52),("agree_of",46)]),(12,[("strike_of",47),("agree_of",46),("taken",51),("word",50)]),(11,[("strike_of",47),("agree_of",46),("taken",49),("word",48)]),(10,[("strike_of",47),("agree_of",46)]),(16,[("next_day",101),("keeper",81),("book",80),("has_pot",84),("keeping_hands",95),("is_side_of_band",85),("band_can",87),("tell_band",89),("send",88),("hand_over",90),("band",96),("wish",91),("look",100),("show",97),("check_side_of_band",86),("lay",98),("coin",83)])]
noncomputable abbrev nT:List$ Str × Int:=[("MOST_AMOUNT",1000000000000),("MOST_COIN",1000000000000),("MOST_DAY",1000000),("MOST_EVERY",50),("MOST_HAND",3),("MOST_NUMBER",1000000),("MOST_POT",2),("MOST_SHARE",2000000000000),("MOST_TIES",6),("MOST_WAIT",100),("MOST_WORD",59)]
structure jg(K:ϗ)(mg:Str->Option Value)(ca:Nat->Addr):Prop where
 Eh:AK K mg "stand" (ph 31) ["number","shares","ties"] [Yb]
 Md:wq K mg "first_account" (ph 75) ["pot","side","left","right"]
 gp:vp K (ca 15) "__init__" "Keeper.__init__" (iu (ph 108) 0) ["self","hand","every","pots","words"] [Yb] (ca 55)
 zo:vp K (ca 16) "__init__" "Hall.__init__" (iu (ph 111) 0) ["self","pots","keeps","every","words"] [Yb] (ca 79)
 ae:vp K (ca 9) "lay" "Book.lay" (iu (ph 62) 6) ["self","pot","side","stand","agreement"] [Yb] (ca 36)
 Ve:WI K mg "least_fate" (ph 91) ["lots","every"]
 sj:WI K mg "paper" (ph 94) ["view"]
 Gc:wq K mg "_law_brought_in" (ph 116) ["_law_hall","_law_amount","_law_day"]
 Hf:wq K mg "offered" (ph 76) ["account","shares","ties"]
 og:wq K mg "step_to" (ph 107) ["account","one"]
 Nd:wq K mg "_law_accepted" (ph 117) ["_law_hall"]
 re:wq K mg "_law_shown" (ph 118) ["_law_hall","_law_cell","_law_last"]
 Kf:wq K mg "_law_end" (ph 119) ["_law_hall","_law_cell"]
 Rl:wq K mg "law" (ph 121) ["_law_script"]
 ki:mg "worth_worth" = mg "worth"
 tf:Al (λi=>HF K mg (ph i)) MV
 tm:Al (λp=>Al (λq=>HM K (ca q.2) (iu (ph p.1) q.1)) p.2) MN
 tc:Al (λc=>L2.Iq K (ca c)) LN
 ta:Al (λp=>Al (λc=>L2.Px K (ca c) p.1) p.2) yF
 te:Al (λp=>Al (λq=>L2.eu K (ca p.1) q.1 (ca q.2)) p.2) qQ
 ti:Al (λp=>∃ t,mg p.1=W1 (Mh p.2 t)) nT
 cG:mg "all" = ŋ
 aB:mg "bool" = ŋ
 Wu:mg "dict" = ŋ
 lp:mg "enumerate" = ŋ
 SE:mg "int" = ŋ
 yf:mg "isinstance" = ŋ
 Cz:mg "len" = ŋ
 Yz:mg "list" = ŋ
 Fu:mg "max" = ŋ
 Er:mg "min" = ŋ
 jr:mg "range" = ŋ
 wz:mg "set" = ŋ
 ip:mg "sorted" = ŋ
 KF:mg "str" = ŋ
 NE:mg "sum" = ŋ
 Qx:mg "tuple" = ŋ
 GE:mg "zip" = ŋ
 BA:bG K mg "FIRM" ["won","sure","back"]
 Iu:bG K mg "HELD" ["held"]
 tu:mg "Held" = W1 (Db (ca 6))
 yx:L2.Mk K (ca 6) (ca 17)
 NA:mg "Book" = W1 (Db (ca 9))
 Ww:L2.Mk K (ca 9) (ca 30)
 cB:mg "Calm" = W1 (Db (ca 11))
 ay:L2.Mk K (ca 11) (ca 45)
 yu:mg "Keeper" = W1 (Db (ca 15))
 Pr:L2.Mk K (ca 15) (ca 55)
 uA:mg "Hall" = W1 (Db (ca 16))
 Qw:L2.Mk K (ca 16) (ca 79)
 yr:mg "Claim" = W1 (Db (ca 5))
 Ug:W.specialIn K (Db (ca 5)) (Ai "__getattribute__")=W1 (W1 (Ϟ "type.__getattribute__"))
 Sg:W.readsIn K (ca 5) (Wh "type")=š
 Rg:W.findCls K (Db (ca 5)) (Wh "type") "__init__" = W1 (.val (Db (ca 17)))
 Tg:Ϲ K (Db (ca 17))=š
 Ix:mg "Taken" = W1 (Db (ca 8))
 Zu:L2.Mk K (ca 8) (ca 26)
 Gx:Lake.InK K (ca 16)
 uo:Ϫ K (Db (ca 16)) (Db (ca 6))=W1 į
 Os:Lake.InK K (ca 15)
 Tl:Ϫ K (Db (ca 15)) (Db (ca 6))=W1 į
 Vx:Lake.InK K (ca 14)
 Zn:Ϫ K (Db (ca 14)) (Db (ca 6))=W1 į
 nq:Lake.InK K (ca 13)
 Nk:Ϫ K (Db (ca 13)) (Db (ca 6))=W1 į
 fq:Lake.InK K (ca 12)
 Qk:Ϫ K (Db (ca 12)) (Db (ca 6))=W1 į
 qx:Lake.InK K (ca 11)
 io:Ϫ K (Db (ca 11)) (Db (ca 6))=W1 į
 dy:Lake.InK K (ca 9)
 Wn:Ϫ K (Db (ca 9)) (Db (ca 6))=W1 į
 zu:Lake.InK K (ca 8)
 Om:Ϫ K (Db (ca 8)) (Db (ca 6))=W1 į
 my:Lake.InK K (ca 7)
 Vn:Ϫ K (Db (ca 7)) (Db (ca 6))=W1 į
 Jx:Lake.InK K (ca 6)
 yo:Ϫ K (Db (ca 6)) (Db (ca 6))=W1 š
 CA:mg "Laid" = W1 (Db (ca 7))
 mx:L2.Mk K (ca 7) (ca 21)
 Vr:mg "Waiting" = W1 (Db (ca 13))
 Mq:L2.Mk K (ca 13) (ca 45)
 yj:Lake.xm K (ca 11)
 vk:Lake.xm K (ca 12)
 Rk:W.mroIn K (ca 12) (Db (ca 11))=W1 į
 Yk:(ca 11)≠(ca 12)
 ji:Lake.xm K (ca 13)
 Uk:W.mroIn K (ca 13) (Db (ca 11))=W1 į
 Vk:(ca 11)≠(ca 13)
 Sk:W.mroIn K (ca 11) (Db (ca 13))=W1 į
 Jk:(ca 13)≠(ca 11)
 MA:mg "View" = W1 (Db (ca 14))
 Sw:L2.Mk K (ca 14) (ca 54)
 Ms:mg "Offered" = W1 (Db (ca 12))
 xq:L2.Mk K (ca 12) (ca 45)
 tb:kx K ["least_fate","paper"]
 MR:mg "__builtins__" = W1 (Db (mz K))
 sF:∀ t∈(tx K).Rn,∀ t'∈(tx K).Rn,t'.P=t.P->t'=t
seal L2.PE L2.PS L2.Uv L2.PT L2.PW L2.PA L2.PI L2.PG
def rN{sc}(a:(sc.kind=Ϥ)⁻¹)(b:(sc.isCoroutine=į)⁻¹)(c:(sc.isGenerator=į)⁻¹)(h:N.Nodup/\N.take Q.length=Q/\(∀ x∈Q,sc.names.lookup x=W1 .local\/sc.names.lookup x=W1 lc)/\∀ y∈sc.names,y.2≠ Ab:=by decide +kernel):gc N Q sc:=⟨a,b,c,h.1,h.2.1,h.2.2.1,h.2.2.2⟩
def fO{K}(a:jg K e b)(h:(x,cs)∈yF:=by repeat (first|with_reducible exact ua|refine la _ ?_)):xI ⟨K,b,tx K⟩ cs x:=λc d=>⟨a.tc.get _$ (by decide +kernel:∀ p∈yF,∀ c∈p.2,c∈LN) _ h _ (by simpa using d),(a.ta.get _ h).get _ (by simpa using d)⟩
class ZqF (k m:outParam Nat) (x:Str) (ps:outParam (ab)) where
 f:gV->M D
 ok:∀ {P:xa} {w:Na} {K:ϗ} {mg:Str->Option Value} {base:Heap} {ca:Nat->Addr},jg K mg ca->Uh ⟨K,ca,tx K⟩ P w mg base k x ps f
 len:ps.length=m
structure pE(k m n:Nat)(ps:ab) where
 f:gV->M D
 ok:∀ {P:xa} {w:Na} {K:ϗ} {mg:Str->Option Value} {base:Heap} {ca:Nat->Addr},jg K mg ca->Dq ⟨K,ca,tx K⟩ P w mg base k (ca n) ps f
 len:ps.length=m
class Pe (k m:outParam Nat) (x:Str) (ps:outParam (ab)) (tb:outParam Mt):Prop where
 ok:∀ {P:xa} {w:Na} {K:ϗ} {mg:Str->Option Value} {base:Heap} {ca:Nat->Addr},jg K mg ca->JJ ⟨K,ca,tx K⟩ P w mg base k x ps tb
 len:ps.length=m
instance {k m:Nat} {x:Str} {ps:ab}:CoeFun (ZqF k m x ps) λa=>gV->M D:=⟨λq=>q.f⟩
instance {k m:Nat} {x:Str} {a:ab}:CoeOut (ZqF k m x a)$ gV->M D:=⟨λq=>q.f⟩
instance {k m n:Nat} {ps:ab}:CoeFun (pE k m n ps) λa=>gV->M D:=⟨λq=>q.f⟩
instance {k m n:Nat} {a:ab}:CoeOut (pE k m n a)$ gV->M D:=⟨λq=>q.f⟩
abbrev Hb(x:Str)(k:Nat)(N:ab)(st:Stmt)(g:Ev->M Fl):Prop:=∀ {P:xa} {w:Na} {K:ϗ} {b:Str->Option Value} {base:Heap} {ca:Nat->Addr} {f:Addr} {a:Value} {A:Ia} {outer:List xg} {s:Shared} {H:Hp} {E:XK},jg K b ca->ud k (A.deeper$ dg x (qf st) s.heap.objs.size f a)->N.Nodup->im ⟨K,ca,tx K⟩ (Ap (Xk P w) P w K b base N x (qf st) f a A outer s H E) (Fj st) g
def qc(n m k i:Nat)(E:ab){x:Str}{st:Stmt}{ps N:ab}{g:Ev->M Fl}(j:ph i=st:=by conv=>lhs;whnf)(f:nz E st x ps N:=by repeat constructor)(hb:Hb x k N st g:=by walk_at "-")(S:gc N ps$ qf st:=by exact rN)(e:(N.length=n)⁻¹)(d:(ps.length=m)⁻¹)(c:i∈MV:=by decide +kernel):ZqF (k+1) m x ps:=⟨Lake.qd λb=>Lake.Ic$ Xg n g b,λa=>e ▸ Uh.qd (Uh.Ic$ dz (f.fn$ j ▸ a.tf.get i c) S λv v v v v v v h=>hb a h S.nd),d⟩
@[simp] theorem yn2{st}{hs hp hb S hn hm hi}:(qc n m k i E (x:=x) (st:=st) (ps:=ps) (N:=N) (g:=g) hs hp hb S hn hm hi).f=Lake.qd λa=>Lake.Ic$ Xg n g a:=rfl
def Vd(n m k j t i:Nat)(E:ab){x:Str}{st:Stmt}{ps N:ab}{g:Ev->M Fl}{l:List$ Nat × Nat}(r:iu (ph t) i=st:=by conv=>lhs;whnf)(o:nz E st x ps N:=by repeat constructor)(hb:∀ {q:Str},Hb q k N st g:=by walk_at "-")(S:gc N ps$ qf st:=by exact rN)(f:(N.length=n)⁻¹)(e:(ps.length=m)⁻¹)(c:(t,l)∈MN:=by repeat (first|with_reducible exact ua|refine la _ ?_))(d:(i,j)∈l:=by repeat (first|with_reducible exact ua|refine la _ ?_)):pE (k+1) m j ps:=⟨Lake.qd λb=>Lake.Ic$ Xg n g b,λa=>let ⟨_,h⟩:=o.me (r ▸ ((a.tm.get (t,l) c).get (i,j) d:HM _ _ (iu (ph t) i)));f ▸ Dq.qd (Dq.Ic$ JV h S λv v v v v v p=>hb a p S.nd),e⟩
@[simp] theorem yn1{st}{hs hp hb S hn hm hi hj}:(Vd n m k j t i E (x:=x) (st:=st) (ps:=ps) (N:=N) (g:=g) (l:=l) hs hp hb S hn hm hi hj).f=Lake.qd λa=>Lake.Ic$ Xg n g a:=rfl
def Ue(n m k j t i:Nat)(E:ab){x:Str}{st:Stmt}{ps N:ab}{g:Ev->M Fl}{l:List$ Nat × Nat}(p:iu (ph t) i=st:=by conv=>lhs;whnf)(f:nz E st x ps N:=by repeat constructor)(hb:∀ {q:Str},Hb q k N st g:=by walk_at "-")(S:gc N ps$ qf st:=by exact rN)(e:(N.length=n)⁻¹)(d:(ps.length=m)⁻¹)(b:(t,l)∈MN:=by repeat (first|with_reducible exact ua|refine la _ ?_))(c:(i,j)∈l:=by repeat (first|with_reducible exact ua|refine la _ ?_)):pE (k+1) m j ps:=⟨Lake.qd$ Xg n g,λa=>let ⟨_,h⟩:=f.me (p ▸ ((a.tm.get (t,l) b).get (i,j) c:HM _ _ (iu (ph t) i)));e ▸ Dq.qd (JV h S λv v v v v v o=>hb a o S.nd),d⟩
@[simp] theorem yn3{st}{hs hp hb S hn hm hi hj}:(Ue n m k j t i E (x:=x) (st:=st) (ps:=ps) (N:=N) (g:=g) (l:=l) hs hp hb S hn hm hi hj).f=Lake.qd (Xg n g):=rfl
theorem Pe.ue k c x(q:pE j m n ps)(r:Pe k m x ps b)(e: ~~~(j<=k))(h:(c,l)∈qQ:=by repeat (first|with_reducible exact ua|refine la _ ?_))(g:(x,n)∈l:=by repeat (first|with_reducible exact ua|refine la _ ?_))(d: ~~~(c∈LN)):Pe k m x ps$ (c,q.f)::b:=⟨λa=>U2 (T:=⟨_,_,tx _⟩) (a.tc.get _ d) ((a.te.get _ h).get _ g) (q.ok a) e$ r.ok a,r.len⟩
def Pe.nil(h:(ps.length=m)⁻¹):Pe k m x ps []:=⟨λa=>R8,h⟩
section
variable{ca:Nat->Addr}{k m n:Nat}{ps:ab}{x:Str}{p pos pos' apos:Dd}{e o i v:Fa}{es:List Fa}{f g fo fi fv:Ev->M D}{fs:Ev->M (gV)}{cs:dl}{pl:Em Bool}
abbrev TX(X:Cx)(ca:Nat->Addr):Tb:=⟨X.K,ca,tx X.K⟩
def A8[q:ZqF k m x ps](o:ud n X.A)(c:jg X.K X.mg ca)(d:FA (TX X ca) X (e::es) fs)(j: ~~~(k<=n))(i:Gl X x:=by exact rfl)(a: ~~~((x == ("__debug__" : Str))=į))(g:(na (e::es) X.env=(į,Ib e X.env)::na es X.env)⁻¹)(b:((Zb pos$ na es X.env).any (·.1)=į)⁻¹):FE (TX X ca) X (Ϡ (Ϝ x p) (e::es) [] pos)$ we m q.f [] fs:=by
 have h:=q.ok (P:=X.prog) (w:=X.w) (base:=X.base) c;have l:=q.len;subst l;exact Ps h rfl (o.mono j) i d a g b
def Œ{d}[q:Pe k m x ps d](r:ud n X.A)(g:jg X.K X.mg ca)(p:FE (TX X ca) X o f)(i:FA (TX X ca) X (e::es) fs)(j: ~~~(k<=n))(b:(na (e::es) X.env=(į,Ib e X.env)::na es X.env)⁻¹)(a:((Zb pos$ na es X.env).any (·.1)=į)⁻¹) (s:(Ib (Ϡ (ϝ o x apos) (e::es) [] pos) X.env=(do
   let c <-Ib o X.env
   Ig apos.atName
   let (f,first) <-Ld [c] (Dh c x pl)
   dn pos f first (Zb pos$ na (e::es) X.env) (Ng pos$ Me [] X.env)))⁻¹):FE (TX X ca) X (Ϡ (ϝ o x apos) (e::es) [] pos)$ Zd d m x f fs:=by
 have h:=q.ok (P:=X.prog) (w:=X.w) (base:=X.base) g;have l:=q.len;subst l;exact oW rfl p h (r.mono j) i b a s
def ź{b}[q:Pe k m x ps b](g:ud n X.A)(c:jg X.K X.mg ca)(e:FE (TX X ca) X o f)(d: ~~~(k<=n)) (i:(Ib (Ϡ (ϝ o x apos) [] [] pos) X.env=(do
   let a <-Ib o X.env
   Ig apos.atName
   let (f,first) <-Ld [a] (Dh a x pl)
   dn pos f first (Zb pos$ na [] X.env) (Ng pos$ Me [] X.env)))⁻¹):FE (TX X ca) X (Ϡ (ϝ o x apos) [] [] pos)$ Zd b m x f Za:=by
 have h:=q.ok (P:=X.prog) (w:=X.w) (base:=X.base) c;have l:=q.len;subst l;exact V2 rfl e h (g.mono d) i
def D2(a:jg X.K X.mg ca)(c:FE (TX X ca) X e g)(b:(Lc e x X.env (Ib e X.env)=Ib e X.env)⁻¹)(d:(x,cs)∈yF:=by repeat (first|with_reducible exact ua|refine la _ ?_)):FE (TX X ca) X (ϝ e x pos)$ Pc (Vb cs x) g:=P8 rfl (fO a d) c b
def N8(a:jg X.K X.mg ca)(b:FE (TX X ca) X o fo)(e:FE (TX X ca) X v fv)(d:(Fg v (W1$ ϝ o x pos') pos.line X.env=pure į)⁻¹)(c:(x,cs)∈yF:=by repeat (first|with_reducible exact ua|refine la _ ?_)):FS (TX X ca) X (ϻ [ϝ o x pos'] v pos)$ El cs x fv fo:=Ý rfl (fO a c) b e d
def B4(a:jg X.K X.mg ca)(b:Gl X x:=by exact rfl)(hd: ~~~((x == ("__debug__" : Str))=į))(c:(x,z)∈nT:=by repeat (first|with_reducible exact ua|refine la _ ?_)):FE (TX X ca) X (Ϝ x pos)$ eC$ U z:=by
 obtain⟨t,h⟩:=a.ti.get _ c;exact M1 b h ⟨_,rfl⟩ hd
end
noncomputable def Qt:Fa->Str
 | Ϝ x _=>x
 | ϳ (Ϝ x _::_) _ _=>x
 |_=>""
noncomputable def Vv:Fa->Str
 | ϳ (_::Ϝ x _::_) _ _=>x
 |_=>"0"
noncomputable def fr(s:Scope)(p:dl):ab:=p.map λi=>((s.names.filter λy=>y.2 == Ab).map (·.1)).getD i ""
section
variable{elt iter tgt:Fa}{ifs:List Fa}{scope:Scope}{pos spos py:Dd}{y:Str}{src:Ev->M NX}{tg:D->Ev->Option Ev}{fi:Ev->M Bool}{fe:Ev->M D}
def q0 g pm(d:jq T X tgt iter src)(f:(Qt tgt::Vv tgt::fr scope pm).Nodup->∀ cl C b a ex,FG T (Ko X (Qt tgt::Vv tgt::fr scope pm) scope cl C b a ex) tgt tg)(e:∀ cl C b a ex,vx T (Ko X (Qt tgt::Vv tgt::fr scope pm) scope cl C b a ex) ifs fi)(c:∀ cl C b a ex,FE T (Ko X (Qt tgt::Vv tgt::fr scope pm) scope cl C b a ex) elt fe)(i:(Qt tgt::Vv tgt::fr scope pm).Nodup:=by decide +kernel)(L:Sj X (Qt tgt) (fr scope pm) g scope:=by exact⟨rfl,rfl,rfl,rfl,rfl,rfl⟩)(h:(X.Fd=š)⁻¹)(j:∀ y,pe iter X.env y=pure y:=by intro _;rfl):FE T X (ϴ elt [⟨tgt,iter,ifs,0⟩] scope pos)$ uk src g tg fi fe:=yde h L d (f i) e c j
def XU i h pm(j:X.N.Nodup)(d:jq T X tgt iter src)(g:(Qt tgt::Vv tgt::fr scope pm).Nodup->∀ cl C b a ex,FG T (Ko X (Qt tgt::Vv tgt::fr scope pm) scope cl C b a ex) tgt tg)(e:∀ cl C b a ex,vx T (Ko X (Qt tgt::Vv tgt::fr scope pm) scope cl C b a ex) ifs fi)(c:∀ cl C b a ex,FE T (Ko X (Qt tgt::Vv tgt::fr scope pm) scope cl C b a ex) elt fe)(n:(Qt tgt::Vv tgt::fr scope pm).Nodup:=by decide +kernel)(m:(X.N[i]?=W1 y)⁻¹)(p:Loc X.env.scope y:=by first|exact Or.inl rfl|exact Or.inr rfl)(L:Sj X (Qt tgt) (fr scope pm) h scope:=by exact⟨rfl,rfl,rfl,rfl,rfl,rfl⟩)(k:(X.Fd=š)⁻¹)(o:∀ y,pe iter X.env y=pure y:=by intro _;rfl)(f:(Fg (ϴ elt [⟨tgt,iter,ifs,0⟩] scope pos) (W1$ Ϝ y py) spos.line X.env=pure š)⁻¹)(l:X.fn y=š\/X.env.scope.names.lookup y=W1 .local:=by first|exact .inl rfl|exact .inr rfl|assumption):FS T X (ϻ [Ϝ y py] (ϴ elt [⟨tgt,iter,ifs,0⟩] scope pos) spos)$ Qe i$ uk src h tg fi fe:=zho j m p k L d (g n) e c o f l
end
class ZqC (c k m:outParam Nat) (x:Str) (ps:outParam (ab)) (fn:outParam (gV->M D)):Prop where
 ok:∀ {P:xa} {w:Na} {K:ϗ} {mg:Str->Option Value} {base:Heap} {ca:Nat->Addr},jg K mg ca->dX ⟨K,ca,tx K⟩ P w mg base k x c ps fn
 len:ps.length=m
def fmk{X}{d}{c k m n}{ps}{x}{i}{p b}{e}{a}{j}[q:ZqC c k m x ps i](v:ud n X.A)(o:jg X.K X.mg d)(r:FA (TX X d) X (e::a) j)(u: ~~~(k+1<=n))(t:Gl X x:=by exact rfl)(f: ~~~((x == ("__debug__" : Str))=į))(s:(na (e::a) X.env=(į,Ib e X.env)::na a X.env)⁻¹)(g:((Zb b$ na a X.env).any (·.1)=į)⁻¹):FE (TX X d) X (Ϡ (Ϝ x p) (e::a) [] b)$ pp c m i j:=by
 have h:=q.ok (P:=X.prog) (w:=X.w) (base:=X.base) o;have l:=q.len;subst l;exact S3 h rfl (v.mono u) t r f s g
set_option hygiene false
def wkA(k:String):Lean.MacroM Lean.Term:=
 if k == "_" then `(_) else if k == "?" then `(?_) else if k == "!" then `(by assumption) else if k == "λ" then `(λa a=>rfl) else let r:=(k.drop 1).toString
 if k.front == '\'' then return Lean.Syntax.mkStrLit r else if k.front.isDigit then return Lean.Syntax.mkNumLit k else let i:=λ(k:String)=>Lean.mkIdent ((k.splitOn ".").foldl Lean.Name.str .anonymous)
 if k.front == '.' then let i:=i r;`(.$i:ident) else if k == "@n" then `(by first|assumption|(show List.Nodup (_::_::_);decide +kernel)) else if k == "@o" then `(by first|exact Or.inl rfl|exact Or.inr rfl) else match k.splitOn "=" with
 |[a,b]=>return ⟨.node .none ``Lean.Parser.Term.namedArgument #[Lean.mkAtom "(",Lean.mkIdent (.mkSimple a),Lean.mkAtom ":=",Lean.Syntax.mkNumLit b,Lean.mkAtom ")"]⟩
 |_=>return i k
def wkT(s:String):Lean.MacroM Lean.Term:=do
 let m:=λ(a:List Lean.Term)=>match a.reverse with|f::l=>Lean.Syntax.mkApp f l.toArray|_=>⟨.missing⟩
 let mut t:List$ List Lean.Term:=[[]]
 for k in s.splitOn " " do
  if k == "(" || k == "[" then t:=[]::t
  else match k,t with
   |")",a::b::r=>t:=(m a::b)::r
   |"]",a::b::r=>let a:=a.reverse.toArray;t:=((<- `([$a,*]))::b)::r
   |_,b::r=>t:=((<- wkA k)::b)::r
   |_,_=>pure ()
 return m t.head!
def wkF:List (Lean.TSyntax `tactic)->Lean.MacroM (Lean.TSyntax `tactic)
 |[t]=>pure t
 |t::r=>do let r <- wkF r;`(tactic| first|$t:tactic|$r:tactic)
 |[]=>`(tactic| fail)
def wkR(s:String):Lean.MacroM (Lean.TSyntax `tactic):=do wkF (<- (s.splitOn "|").mapM λt=>do let t <- wkT t;`(tactic| refine' $t))
def wkG(s:String):Lean.MacroM (Lean.TSyntax `tactic):=do
 match s.splitOn ";" with
 |[g,r]=>let g <- wkT g;let r <- wkR r;`(tactic| (guard_target =~ $g;$r:tactic))
 |[g,n,r]=>let g <- wkT g;let n <- wkT n;let r <- wkR r;`(tactic| (guard_target =~ $g;(fail_if_success (guard_target =~ $n));$r:tactic))
 |_=>`(tactic| fail)
def wkL(s:String):Lean.MacroM (Lean.TSyntax `tactic):=do
 match s.splitOn "\n" with
 |g::l=>let g <- wkT g;let r <- wkF (<- l.mapM wkG);`(tactic| (guard_target =~ $g;$r:tactic))
 |_=>`(tactic| fail)
def wkS:=["FE _ _ _ _\nFE _ _ ( .Constant _ _ _ ) _;VA|Ĝ|A4|č\nFE _ _ ( .Subscript _ ( .Slice _ _ _ _ ) _ ) _;zly rfl ? ? ?\nFE _ _ ( .Subscript _ _ _ ) _;FE _ _ ( .Subscript ( .Attribute _ _ _ ) _ _ ) _;JM ZN ( WO rfl ) ? ? λ\nFE _ _ ( .Call ( .Name 'len _ ) [ ( .Call ( .Name 'set _ ) _ _ _ ) ] _ _ ) _;ë rfl rfl rfl ( jg.Cz ! ) rfl ( jg.wz ! ) ?\nFE _ _ ( .Call ( .Name 'len _ ) _ _ _ ) _;sx x5 ( Q8 rfl ) rfl ( jg.Cz ! ) uy ?\nFE _ _ ( .Call ( .Name 'sum _ ) _ _ _ ) _;sx ( l8 rfl ) ( F2 rfl ) rfl ( jg.NE ! ) boot_sum ?\nFE _ _ ( .Call ( .Name 'all _ ) _ _ _ ) _;sx ( zkb rfl ) ( C3 rfl ) rfl ( jg.cG ! ) boot_all ?\nFE _ _ ( .Call ( .Name 'isinstance _ ) [ _ ( .Name 'tuple _ ) ] _ _ ) _;jI .tuple ? rfl ( jg.yf ! ) rfl ( jg.Qx ! ) boot_tuple\nFE _ _ ( .Call ( .Name 'isinstance _ ) [ _ ( .Name 'str _ ) ] _ _ ) _;jI .str ? rfl ( jg.yf ! ) rfl ( jg.KF ! ) boot_str\nFE _ _ ( .Call ( .Name 'isinstance _ ) [ _ ( .Name 'int _ ) ] _ _ ) _;jI .int ? rfl ( jg.yf ! ) rfl ( jg.SE ! ) boot_int\nFE _ _ ( .Call ( .Name 'isinstance _ ) [ _ ( .Name 'bool _ ) ] _ _ ) _;jI .bool ? rfl ( jg.yf ! ) rfl ( jg.aB ! ) boot_bool\nFE _ _ ( .Call ( .Name _ _ ) _ _ _ ) _;A8 ! ! ?\nFE _ _ ( .Call ( .Attribute _ 'append _ ) _ _ _ ) _;lN xh Xm Ym uO XP ? ?\nFE _ _ ( .Call ( .Attribute _ 'extend _ ) _ _ _ ) _;lN xh PySem.F.slot_list_extend PySem.F.type_list_extend Á zf9 ? ?\nFE _ _ ( .Call ( .Attribute _ _ _ ) ( .cons _ _ ) _ _ ) _;Œ ! ! ? ?\nFE _ _ ( .Call ( .Attribute _ _ _ ) [ ] _ _ ) _;ź ! ! ?\nFE _ _ ( .Attribute _ _ _ ) _;D2 ! ?\nFE _ _ ( .Tuple _ _ _ ) _;tW ?\nFE _ _ ( .BinOp _ .Add _ _ ) _;yz ( AX rfl ) sw ? ?\nFE _ _ ( .BinOp _ .Sub _ _ ) _;yz Y8 U0 ? ?\nFE _ _ ( .BinOp _ .Mod _ _ ) _;yz qY vW ? ?\nFE _ _ ( .BinOp _ .FloorDiv _ _ ) _;yz w4 zzt ? ?\nFE _ _ ( .BinOp _ .Pow _ _ ) _;yz J8 zzy ? ?\nFE _ _ ( .Compare _ [ .Eq ] _ _ ) _;Up ( vR ( Hm ! ) ) sw ? ? ( Pn _ )\nFE _ _ ( .Compare _ [ .NotEq ] _ _ ) _;Up ( wS ( Hm ! ) ) sw ? ? ( Pn _ )\nFE _ _ ( .Compare _ [ .Lt ] _ _ ) _;Up IJ PH ? ? ( Pn _ )\nFE _ _ ( .Compare _ [ .LtE ] _ _ ) _;Up dG EG ? ? ( Pn _ )\nFE _ _ ( .Compare _ [ .Gt ] _ _ ) _;Up cX eZ ? ? ( Pn _ )\nFE _ _ ( .Compare _ [ .GtE ] _ _ ) _;Up vN AL ? ? ( Pn _ )\nFE _ _ ( .Compare _ [ .Is ] _ _ ) _;Up uQ yV ? ? ( Pn _ )\nFE _ _ ( .Compare _ [ .IsNot ] _ _ ) _;Up BW AU ? ? ( Pn _ )\nFE _ _ ( .Compare _ [ .LtE _ ] _ _ ) _;bW dG EG dG EG ? ? ?\nFE _ _ ( .Compare _ [ .Lt _ ] _ _ ) _;bW IJ PH dG EG ? ? ?\nFE _ _ ( .BoolOp .And ( .cons _ ( .cons _ _ ) ) _ ) _;wN ? ?\nFE _ _ ( .BoolOp .Or ( .cons _ ( .cons _ _ ) ) _ ) _;j5 ? ?\nFE _ _ ( .BoolOp _ [ _ ] _ ) _;NL ?\nFE _ _ ( .UnaryOp .Not _ _ ) _;Η ?\nFE _ _ ( .UnaryOp .USub _ _ ) _;l7 yji XZ ?\nFE _ _ ( .IfExp _ _ _ _ ) _;xV ? ? ?","FA _ _ _ _\nFA _ _ _ _;Lu|Hn ? ?","im _ _ _ _\nim _ _ _ _;Nu|Ii ?|Vc ? ?","FS _ _ _ _\nFS _ _ ( .Return _ _ ) _;Ar ?\nFS _ _ ( .Assign [ ( .Attribute _ _ _ ) ] _ _ ) _;N8 ! ? ?\nFS _ _ ( .Expr _ _ ) _;Rw ?","FT _ _ _ _\nFT _ _ ( .BoolOp _ _ _ ) _;L2.PW.pt ?\nFT _ _ ( .UnaryOp .Not _ _ ) _;xH ?\nFT _ _ ( .Compare _ [ .Eq ] _ _ ) _;Sr ( vR ( Hm ! ) ) sw ? ? ( Pn _ )\nFT _ _ ( .Compare _ [ .NotEq ] _ _ ) _;Sr ( wS ( Hm ! ) ) sw ? ? ( Pn _ )\nFT _ _ ( .Compare _ [ .Lt ] _ _ ) _;Sr IJ PH ? ? ( Pn _ )\nFT _ _ ( .Compare _ [ .LtE ] _ _ ) _;Sr dG EG ? ? ( Pn _ )\nFT _ _ ( .Compare _ [ .Gt ] _ _ ) _;Sr cX eZ ? ? ( Pn _ )\nFT _ _ ( .Compare _ [ .GtE ] _ _ ) _;Sr vN AL ? ? ( Pn _ )\nFT _ _ ( .Compare _ [ .Is ] _ _ ) _;Sr uQ yV ? ? ( Pn _ )\nFT _ _ ( .Compare _ [ .IsNot ] _ _ ) _;Sr BW AU ? ? ( Pn _ )\nFT _ _ _ _;FT _ _ ( .Compare _ _ _ _ ) _;LC ?","FW _ _ _ _\nFW _ _ _ _;Ü ? ?|fY ? ?|zt9 ?|NU ?","FG _ _ _ _\nFG _ _ ( .Tuple _ _ _ ) _;mM n=2 rfl ?|mM n=3 rfl ?|mM n=4 rfl ?","LB _ _ _ _\nLB _ _ _ _;zti|ũ ? ?","FI _ _ _ _ _\nFI _ _ _ ( .Call ( .Name 'range _ ) [ _ ] _ _ ) _;Ż rfl ( jg.jr ! ) ?\nFI _ _ _ ( .Call ( .Name 'range _ ) _ _ _ ) _;zhk rfl ( jg.jr ! ) ? ?\nFI _ _ _ _ _;WV rfl ?","jq _ _ _ _ _\njq _ _ _ ( .Call ( .Name 'enumerate _ ) _ _ _ ) _;z9 rfl ( jg.lp ! ) ?\njq _ _ _ ( .Call ( .Name 'zip _ ) _ _ _ ) _;Ũ rfl ( jg.GE ! ) ? ?","vx _ _ _ _\nvx _ _ _ _;ĥ|ztl ?","Lake.FO _ _ _ _\nLake.FO _ _ _ _;zto|ε ?"]
def wkM:="A bP ş ( t8 rfl ) rfl ( jg.Yz ! ) boot_list ?\nC bP fV ŭ rfl ( jg.Wu ! ) boot_dict ?\nD Sr ( DT rfl ( Hm ! ) ) sw ? ? rfl|Up ( DT rfl ( Hm ! ) ) sw ? ? rfl\nF qA ir rfl ? ? ?\nH bP fV ğ rfl ( jg.Wu ! ) boot_dict ?\nI nL ?\nK Ř ?\nL J6 ?\nM K8 ? ? ?\nN E1\nO sx ( zg0 rfl ) ( W5 rfl ) rfl ( jg.ip ! ) Lake.eR ?\nQ Ă rfl rfl rfl ( jg.ip ! ) rfl ( jg.wz ! ) ?\nR fmk ! ! ?\nT ħ ( Hm ! ) ? ? ?\na Es ? ? ?\nb Es ? pz ?\nd VP ( Hm ! ) ? ? λ\nf ZA ir rfl ? ? ?\nh YO ?\ni Sr ( RJ ( Hm ! ) ) FX ? ? rfl|Up ( RJ ( Hm ! ) ) FX ? ? rfl\nj Sr ( wW ( Hm ! ) ) RT ? ? rfl|Up ( wW ( Hm ! ) ) RT ? ? rfl\nl A3 ?\nm HL ( Hm ! ) ? ? ?\nn ĵ\no WU\ns Sr IN ( xT rfl false ) ? ? rfl|Up IN ( xT rfl false ) ? ? rfl\nt Sr ( RJ ( Hm ! ) ) iS ? ? rfl|Up ( RJ ( Hm ! ) ) iS ? ? rfl\nu B4 !\nv WZ ?\nx JM ZN ( WO rfl ) ? ? λ\ny Ź ?\nz DP ?"
local macro_rules
 |`(tactic| walk_at $s:str)=>do
  let c:=s.getString.front;let r:=(s.getString.drop 1).toString;let r':=Lean.Syntax.mkStrLit r
  if c == '-' then return <- `(tactic| ((repeat intro _);walk_at "";walk_at $r'))
  if c == '+' then return <- `(tactic| (walk_at "";walk_at $r'))
  let n:=λ(c:Char)=>toString (c.toNat - 48);let (t,r) <-(if c == 'c' || c == 'q' || c == 'r' then (do
   let d:=(r.takeWhile (·!= '.')).toString.toList;let o:=(r.drop (d.length+1)).toString;let j:=n (d.headD '0');let d:=d.drop (if c == 'c' then 0 else 1);let e:=(d.takeWhile (·!= '/')).map n;let p:=((d.dropWhile (·!= '/')).drop 1).map n;let p:=if p.isEmpty then (List.range e.length).map toString else p
   let b:=λ(l:List String)=>l.foldl (·++·++" ") "[ "++"] ";let l:=b e++b p
   return (<- wkR (if c == 'c' then "q0 "++l++"? ? ? ?" else if c == 'q' then "C4 ( XU "++j++" "++l++"! ? ? ? ? )" else "XU "++j++" "++l++"! ? ? ? ?"),o)) else match (wkM.splitOn "\n").find? (·.front == c) with
    |some t=>return (<- wkR (t.drop 2).toString,r)
    |_=>return (<- wkF (<- (("FE _ _ _ _;Ij #\nFG _ _ _ _;Ŕ i=# @n rfl @o\nFS _ _ ( .Assign _ _ _ ) _;pA i=# @n rfl @o ?\n_;aS i=# JY @n rfl @o ?".replace "#" (n c)).splitOn "\n").mapM wkG),r))
  let r:=Lean.Syntax.mkStrLit r;let t <- `(tactic| ($t:tactic<;>walk_at ""));let f:=λu=>`(tactic| first|$t:tactic|(rotate_left;$u:tactic))
  let u <- f (<- f (<- f (<- f t)))
  `(tactic| ($u:tactic;walk_at $r))
local macro_rules
 |`(tactic| walk_at "")=>do
  let r <- wkF (<- wkS.mapM wkL)
  `(tactic| repeat' ((fail_if_success guard_target =~ Ev->_);first
  |$r:tactic
  |(guard_target =~ List.Nodup _->_;intro _ _ _ _ _ _)
  |(intro _ _ _ _ _)))
section
variable{P:xa}{w:Na}{K:ϗ}{mg:Str->Option Value}{base:Heap}{ca:Nat->Addr}(a:jg K mg ca)
include a
instance Oa:ZqF 1 2 "_law_cell_at" ["_law_script","_law_k"]:=qc 2 2 0 113 [] (hb:=by walk_at "-a1001")
instance Pg:ZqF 1 1 "_law_coin" ["_law_cell"]:=qc 1 1 0 114 [] (hb:=by walk_at "-v000")
instance Sl:ZqF 1 1 "is_whole" ["thing"]:=qc 1 1 0 8 [] (hb:=by walk_at "-00")
instance xf:ZqF 2 3 "is_between" ["thing","least","most"]:=qc 3 3 1 9 [] (hb:=by walk_at "-0102")
instance qh:ZqF 3 1 "is_hand" ["thing"]:=qc 1 1 2 11 [] (hb:=by walk_at "-0u")
instance pd:ZqF 4 1 "makes_a_pot" ["thing"]:=qc 1 1 3 57 [] (hb:=by walk_at "-0000000u0u0u")
abbrev wH:Ev->M Fl:=(Cg (AC (eT$ Eb xE (pa 1)$ eC$ U 2)$ Bp$ eT$ we 1 pd []$ Ba (pa 2) Za) km Lg)
def iV:Ev->M Fl:=
 (Lb (Kk (Bx$ pa 0) (vj 2$ Nf (Cc 1)$ Nf (Cc 2) Lj) wH)$ Ah$ Mi$ Pl Br$ Ba (pa 0) Za)
instance di:ZqF 5 1 "checked_pots" ["pots"]:=qc 3 1 4 58 ["number","made"] (g:=iV) (hb:=by walk_at "-F012b1u2zA0")
def Mx:=Ue 2 2 0 17 50 0 [] (hb:=by walk_at "-01")
instance Jf:ZqF 1 1 "whole_of" ["made"]:=qc 1 1 0 59 [] (hb:=by walk_at "-00")
instance:ZqC 6 1 2 "Held" ["self","whole"] Mx.f:=⟨λa=>⟨_,a.tu,a.yx,Mx.ok a⟩,rfl⟩
def Ky:=Ue 2 2 5 30 62 0 [] (hb:=by walk_at "-0100c.y00zR00c.y00n")
def Gs:=Vd 1 1 0 44 62 14 [] (hb:=by walk_at "-zA0")
instance Ny:Pe 1 1 "made_of" ["self"] [(9,Gs)]:=.ue 1 9 "made_of" Gs .nil
abbrev XJ:Ev->M Fl:=(Cg (wG (eT$ Eb (YC į) (pa 0)$ rC (pa 3) ŋ$ W1$ eC$ U 2)$ eT$ Eb oLt (Eb Fb (pa 3)$ eC$ U 4)$ Eb Ji (pa 1)$ eC$ U 1) km Lg)
def qV:Ev->M Fl:=
 (Lb (Cg (Bp$ eT$ we 3 xf []$ Ba (pa 1)$ Ba (eC$ U 1)$ Ba (eC$ U 50) Za) km Lg)$ Zl (Fh$ pa 2) (Cc 3) XJ)
instance Gh:ZqF 3 3 "check_span" ["hand","every","pots"]:=qc 4 3 2 100 ["made"] (g:=qV) (hb:=by walk_at "-b1uf23bs0331")
abbrev hO:Ev->M Fl:=(Zq (eC$ Ϗ š) (Pc (Vb [14,15] "known")$ pa 0)$ pa 2)
def CS:Ev->M Fl:=
 (Zl (Fh$ pa 1) (Cc 2) hO)
def ou:=Ue 3 2 0 57 108 2 ["word"] (g:=CS) (hb:=by walk_at "-f12m02")
instance MC:Pe 1 2 "learn" ["self","words"] [(15,ou)]:=.ue 1 15 "learn" ou .nil
def nB:=Ue 4 4 0 56 108 1 [] (hb:=by walk_at "-m101m201m301")
instance Su:Pe 1 4 "hold" ["self","account","claim","seen"] [(15,nB)]:=.ue 1 15 "hold" nB .nil
instance xp:ZqF 3 1 "is_day" ["thing"]:=qc 1 1 2 13 [] (hb:=by walk_at "-0u")
instance Bn:ZqF 3 1 "is_word" ["thing"]:=qc 1 1 2 12 [] (hb:=by walk_at "-0u")
instance jk:ZqF 3 1 "is_amount" ["thing"]:=qc 1 1 2 15 [] (hb:=by walk_at "-0u")
instance rn:ZqF 3 1 "is_side" ["thing"]:=qc 1 1 2 10 [] (hb:=by walk_at "-0")
instance Ul:ZqF 4 1 "is_tie" ["thing"]:=qc 1 1 3 27 [] (hb:=by walk_at "-000000")
instance Bq:ZqF 5 1 "are_ties" ["thing"]:=qc 1 1 4 29 [] (hb:=by walk_at "-b00ubzc.y000zc.y0000")
instance ko:ZqF 3 1 "are_shares" ["thing"]:=qc 1 1 2 28 [] (hb:=by walk_at "-000u0u")
instance Ak:ZqF 3 1 "is_number" ["thing"]:=qc 1 1 2 14 [] (hb:=by walk_at "-0u")
instance Hh:ZqF 6 1 "is_stand" ["thing"]:=qc 1 1 5 30 [] (hb:=by walk_at "-00000")
abbrev BD(x q:Str)(s:Stmt)(c:ab):Prop:=∀ (kV b pm:Value) (an:Option Addr) (a ct:Value) (us:b'),us.length=c.length->bindArgs (ϯ x q (ul s) (Fj s) (qf s) Yb kV b pm an a ct) ⟨us,[]⟩=pure (c.zip us)
def lr{N P}{sc}(a:sc.kind=Ϥ)(b:sc.isCoroutine=į)(c:sc.isGenerator=į)(h:N.Nodup/\N.take P.length=P/\(∀ x∈P,sc.names.lookup x=W1 .local\/sc.names.lookup x=W1 lc)/\∀ y∈sc.names,y.2≠ Ab):gc N P sc:=⟨a,b,c,h.1,h.2.1,h.2.2.1,h.2.2.2⟩
abbrev HY:Stmt:=ph 31
def QP:Ev->M Fl:=
 (Lb (Qe 3$ ah$ Ba (pa 0)$ Ba (pa 1)$ Ba (Pv (eT$ Eb Zr (pa 2)$ eC Ϛ) (ah Za)$ pa 2) Za)$ Lb (Cg (Bp$ eT$ we 1 Hh []$ Ba (pa 3) Za) km Lg)$ Ah$ pa 3)
def Eh:gV->M D:=qd λa=>Ic$ Xg 4 QP a
def oX:gc ["number","shares","ties","made"] ["number","shares","ties"]$ qf HY:=lr rfl rfl rfl (by decide +kernel)
def V3:GH "stand" "stand" HY ["number","shares","ties"] [Yb]:=λe e e e e e e e e e d b c=>⟨λa=>QF.ap [0,0,0] d (by simpa using a) (by intro _ _ _;show Se _ _ _ _;exact Hc rfl b c rfl rfl),λa=>QF.ap [0,0] d (by simpa using a) (by intro _ _;show Se _ _ _ _;exact Hc rfl b c rfl rfl)⟩
def YX:yt ⟨K,ca,tx K⟩ P w mg base 7 "stand" ["number","shares","ties"] [Yb] Eh:=
 yt.qd$ yt.Ic (B8 a.Eh oX λv v v v v v v b=>
  by have:=oX.nd;walk_at "+30122b33")
instance Il:ZqF 8 2 "first" ["left","right"]:=qc 2 2 7 32 [] (hb:=by exact λa b c=>
 (Ii$ Ar$ ű (YX a) rfl (b.mono$ by decide) rfl ı B1$ by walk_at "+01"))
def Lp:=Ue 7 7 0 45 71 0 [] (hb:=by walk_at "-010203040zA50zA6")
instance:ZqC 11 1 7 "Calm" ["self","pot","side","mine","grant","may","strikes"] Lp.f:=⟨λa=>⟨_,a.cB,a.ay,Lp.ok a⟩,rfl⟩
abbrev P4:Stmt:=ph 75
def BS:Ev->M Fl:=
 (Lb (Qe 4$ we 2 Il []$ Ba (pa 2)$ Ba (pa 3) Za)$ Ah$ pp 11 7 Lp$ Ba (pa 0)$ Ba (pa 1)$ Ba (pa 4)$ Ba (eC Ϛ)$ Ba (Fn$ Ba (pa 4) Za)$ Ba (Fn Za) Za)
def Md:gV->M D:=qd$ Xg 5 BS
def dS:gc ["pot","side","left","right","mine"] ["pot","side","left","right"]$ qf P4:=lr rfl rfl rfl (by decide +kernel)
def A1:Uh ⟨K,ca,tx K⟩ P w mg base 9 "first_account" ["pot","side","left","right"] Md:=
 Uh.qd (dz a.Md dS λv v v v v v v b=>
  by have:=dS.nd;walk_at "+423R014v4v")
abbrev ID:Ev->M Fl:=(Cg (eT$ Eb Zi (Eb Fb (pa 6)$ pa 7)$ pa 1) (ci$ Zd [(15,nB)] 4 "hold" (pa 0)$ Ba (we 4 Md []$ Ba (pa 5)$ Ba (pa 7)$ Ba (Eb Fb (pa 6)$ eC$ U 2)$ Ba (Eb Fb (pa 6)$ eC$ U 3) Za)$ Ba (eC$ .gt ["held"])$ Ba (eC$ Ϩ [] []) Za) Lg)
abbrev qF:Ev->M Fl:=(Zl (Fh$ ah$ Ba (eC$ U 0)$ Ba (eC$ U 1) Za) (Cc 7) ID)
abbrev DQ:Stmt:=iu (ph 108) 0
def kT:Ev->M Fl:=
 (Lb (ci$ we 3 Gh []$ Ba (pa 1)$ Ba (pa 2)$ Ba (pa 3) Za)$ Lb (El [15] "hand" (pa 1)$ pa 0)$ Lb (El [14,15,16] "every" (pa 2)$ pa 0)$ Lb (El [14,15] "last_look" (eC$ U 0)$ pa 0)$ Lb (El [15] "gave" (eC$ U 0)$ pa 0)$ Lb (El [14,15] "known" yq$ pa 0)$ Lb (El [15] "accounts" yq$ pa 0)$ Lb (El [9,15] "claims" yq$ pa 0)$ Lb (El [15] "seen" yq$ pa 0)$ Lb (El [15] "asked" yq$ pa 0)$ Lb (El [15] "finishing" yq$ pa 0)$ Lb (ci$ Zd [(15,ou)] 2 "learn" (pa 0)$ Ba (Pv (eT$ Eb Zr (pa 4)$ eC Ϛ) (Fn Za)$ pa 4) Za)$ Kk (Bx$ pa 3) (vj 2$ Nf (Cc 5)$ Nf (Cc 6) Lj) qF)
def gp:gV->M D:=qd$ Xg 8 kT
def XV:gc ["self","hand","every","pots","words","pot","made","side"] ["self","hand","every","pots","words"]$ qf DQ:=lr rfl rfl rfl (by decide +kernel)
def zai:GH "__init__" "Keeper.__init__" DQ ["self","hand","every","pots","words"] [Yb]:=λe e e e e e e e e e d b c=>⟨λa=>QF.ap [0,0,0,0,0] d (by simpa using a) (by intro _ _ _ _ _;show Se _ _ _ _;exact Hc rfl b c rfl rfl),λa=>QF.ap [0,0,0,0] d (by simpa using a) (by intro _ _ _ _;show Se _ _ _ _;exact Hc rfl b c rfl rfl)⟩
def H0:vt ⟨K,ca,tx K⟩ P w mg base 10 (ca 55) ["self","hand","every","pots","words"] [Yb] gp:=
 vt.qd (qN a.gp XV λv v v v v v b=>
  by have c:=XV.nd;exact(Vc (by walk_at "+123")$ Vc (by walk_at "+01")$ Vc (by walk_at "+02")$ Vc (by walk_at "+0")$ Vc (by walk_at "+0")$ Vc (by walk_at "+0n")$ Vc (by walk_at "+0n")$ Vc (by walk_at "+0n")$ Vc (by walk_at "+0n")$ Vc (by walk_at "+0n")$ Vc (by walk_at "+0n")$ Vc (by walk_at "+04v4")$ Ii$ qA ir rfl (by walk_at "+3") (by walk_at "+56")$ Ii$ ZA ir rfl (by walk_at "") (by walk_at "+7")$ Ii$ Es (by walk_at "+671") (Ii$ Rw$ oW (k:=1) (ps:=["self","account","claim","seen"]) rfl (Ij 0) (Su.ok a) (b.mono$ by decide)$ Hn (Ps (A1 a) rfl (b.mono$ by decide) rfl$ by walk_at "+5766")$ Hn (cU (ss:=["held"]) rfl a.Iu)$ Hn WU Lu) Nu))
instance dj:ZqF 1 2 "words_of" ["hand","words"]:=qc 2 2 0 110 [] (hb:=by exact λa b c=>
 (Ii$ Ar$ DP$ W2 (f:=pa 1)$ by walk_at "+c0.L101120"))
abbrev gT:Ev->M Fl:=(Zq (pp 15 5 gp$ lB []$ Ba (pa 6)$ Ba (pa 3)$ Ba (Pc (Vb [9,14,16] "pots")$ pa 0)$ Ba (we 2 dj []$ Ba (pa 6)$ Ba (pa 5) Za) Za) (Pc (Vb [16] "keepers")$ pa 0)$ pa 6)
abbrev DE:Ev->M Fl:=(Cg (eT$ Eb Zo (pa 8)$ Pc (Vb [16] "keepers")$ pa 0) (kH (eC$ Ϗ š) (Pc (Vb [16] "things")$ pa 0)$ ah$ Ba (eC$ ϒ "word")$ Ba (pa 7) Za) Lg)
instance:ZqC 9 6 2 "Book" ["self","pots"] Ky.f:=⟨λa=>⟨_,a.NA,a.Ww,Ky.ok a⟩,rfl⟩
abbrev UU:Stmt:=iu (ph 111) 0
def tR:Ev->M Fl:=
 (Lb (El [16] "public" (pp 9 2 Ky$ Ba (pa 1) Za)$ pa 0)$ Lb (El [9,14,16] "pots" (Zd [(9,Gs)] 1 "made_of" (Pc (Vb [16] "public")$ pa 0) Za)$ pa 0)$ Lb (El [14,15,16] "every" (pa 3)$ pa 0)$ Lb (El [16] "keepers" yq$ pa 0)$ Lb (El [16] "under_way" (vr Za)$ pa 0)$ Lb (El [16] "things" AY$ pa 0)$ Lb (Qe 5$ Pv (eT$ Eb Zr (pa 4)$ eC Ϛ) (eC$ Ϩ [] [])$ pa 4)$ Lb (Zl (Fh$ Mi$ Pc xG$ pa 2) (Cc 6) gT)$ ur (pa 5)$ Kk (gq$ pa 5) (vj 2$ Nf (Cc 7)$ Nf (Cc 8) Lj) DE)
def zo:gV->M D:=qd$ Xg 9 tR
def aW:gc ["self","pots","keeps","every","words","owners","hand","word","owner"] ["self","pots","keeps","every","words"]$ qf UU:=lr rfl rfl rfl (by decide +kernel)
def za0:GH "__init__" "Hall.__init__" UU ["self","pots","keeps","every","words"] [Yb]:=λe e e e e e e e e e d b c=>⟨λa=>QF.ap [0,0,0,0,0] d (by simpa using a) (by intro _ _ _ _ _;show Se _ _ _ _;exact Hc rfl b c rfl rfl),λa=>QF.ap [0,0,0,0] d (by simpa using a) (by intro _ _ _ _;show Se _ _ _ _;exact Hc rfl b c rfl rfl)⟩
def Ŋ:vt ⟨K,ca,tx K⟩ P w mg base 12 (ca 79) ["self","pots","keeps","every","words"] [Yb] zo:=
 vt.qd (qN a.zo aW λv v v v v v b=>
  by have d:=aW.nd;exact(Vc (by walk_at "+0R1")$ Vc (by walk_at "+00")$ Vc (by walk_at "+03")$ Vc (by walk_at "+0n")$ Vc (by walk_at "+0l")$ Vc (by walk_at "+0N")$ Vc (by walk_at "+54o4")$ Vc (ZA ir rfl (by walk_at "+zQ2") (by walk_at "+6")$ Ii$ HL (Hm b) (IY (c:=15) (ps:=["self","hand","every","pots","words"]) a.yu a.Pr (H0 a) (ϔ rfl) Ϣ (λv v=>xb.nil) rfl (b.mono$ by decide) rfl$ by walk_at "+63065") (by walk_at "+0")$ Ij 6)$ by walk_at "+hFL578aj80T07"))
def Wp:=Vd 1 1 0 32 62 2 [] (hb:=by walk_at "-0")
instance QB:Pe 1 1 "today" ["self"] [(9,Wp)]:=.ue 1 9 "today" Wp .nil
def iy:=Vd 1 1 0 59 108 4 [] (hb:=by walk_at "-0")
instance nA:Pe 1 1 "looked" ["self"] [(15,iy)]:=.ue 1 15 "looked" iy .nil
def QE:=Vd 2 2 2 31 62 1 [] (hb:=by walk_at "-b10")
instance Zv:Pe 3 2 "check_pot" ["self","pot"] [(9,QE)]:=.ue 3 9 "check_pot" QE .nil
def jE:=Vd 1 1 0 18 51 0 []
def pG:=Vd 1 1 0 22 52 1 [] (hb:=by walk_at "-000")
def WF:=Vd 1 1 0 27 53 1 [] (hb:=by walk_at "-0")
instance nG:Pe 1 1 "told" ["self"] [(6,jE),(7,pG),(8,WF)]:=.ue 1 6 "told" jE$ .ue 1 7 "told" pG$ .ue 1 8 "told" WF .nil
def aC:=Vd 2 2 3 38 62 8 [] (hb:=by walk_at "-01x01")
instance (priority:=1001) mo7_told:Pe 4 2 "told" ["self","pot"] [(9,aC)]:=.ue 4 9 "told" aC .nil
def HD:=Ue 2 2 3 39 62 9 [] (hb:=by walk_at "-01Hx01")
instance Fw:Pe 4 2 "shown_for" ["self","pot"] [(9,HD)]:=.ue 4 9 "shown_for" HD .nil
abbrev uz:Ev->M Fl:=(ci$ NI rA (pa 1)$ Ba (pa 2) Za)
def pU:Ev->M Fl:=
 (Lb (Qe 1 yq)$ Lb (Zl (Fh$ Pc (Vb [9] "shown")$ pa 0) (Cc 2) uz)$ Ah$ Mi$ Pl bx$ Ba (pa 1) Za)
def vD:=Vd 3 1 0 43 62 13 ["words","shown"] (g:=pU) (hb:=by exact λa b c=>
 (Vc (by walk_at "+1n")$ Vc (ZA ir rfl (by walk_at "+0") (by walk_at "+2")$ Ii$ Rw$ vS ie Um PySem.F.type_dict_update yfp zz3 (Ij 1)$ Hn (Ij 2) Lu)$ by walk_at "+zO1"))
instance Sv:Pe 1 1 "all_shown" ["self"] [(9,vD)]:=.ue 1 9 "all_shown" vD .nil
instance Zg:ZqF 1 2 "is_given_up" ["account","claim"]:=qc 2 2 0 103 [] (hb:=by walk_at "-110D10")
instance Ih:ZqF 4 1 "check_side" ["side"]:=qc 1 1 3 61 [] (hb:=by walk_at "-b0")
instance Aj:ZqF 1 1 "other_side" ["side"]:=qc 1 1 0 17 [] (hb:=by walk_at "-0")
def iw:=Vd 2 2 0 23 52 2 [] (hb:=by walk_at "-100")
instance aA:Pe 1 2 "waits" ["self","day"] [(7,iw)]:=.ue 1 7 "waits" iw .nil
instance jp:ZqF 3 1 "is_pot" ["thing"]:=qc 1 1 2 16 [] (hb:=by walk_at "-0u")
instance pi:ZqF 4 1 "is_of_a_side" ["thing"]:=qc 1 1 3 46 [] (hb:=by walk_at "-000")
instance Oe:ZqF 7 1 "is_thing" ["thing"]:=qc 1 1 6 47 [] (hb:=by exact λa b c=>
 (Vc (by walk_at "+b000")$ Vc (by walk_at "+a000")$ Vc (by walk_at "+a000")$ Vc (by walk_at "+a000") pz))
def FD:=Vd 5 5 7 25 52 4 [] (hb:=by walk_at "-b20034410x0")
instance Rt:Pe 8 5 "may_strike" ["self","pot","side","day","thing"] [(7,FD)]:=.ue 8 7 "may_strike" FD .nil
def RG:=Ue 3 3 2 26 53 0 [] (hb:=by exact λa b d=>
 (Vc (Rw$ KY (c:=5) ⟨a.yr,a.Ug,_,_,a.Sg,a.Rg,a.Tg,(Mx.ok a)⟩ rfl (b.mono$ by decide) rfl$ by walk_at "+01")$ by walk_at "+02"))
instance:ZqC 8 3 3 "Taken" ["self","whole","side"] RG.f:=⟨λa=>⟨_,a.Ix,a.Zu,RG.ok a⟩,rfl⟩
def vC:=Ue 4 4 8 37 62 7 [] (hb:=by walk_at "-012bx011203MzRx01201")
instance Qy:Pe 9 4 "strike" ["self","pot","side","thing"] [(9,vC)]:=.ue 9 9 "strike" vC .nil
def Jj:=Vd 3 3 0 47 71 2 [] (hb:=by walk_at "-012")
instance vu:Pe 1 3 "strike_of" ["self","side","one"] [(10,Jj),(11,Jj),(12,Jj),(13,Jj)]:=.ue 1 10 "strike_of" Jj$ .ue 1 11 "strike_of" Jj$ .ue 1 12 "strike_of" Jj$ .ue 1 13 "strike_of" Jj .nil
abbrev OM:Ev->M Fl:=(Lb (Qe 6$ Eb zj (Pc (Vb [9,15] "claims")$ pa 0)$ pa 4)$ Cg (wG (eT$ we 2 Zg []$ Ba (pa 5)$ Ba (pa 6) Za)$ eT$ Eb oLt (Pc (Vb [14,15] "last_look")$ pa 0)$ Eb Ji (Eb Fb (pa 6)$ eC$ U 3)$ Eb Fb (pa 3)$ pa 4) (Lb (ci$ Zd [(9,vC)] 4 "strike" (pa 1)$ Ba (pa 4)$ Ba (Pc (Vb [7,8,10,11,12,13] "side")$ pa 5)$ Ba (Zd [(10,Jj),(11,Jj),(12,Jj),(13,Jj)] 3 "strike_of" (pa 5)$ Ba (Eb Fb (pa 6)$ eC$ U 1)$ Ba (Eb Fb (pa 6)$ eC$ U 2) Za) Za)$ Lb (Zq (ah$ Ba (eC$ ϒ "taken")$ Ba (Pc (Vb [7,8,10,11,12,13] "side")$ pa 5) Za) (Pc (Vb [9,15] "claims")$ pa 0)$ pa 4)$ ci$ Ju Ei (pa 2)$ Ba (ah$ Ba (eC$ ϒ "strike")$ Ba (pa 4) Za) Za) Lg)
def xQ:Ev->M Fl:=
 (Lb (Qe 2$ vr Za)$ Lb (Qe 3$ Mi$ uk (Oo$ Fh$ Zd [(9,Gs)] 1 "made_of" (pa 1) Za) [] (Cc 0) wl$ Eb Fb (pa 0)$ eC$ U 4)$ Lb (ur (Pc (Vb [15] "accounts")$ pa 0)$ Kk (gq$ Pc (Vb [15] "accounts")$ pa 0) (vj 2$ Nf (Cc 4)$ Nf (Cc 5) Lj) OM)$ Ah$ pa 2)
def VC:=Ue 7 2 9 75 108 20 ["deeds","waits","pot","account","claim"] (g:=xQ) (hb:=by walk_at "-2lq3.y100hFL0456d04a560634145566m504242")
instance Ft:Pe 10 2 "strike_all" ["self","book"] [(15,VC)]:=.ue 10 15 "strike_all" VC .nil
instance Ck:ZqF 1 3 "with_more" ["shares","side","amount"]:=qc 3 3 0 35 [] (hb:=by walk_at "-a1020002")
instance rl:ZqF 1 1 "deals" ["one"]:=qc 1 1 0 33 [] (hb:=by walk_at "-0zc.y000")
instance ye:ZqF 2 2 "stands_told" ["account","claim"]:=qc 2 2 1 101 [] (hb:=by walk_at "-a10a1v1v10")
abbrev jM:Ev->M Fl:=(ci$ Ju xw (pa 2)$ Ba (Mi$ uk (Oo$ Fh$ Eb Fb (pa 3)$ eC$ U 2) [0] (Cc 0) (eT$ Eb Ki (Eb Fb (pa 0)$ eC$ U 0)$ Pc (Vb [7,8,10,11,12,13] "side")$ pa 2)$ pa 0) Za)
def sT:Ev->M Fl:=
 (Lb (Qe 2$ vr Za)$ Lb (Zl (Fh$ we 2 ye []$ Ba (pa 0)$ Ba (pa 1) Za) (Cc 3) jM)$ Ah$ pa 2)
instance Vj:ZqF 3 2 "ties_to" ["account","claim"]:=qc 4 2 2 102 ["ties","one"] (g:=sT) (hb:=by walk_at "-2lf0132zc0.y300202")
def ND:=Vd 3 3 0 76 108 21 [] (hb:=by walk_at "-aj20i2d010200")
instance Et:Pe 1 3 "is_to_show" ["self","pot","tie"] [(15,ND)]:=.ue 1 15 "is_to_show" ND .nil
def Ez:=Ue 3 3 3 34 62 4 [] (hb:=by walk_at "-01b2aj2x01m0x012")
instance zC:Pe 4 3 "show" ["self","pot","word"] [(9,Ez)]:=.ue 4 9 "show" Ez .nil
abbrev JK:Ev->M Fl:=(Cg (eT$ Zd [(15,ND)] 3 "is_to_show" (pa 0)$ Ba (pa 3)$ Ba (pa 5) Za) (Lb (ci$ Zd [(9,Ez)] 3 "show" (pa 1)$ Ba (pa 3)$ Ba (Eb Fb (pa 5)$ eC$ U 2) Za)$ Lb (Zq (Pc (Vb [14,15] "last_look")$ pa 0) (Eb zj (Pc (Vb [15] "seen")$ pa 0)$ pa 3)$ Eb Fb (pa 5)$ eC$ U 2)$ ci$ Ju Ei (pa 2)$ Ba (ah$ Ba (eC$ ϒ "show")$ Ba (pa 3)$ Ba (Eb Fb (pa 5)$ eC$ U 2) Za) Za) Lg)
abbrev wK:Ev->M Fl:=(Zl (Fh$ we 2 Vj []$ Ba (pa 4)$ Ba (Eb zj (Pc (Vb [9,15] "claims")$ pa 0)$ pa 3) Za) (Cc 5) JK)
def tV:Ev->M Fl:=
 (Lb (Qe 2$ vr Za)$ Lb (ur (Pc (Vb [15] "accounts")$ pa 0)$ Kk (gq$ Pc (Vb [15] "accounts")$ pa 0) (vj 2$ Nf (Cc 3)$ Nf (Cc 4) Lj) wK)$ Ah$ pa 2)
def RB:=Ue 6 2 4 77 108 22 ["deeds","pot","account","tie"] (g:=tV) (hb:=by walk_at "-2lhFL034f4d035a035135m0d0352352")
instance Ew:Pe 5 2 "show_all" ["self","book"] [(15,RB)]:=.ue 5 15 "show_all" RB .nil
def cr:=Vd 2 2 0 67 108 12 [] (hb:=by exact λa b c=>
 (Ii$ Ar$ wN (by walk_at "+i10")$ NL$ Up (t5 rfl$ Hm b) sw (by walk_at "+d01") (cU (ss:=["held"]) rfl a.Iu)$ Pn _))
instance qB:Pe 1 2 "holds" ["self","pot"] [(15,cr)]:=.ue 1 15 "holds" cr .nil
instance Ze:ZqF 7 2 "is_stand_of" ["thing","coin"]:=qc 2 2 6 34 [] (hb:=by walk_at "-001")
instance wk:ZqF 8 4 "is_agreed" ["pot","side","stand","agreement"]:=qc 4 4 7 60 [] (hb:=by walk_at "-33012")
def MG:=Vd 6 5 8 35 62 5 ["made"] (hb:=by exact λa b c=>
 (Vc (Es (xH$ LC$ N7 (l:=[(6,š),(7,į),(8,į),(9,į),(11,į),(12,į),(13,į),(14,į),(15,į),(16,į)]) rfl (by walk_at "+x01") rfl a.yf rfl ⋯ a.tu$ Aw a.Jx a.yo$ Aw a.my a.Vn$ Aw a.zu a.Om$ Aw a.dy a.Wn$ Aw a.qx a.io$ Aw a.fq a.Qk$ Aw a.nq a.Nk$ Aw a.Vx a.Zn$ Aw a.Os a.Tl$ Aw a.Gx a.uo g8) (by walk_at "") Nu)$ by walk_at "+5x013551234"))
instance Ux:Pe 9 5 "may_lie" ["self","pot","side","stand","agreement"] [(9,MG)]:=.ue 9 9 "may_lie" MG .nil
def JC:=Ue 6 6 2 21 52 0 [] (hb:=by exact λa b d=>
 (Vc (Rw$ KY (c:=5) ⟨a.yr,a.Ug,_,_,a.Sg,a.Rg,a.Tg,(Mx.ok a)⟩ rfl (b.mono$ by decide) rfl$ by walk_at "+01")$ by walk_at "+02030405"))
instance:ZqC 7 3 6 "Laid" ["self","whole","side","stand","day","wait"] JC.f:=⟨λa=>⟨_,a.CA,a.mx,JC.ok a⟩,rfl⟩
abbrev mS:Stmt:=iu (ph 62) 6
def fT:Ev->M Fl:=
 (Lb (ci$ Zd [(9,QE)] 2 "check_pot" (pa 0)$ Ba (pa 1) Za)$ Lb (ci$ we 1 Ih []$ Ba (pa 2) Za)$ Lb (Qe 5$ Eb Fb (Pc (Vb [9,14,16] "pots")$ pa 0)$ pa 1)$ Lb (Cg (Bp$ eT$ we 2 Ze []$ Ba (pa 3)$ Ba (we 1 Jf []$ Ba (pa 5) Za) Za) km Lg)$ Lb (Cg (Bp$ eT$ Zd [(9,MG)] 5 "may_lie" (pa 0)$ Ba (pa 1)$ Ba (pa 2)$ Ba (pa 3)$ Ba (pa 4) Za) km Lg)$ nI (Mi$ pp 7 6 JC$ Ba (we 1 Jf []$ Ba (pa 5) Za)$ Ba (pa 2)$ Ba (pa 3)$ Ba (Pc (Vb [7,9] "day")$ pa 0)$ Ba (Eb Fb (pa 5)$ eC$ U 4) Za) (Pc (Vb [9,15] "claims")$ pa 0)$ pa 1)
def ae:gV->M D:=qd$ Xg 6 fT
def ZU:gc ["self","pot","side","stand","agreement","made"] ["self","pot","side","stand","agreement"]$ qf mS:=lr rfl rfl rfl (by decide +kernel)
def zds:GH "lay" "Book.lay" mS ["self","pot","side","stand","agreement"] [Yb]:=λe e e e e e e e e e d b c=>⟨λa=>QF.ap [0,0,0,0,0] d (by simpa using a) (by intro _ _ _ _ _;show Se _ _ _ _;exact Hc rfl b c rfl rfl),λa=>QF.ap [0,0,0,0] d (by simpa using a) (by intro _ _ _ _;show Se _ _ _ _;exact Hc rfl b c rfl rfl)⟩
def SX:vt ⟨K,ca,tx K⟩ P w mg base 10 (ca 36) ["self","pot","side","stand","agreement"] [Yb] ae:=
 vt.qd (qN a.ae ZU λv v v v v v b=>
  by have:=ZU.nd;walk_at "+0125x01b35b01234MzR5230501")
abbrev yM:Ev->M Fl:=(Cg (wG (eT$ Eb Gn (pa 3)$ Pc (Vb [15] "finishing")$ pa 0)$ eT$ Zd [(15,cr)] 2 "holds" (pa 0)$ Ba (pa 3) Za) (Lb (ci$ Zd [(9,ae)] 5 "lay" (pa 1)$ Ba (pa 3)$ Ba (Pc (Vb [7,8,10,11,12,13] "side")$ pa 4)$ Ba (Pc (Vb [10,11,12,13] "mine")$ pa 4)$ Ba (Pc (Vb [10,11,12,13] "grant")$ pa 4) Za)$ Lb (Zq (ah$ Ba (eC$ ϒ "laid")$ Ba (Pc (Vb [7,8,10,11,12,13] "side")$ pa 4)$ Ba (Pc (Vb [10,11,12,13] "mine")$ pa 4)$ Ba (Pc (Vb [14,15] "last_look")$ pa 0) Za) (Pc (Vb [9,15] "claims")$ pa 0)$ pa 3)$ ci$ Ju Ei (pa 2)$ Ba (ah$ Ba (eC$ ϒ "lay")$ Ba (pa 3) Za) Za) Lg)
def PU:Ev->M Fl:=
 (Lb (Qe 2$ vr Za)$ Lb (ur (Pc (Vb [15] "accounts")$ pa 0)$ Kk (gq$ Pc (Vb [15] "accounts")$ pa 0) (vj 2$ Nf (Cc 3)$ Nf (Cc 4) Lj) yM)$ Ah$ pa 2)
def EC:=Ue 5 2 10 78 108 23 ["deeds","pot","account"] (g:=PU) (hb:=by exact λa b d=>
 (Vc (by walk_at "+2l")$ Vc (YO$ qA ir rfl (by walk_at "+L0") (by walk_at "+34")$ Ii$ Es (by walk_at "+i3003") (Vc (Rw$ cV (k:=10) (c:=9) (ps:=["self","pot","side","stand","agreement"]) rfl (Ij 1) (a.tc.get 9$ by decide) ((a.te.get (9,_)$ by repeat (first|with_reducible exact ua|refine la _ ?_)).get ("lay",36)$ by repeat (first|with_reducible exact ua|refine la _ ?_)) (SX a) (b.mono$ by decide)$ by walk_at "+3444")$ by walk_at "+m4400323") Nu)$ by walk_at "+2"))
instance ux:Pe 11 2 "lay_all" ["self","book"] [(15,EC)]:=.ue 11 15 "lay_all" EC .nil
abbrev mO:Ev->M Fl:=(Lb (Zq (Zd [(9,aC)] 2 "told" (pa 1)$ Ba (pa 2) Za) (Pc (Vb [9,15] "claims")$ pa 0)$ pa 2)$ Zq (Zd [(9,HD)] 2 "shown_for" (pa 1)$ Ba (pa 2) Za) (Pc (Vb [15] "seen")$ pa 0)$ pa 2)
abbrev jO:Ev->M Fl:=(El [14,15] "last_look" (Zd [(9,Wp)] 1 "today" (pa 1) Za)$ pa 0)
abbrev CK:Ev->M Fl:=(ur (Pc (Vb [15] "accounts")$ pa 0)$ Kk (kJ$ Pc (Vb [15] "accounts")$ pa 0) (Cc 2) mO)
abbrev nO:Ev->M Fl:=(ci$ Zd [(15,ou)] 2 "learn" (pa 0)$ Ba (Zd [(9,vD)] 1 "all_shown" (pa 1) Za) Za)
abbrev BM:Ev->M Fl:=(Ah$ Eb EF (Eb Ji (Zd [(15,VC)] 2 "strike_all" (pa 0)$ Ba (pa 1) Za)$ Zd [(15,RB)] 2 "show_all" (pa 0)$ Ba (pa 1) Za)$ Zd [(15,EC)] 2 "lay_all" (pa 0)$ Ba (pa 1) Za)
def gZ:Ev->M Fl:=
 (Lb jO$ Lb CK$ Lb nO BM)
def rz:=Ue 3 2 11 74 108 19 ["pot"] (g:=gZ) (hb:=by exact λa b c=>
 (Vc (by walk_at "+01")$ Vc (by walk_at "+hFK02m1202m1202")$ Vc (by walk_at "+01")$ Ii$ Ar$ yz zxl sw (by walk_at "+0101")$ by walk_at "+01"))
instance gC:Pe 12 2 "look" ["self","book"] [(15,rz)]:=.ue 12 15 "look" rz .nil
def wD:=Ue 1 1 0 33 62 3 [] (hb:=by exact λa b c=>
 (Ii$ VX rfl (fO a) (Ij 0) VA))
instance Tv:Pe 1 1 "next_day" ["self"] [(9,wD)]:=.ue 1 9 "next_day" wD .nil
abbrev lI:Ev->M Fl:=(Cg (eT$ Eb hD (Eb sA (Zd [(9,Wp)] 1 "today" (Pc (Vb [16] "public")$ pa 0) Za)$ Zd [(15,iy)] 1 "looked" (pa 1) Za)$ Pc (Vb [14,15,16] "every")$ pa 0) (ci$ Zd [(15,rz)] 2 "look" (pa 1)$ Ba (Pc (Vb [16] "public")$ pa 0) Za) Lg)
def ZV:Ev->M Fl:=
 (Lb (ur (Pc (Vb [16] "keepers")$ pa 0)$ Kk (DN$ Pc (Vb [16] "keepers")$ pa 0) (Cc 1) lI)$ ci$ Zd [(9,wD)] 1 "next_day" (Pc (Vb [16] "public")$ pa 0) Za)
def Tt:=Ue 2 1 12 101 111 22 ["keeper"] (g:=ZV) (hb:=by exact λa b c=>
 (Vc (YO$ qA ir rfl (ŀ$ by walk_at "+0") (by walk_at "+1")$ by walk_at "+a01010")$ by walk_at "+0"))
instance (priority:=1001) mo23_next_day:Pe 13 1 "next_day" ["self"] [(16,Tt)]:=.ue 13 16 "next_day" Tt .nil
def np:=Vd 2 2 0 81 111 2 [] (hb:=by walk_at "-bj10d01")
instance Xy:Pe 1 2 "keeper" ["self","hand"] [(16,np)]:=.ue 1 16 "keeper" np .nil
abbrev e8:Ev->M Fl:=(Qe 3$ Eb sA (Eb Ji (pa 2)$ Eb Mm (we 2 Oa []$ Ba (pa 0)$ Ba (eC$ U 5) Za)$ eC$ U 15)$ eC$ U 2)
abbrev yt2:Ev->M Fl:=(Qe 4$ Eb Ji (pa 2)$ Eb Mm (Eb rB (we 2 Oa []$ Ba (pa 0)$ Ba (eC$ U 6) Za)$ eC$ U 3)$ eC$ U 25)
abbrev yt3:Ev->M Fl:=(Cg (eT$ Eb xE (Eb Mm (we 2 Oa []$ Ba (pa 0)$ Ba (eC$ U 6) Za)$ eC$ U 3)$ eC$ U 0) (Qe 4$ Eb sA (Eb Ji (Eb Ji (pa 3)$ pa 1)$ Eb Mm (Eb rB (we 2 Oa []$ Ba (pa 0)$ Ba (eC$ U 6) Za)$ eC$ U 3)$ eC$ U 3)$ eC$ U 1) Lg)
abbrev Z2:Ev->M Fl:=(Ah$ ah$ Ba (Pl QC$ Ba (eC$ U 0)$ Ba (pa 4) Za)$ Ba (Pl QC$ Ba (eC$ U 0)$ Ba (pa 3) Za) Za)
def FV:Ev->M Fl:=
 (Lb e8$ Lb yt2$ Lb yt3 Z2)
instance oi:ZqF 2 3 "_law_days" ["_law_script","_law_every","_law_day"]:=qc 5 3 1 120 ["_law_last","_law_until"] (g:=FV) (hb:=by exact λa b c=>
 (Vc (by walk_at "+320")$ Vc (by walk_at "+420")$ Vc (by walk_at "+a04310")$ Ii$ Ar$ tW$ Hn (sx (OO rfl) YL rfl a.Fu kQ$ by walk_at "+4")$ Hn (sx (OO rfl) YL rfl a.Fu kQ$ by walk_at "+3") Lu))
def Yr:=Vd 1 1 0 80 111 1 [] (hb:=by walk_at "-0")
instance UC:Pe 1 1 "book" ["self"] [(16,Yr)]:=.ue 1 16 "book" Yr .nil
def eo:=Vd 2 2 0 61 108 6 [] (hb:=by walk_at "-bj10d01")
instance Nx:Pe 1 2 "account" ["self","pot"] [(15,eo)]:=.ue 1 15 "account" eo .nil
abbrev XT:Ev->M Fl:=(Qe 5$ Pc (Vb [10,11,12,13] "mine")$ Zd [(15,eo)] 2 "account" (Zd [(16,np)] 2 "keeper" (pa 0)$ Ba (eC$ U 0) Za)$ Ba (pa 1) Za)
abbrev mV:Ev->M Fl:=(Qe 6$ Pl Br$ Ba (Eb Fb (pa 5)$ eC$ U 1) Za)
abbrev wX:Ev->M Fl:=(nI (Eb sA (Eb Fb (pa 6)$ pa 2)$ pa 3) (pa 6)$ pa 2)
abbrev RW:Ev->M Fl:=(Ah$ ah$ Ba (Eb Ji (Eb Fb (pa 5)$ eC$ U 0)$ eC$ U 1)$ Ba (ah$ Ba (Eb Fb (pa 6)$ eC$ U 0)$ Ba (Eb Fb (pa 6)$ eC$ U 1) Za)$ Ba (ah$ Ba (ah$ Ba (pa 2)$ Ba (pa 3)$ Ba (eC$ U 0)$ Ba (pa 4) Za) Za) Za)
def qZ:Ev->M Fl:=
 (Lb XT$ Lb mV$ Lb wX RW)
instance li:ZqF 2 5 "_law_tied" ["_law_hall","_law_pot","_law_side","_law_amount","_law_day"]:=qc 7 5 1 115 ["_law_mine","_law_shares"] (g:=qZ) (hb:=by walk_at "-5016A5M62362566234")
instance ik:ZqF 8 1 "is_strike" ["thing"]:=qc 1 1 7 65 [] (hb:=by walk_at "-00")
instance Ml:ZqF 8 1 "is_agree" ["thing"]:=qc 1 1 7 64 [] (hb:=by walk_at "-00")
instance af:ZqF 9 1 "has_its_parts" ["letter"]:=qc 1 1 8 66 [] (hb:=by exact λa b c=>
 (Vc (by walk_at "+a000")$ Vc (by walk_at "+a0000")$ Vc (by walk_at "+a000")$ Vc (by walk_at "+a0000") pz))
instance Td:ZqF 10 1 "is_letter" ["thing"]:=qc 1 1 9 67 [] (hb:=by walk_at "-b00000")
def pB:=Vd 2 2 2 84 111 5 [] (hb:=by walk_at "-10")
instance Ow:Pe 3 2 "has_pot" ["self","pot"] [(16,pB)]:=.ue 3 16 "has_pot" pB .nil
def kG:=Vd 2 2 3 95 111 16 [] (hb:=by walk_at "-b01zc0.yx010i020")
instance sq:Pe 4 2 "keeping_hands" ["self","pot"] [(16,kG)]:=.ue 4 16 "keeping_hands" kG .nil
instance Tf:ZqF 1 1 "things_in" ["letter"]:=qc 1 1 0 68 [] (hb:=by walk_at "-a0vb0zA0")
def Yv:=Vd 3 3 3 85 111 6 [] (hb:=by walk_at "-012jx0120")
instance tp:Pe 4 3 "is_side_of_band" ["self","pot","side"] [(16,Yv)]:=.ue 4 16 "is_side_of_band" Yv .nil
def Ou:=Vd 2 2 4 87 111 8 [] (hb:=by walk_at "-at10a1s10011")
instance vw:Pe 5 2 "band_can" ["self","thing"] [(16,Ou)]:=.ue 5 16 "band_can" Ou .nil
abbrev LP:Ev->M Fl:=(kH (eC$ Ϗ š) (Pc (Vb [16] "things")$ pa 0)$ pa 2)
def qT:Ev->M Fl:=
 (Zl (Fh$ we 1 Tf []$ Ba (pa 1) Za) (Cc 2) LP)
def jD:=Ue 3 2 1 89 111 10 ["thing"] (g:=qT) (hb:=by walk_at "-f12T02")
instance Xu:Pe 2 2 "tell_band" ["self","letter"] [(16,jD)]:=.ue 2 16 "tell_band" jD .nil
abbrev seB:Ev->M Fl:=(Lb (Qe 4$ rC (Eb Fb (Pc (Vb [9,14,16] "pots")$ pa 0)$ Eb Fb (pa 3)$ eC$ U 1) ŋ$ W1$ eC$ U 2)$ Lb (Qe 5$ Pv (eT$ Eb Zi (Eb Fb (pa 4)$ eC$ U 0)$ pa 1) (Eb Fb (pa 4)$ eC$ U 1)$ Eb Fb (pa 4)$ eC$ U 0)$ Cg (eT$ Eb Gn (pa 5)$ Pc (Vb [16] "keepers")$ pa 0) (ci$ Ju Ei (Pc (Vb [16] "under_way")$ pa 0)$ Ba (ah$ Ba (pa 5)$ Ba (pa 3) Za) Za)$ ci$ Zd [(16,jD)] 2 "tell_band" (pa 0)$ Ba (pa 3) Za)
def YN:Ev->M Fl:=
 (Zl (Fh$ pa 2) (Cc 3) seB)
def No:=Ue 6 3 2 88 111 9 ["letter","hands","to"] (g:=YN) (hb:=by walk_at "-f234x0354144ai5005303")
instance xD:Pe 3 3 "send" ["self","sender","letters"] [(16,No)]:=.ue 3 16 "send" No .nil
def nk:=Vd 3 3 0 46 71 1 [] (hb:=by walk_at "-012")
instance aw:Pe 1 3 "agree_of" ["self","side","one"] [(11,nk)]:=.ue 1 11 "agree_of" nk .nil
instance gi:ZqF 8 2 "is_following" ["thing","one"]:=qc 2 2 7 70 [] (hb:=by walk_at "-0101")
instance (priority:=1001) mo34_strike_of:Pe 1 3 "strike_of" ["self","side","one"] [(11,Jj)]:=.ue 1 11 "strike_of" Jj .nil
instance:ZqC 13 1 7 "Waiting" ["self","pot","side","mine","grant","may","strikes"] Lp.f:=⟨λa=>⟨_,a.Vr,a.Mq,Lp.ok a⟩,rfl⟩
def iD:=Ue 5 2 10 49 72 1 ["one","agree","behind"] (hb:=by walk_at "-b01121302b103204R0023v020400200")
instance (priority:=1001) mo35_agree_of:Pe 1 3 "agree_of" ["self","side","one"] [(12,nk)]:=.ue 1 12 "agree_of" nk .nil
instance (priority:=1002) mo36_strike_of:Pe 1 3 "strike_of" ["self","side","one"] [(12,Jj)]:=.ue 1 12 "strike_of" Jj .nil
def zD:=Ue 5 2 10 51 73 1 ["one","agree","behind"] (hb:=by walk_at "-2x0302b1103004R0023v20vx04000")
instance (priority:=1003) mo37_strike_of:Pe 1 3 "strike_of" ["self","side","one"] [(13,Jj)]:=.ue 1 13 "strike_of" Jj .nil
def CC:=Ue 4 2 10 53 74 1 ["old","behind"] (hb:=by walk_at "-2x0b110023R0000v00v23")
instance Sz:Pe 11 2 "taken" ["self","letter"] [(11,iD),(12,zD),(13,CC)]:=.ue 11 11 "taken" iD$ .ue 11 12 "taken" zD$ .ue 11 13 "taken" CC .nil
def dD:=Vd 2 2 0 72 108 17 [] (hb:=by exact λa b c=>
 (Vc (by walk_at "+a1j10") pz))
instance Ss:Pe 1 2 "is_as_asked" ["self","letter"] [(15,dD)]:=.ue 1 15 "is_as_asked" dD .nil
instance bf:ZqF 1 2 "shown_in_time" ["tie","shown"]:=qc 2 2 0 40 [] (hb:=by exact λb a c=>
 (Ii$ Ar$ wN (by walk_at "+i01")$ NL$ Up IJ PH (VP (Hm a) (Ij 1) (by walk_at "+0")$ λv v=>rfl) (by walk_at "+0")$ Pn _))
instance Gm:ZqF 2 3 "lot_of_paid" ["view","seen","tie"]:=qc 3 3 1 80 [] (hb:=by walk_at "-a21a02")
instance bo:ZqF 2 3 "lot_of_due" ["view","seen","tie"]:=qc 3 3 1 81 [] (hb:=by walk_at "-a21a02aD20002")
instance fm:ZqF 3 3 "lot_of" ["view","pot","tie"]:=qc 3 3 2 82 [] (hb:=by walk_at "-a21012012")
abbrev vJ:Ev->M Fl:=(Lb (Qe 6$ we 3 fm []$ Ba (pa 0)$ Ba (pa 1)$ Ba (pa 5) Za)$ Lb (Zq (ah$ Ba (pa 6)$ Ba (Eb Fb (pa 5)$ eC$ U 1)$ Ba (Eb Fb (pa 5)$ eC$ U 3) Za) (pa 4)$ Eb Fb (pa 5)$ eC$ U 2)$ Cg (eT$ Pc (pJ į ["won","sure","back"])$ pa 6) (bw (λa b=>a+b) 3$ Eb Fb (pa 5)$ eC$ U 1) Lg)
def sQ:Ev->M Fl:=
 (Lb (Qe 3$ Eb Fb (Eb Fb (pa 2)$ eC$ U 1)$ Eb Fb (pa 1)$ eC$ U 0)$ Lb (Qe 4 yq)$ Lb (Zl (Fh$ Eb Fb (pa 2)$ eC$ U 2) (Cc 5) vJ)$ Ah$ ah$ Ba (pa 3)$ Ba (pa 4) Za)
instance lg:ZqF 4 3 "read_stand" ["view","pot","one"]:=qc 7 3 3 83 ["firm","lots","tie","lot"] (g:=sQ) (hb:=by exact λa b c=>
 (Vc (by walk_at "+321")$ Vc (by walk_at "+4n")$ Vc (ZA ir rfl (by walk_at "+2") (by walk_at "+5")$ Vc (by walk_at "+6015")$ Vc (by walk_at "+m65545")$ Ii$ Es (o8 (ss:=["won","sure","back"]) rfl a.BA$ Ij 6) (by walk_at "+35") Nu)$ by walk_at "+34"))
abbrev FN:Ev->M Fl:=(ci$ Ju Ei (pa 1)$ Ba (Mi$ uk (Oo$ Fh$ Eb Fb (pa 2)$ eC$ U 1) [0,2] (Cc 0) wl$ we 3 lg []$ Ba (pa 2)$ Ba (pa 3)$ Ba (pa 0) Za) Za)
def OR:Ev->M Fl:=
 (Lb (Qe 1$ vr Za)$ Lb (Zl (Fh$ Pc (Vb [9,14,16] "pots")$ pa 0) (Cc 2) FN)$ Ah$ pa 1)
instance ni:ZqF 5 1 "read_pots" ["view"]:=qc 3 1 4 84 ["readings","pot"] (g:=OR) (hb:=by walk_at "-1lf021zc02/10.y202301")
abbrev jJ:Ev->M Fl:=(ci$ Ju xw (pa 3)$ Ba (Mi$ uk (Oo$ Wr$ Pl tq$ Ba (pa 2) Za) [4] (Cc 0) wl$ Eb Ji (pa 2)$ Fn$ Ba (pa 0) Za) Za)
abbrev nF:Ev->M Fl:=(Lb (Qe 3$ vr Za)$ Lb (Zl (Fh$ pa 1) (Cc 4) jJ)$ Qe 1$ pa 3)
def OU:Ev->M Fl:=
 (Lb (Qe 1$ Fn$ Ba (Fn Za) Za)$ Lb (Zl (Fh$ pa 0) (Cc 2) nF)$ Ah$ pa 1)
instance Qf:ZqF 1 1 "all_choices" ["readings"]:=qc 5 1 0 85 ["choices","stands","longer","chosen"] (g:=OU) (hb:=by walk_at "-1vvf023lf143zc4.y202v0131")
abbrev iU:Ev->M Fl:=(ci$ Ju Ei (NI WA (pa 1)$ Ba (pa 3)$ Ba (vr Za) Za)$ Ba (pa 4) Za)
abbrev aQ:Ev->M Fl:=(Kk (Uw$ Eb Fb (pa 2)$ eC$ U 1) (vj 2$ Nf (Cc 3)$ Nf (Cc 4) Lj) iU)
def vQ:Ev->M Fl:=
 (Lb (Qe 1 yq)$ Lb (Zl (Fh$ pa 0) (Cc 2) aQ)$ Ah$ pa 1)
instance Bg:ZqF 1 1 "lots_by_word" ["reads"]:=qc 5 1 0 87 ["by_word","read","word","lot"] (g:=vQ) (hb:=by exact λa b c=>
 (Vc (by walk_at "+1n")$ Vc (ZA ir rfl (WV rfl$ Ij 0) (by walk_at "+2")$ Ii$ qA ir rfl (by walk_at "+I2") (by walk_at "+34")$ Ii$ Rw$ lN xh Xm Ym uO XP (vS ie nl PySem.F.type_dict_setdefault K5 z8 (Ij 1)$ by walk_at "+3l")$ Hn (Ij 4) Lu)$ by walk_at "+1"))
instance ej:ZqF 1 1 "fates_of" ["lots"]:=qc 1 1 0 88 [] (hb:=by walk_at "-vzc.y0000")
instance Xf:ZqF 1 3 "comes_by_fate" ["lot","fate","every"]:=qc 3 3 0 89 [] (hb:=by walk_at "-a011001120")
instance ze:ZqF 2 3 "sum_by_fate" ["lots","fate","every"]:=qc 3 3 1 90 [] (hb:=by walk_at "-zc12/10.y000230")
abbrev zdo:Stmt:=ph 91
def VY:Ev->M Fl:=
 (Ah$ hJ [0,1] (we 3 ze []$ Ba (pa 1)$ Ba (pa 0)$ Ba (pa 2) Za)$ Ba (we 1 ej []$ Ba (pa 0) Za) Za)
def Ve:gV->M D:=qd λa=>Ic$ Xg 2 VY a
def aU:gc ["lots","every"] ["lots","every"]$ qf zdo:=lr rfl rfl rfl (by decide +kernel)
def ω:Uh ⟨K,ca,tx K⟩ P w mg base 5 "least_fate" ["lots","every"] Ve:=
 Uh.qd$ Uh.Ic (cY a.Ve aU λv v v v v v c=>
  by have e:=aU.nd;exact(Ii$ Ar$ zT (x:="fate") (M':=["lots","every"]) (ix:=[0,1]) (t:=yI K) (k:=2) (c.mono$ by decide) ⟨rfl,rfl,rfl,rfl,rfl,rfl⟩ rfl ⟨(DX K),λd b=>a.sF _ (DX K) d b,rfl,a.tb.hd _ ⋯,rfl,rfl,rfl,a.MR,a.tb.bb⟩ rfl a.Er rfl rfl rfl (λv v v v v=>rfl) (by walk_at "+0")$ λv v v v v c=>(by walk_at "+102")))
abbrev zQ:Ev->M Fl:=(bw (λa b=>a+b) 4$ we 3 ze []$ Ba (pa 6)$ Ba (Eb zj (pa 2)$ pa 5)$ Ba (pa 3) Za)
def CT:Ev->M Fl:=
 (Lb (Qe 4$ Pl kE$ Ba (Mi$ uk (Oo$ Fh$ pa 0) [] (Cc 0) wl$ Eb Fb (pa 0)$ eC$ U 0) Za)$ Lb (Kk (Uw$ pa 1) (vj 2$ Nf (Cc 5)$ Nf (Cc 6) Lj) zQ)$ Ah$ pa 4)
instance Xl:ZqF 3 4 "sum_of" ["reads","by_word","fates","every"]:=qc 7 4 2 92 ["total","word","lots"] (g:=CT) (hb:=by exact λb a c=>
 (Vc (by walk_at "+4zc.y000")$ Vc (qA ir rfl (nL$ Ij 1) (by walk_at "+56")$ Ii$ aS (i:=4) JY c rfl (ϔ rfl)$ Ps (ze.ok b) rfl (a.mono$ by decide) rfl$ Hn (Ij 6)$ Hn (VP (Hm a) (Ij 2) (Ij 5)$ λv v=>rfl)$ Hn (Ij 3) Lu)$ by walk_at "+4"))
abbrev kR:Ev->M Fl:=(Zq (we 2 Ve []$ Ba (pa 6)$ Ba (pa 2) Za) (pa 4)$ pa 5)
def aX:Ev->M Fl:=
 (Lb (Qe 3$ we 1 Bg []$ Ba (pa 0) Za)$ Lb (Qe 4 yq)$ Lb (Kk (Uw$ pa 3) (vj 2$ Nf (Cc 5)$ Nf (Cc 6) Lj) kR)$ Ah$ ah$ Ba (we 4 Xl []$ Ba (pa 0)$ Ba (pa 3)$ Ba (pa 4)$ Ba (pa 2) Za)$ Ba (pa 1)$ Ba (pa 4) Za)
instance Of:ZqF 6 3 "least_paper" ["reads","chosen","every"]:=qc 7 3 5 93 ["by_word","fates","word","lots"] (g:=aX) (hb:=by exact λb a c=>
 (Vc (by walk_at "+30")$ Vc (by walk_at "+4n")$ Vc (qA ir rfl (nL$ Ij 3) (by walk_at "+56")$ Ii$ HL (Hm a) (Ps (ω b) rfl (a.mono$ by decide) rfl$ by walk_at "+62") (Ij 4)$ Ij 5)$ by walk_at "+034214"))
instance Ge:ZqF 1 2 "chosen_readings" ["readings","chosen"]:=qc 2 2 0 86 [] (hb:=by walk_at "-zc.010101")
abbrev W4:Stmt:=ph 94
def QU:Ev->M Fl:=
 (Lb (Qe 1$ we 1 ni []$ Ba (pa 0) Za)$ Lb (Qe 2$ Mi$ uk (Oo$ Fh$ we 1 Qf []$ Ba (pa 1) Za) [1,0] (Cc 0) wl$ we 3 Of []$ Ba (we 2 Ge []$ Ba (pa 2)$ Ba (pa 0) Za)$ Ba (pa 0)$ Ba (Pc (Vb [14,15,16] "every")$ pa 3) Za)$ Ah$ hJ [] (Eb Fb (pa 0)$ eC$ U 0)$ Ba (pa 2) Za)
def sj:gV->M D:=qd λa=>Ic$ Xg 3 QU a
def EY:gc ["view","readings","papers"] ["view"]$ qf W4:=lr rfl rfl rfl (by decide +kernel)
def UZ:Uh ⟨K,ca,tx K⟩ P w mg base 7 "paper" ["view"] sj:=
 Uh.qd$ Uh.Ic (cY a.sj EY λv v v v v v c=>
  by have e:=EY.nd;exact(Vc (by walk_at "+10")$ Vc (by walk_at "+q210.y102003")$ Ii$ Ar$ zT (x:="told") (M':=[]) (ix:=[]) (t:=EI K) (k:=0) (c.mono$ by decide) ⟨rfl,rfl,rfl,rfl,rfl,rfl⟩ rfl ⟨(pY K),λd b=>a.sF _ (pY K) d b,rfl,a.tb.hd _ ⋯,rfl,rfl,rfl,a.MR,a.tb.bb⟩ rfl a.Er rfl rfl rfl (λv v v v v=>rfl) (Hn (Ij 2) Lu)$ λv v v v v c=>(by walk_at "+0")))
instance Fi:ZqF 8 1 "worth" ["view"]:=qc 1 1 7 95 [] (hb:=by exact λa b c=>
 (Ii$ Ar$ JM ZN (WO rfl) (Ps (UZ a) rfl (b.mono$ by decide) rfl$ Hn (Ij 0) Lu) VA$ λd d=>rfl))
def oA:=Ue 5 5 0 54 79 0 [] (hb:=by walk_at "-01020zA30zc.y400zA0C0")
def wA:=Vd 1 1 0 58 108 3 [] (hb:=by walk_at "-zO0")
instance jA:Pe 1 1 "words" ["self"] [(15,wA)]:=.ue 1 15 "words" wA .nil
abbrev zF:Ev->M Fl:=(ci$ Ju Ei (pa 2)$ Ba (ah$ Ba (Pc (Vb [7,8,10,11,12,13] "side")$ pa 4)$ Ba (we 2 ye []$ Ba (pa 4)$ Ba (Eb zj (Pc (Vb [9,15] "claims")$ pa 0)$ pa 3) Za)$ Ba (Eb zj (Pc (Vb [15] "seen")$ pa 0)$ pa 3) Za) Za)
instance:ZqC 14 1 5 "View" ["self","every","look","words","pots"] oA.f:=⟨λa=>⟨_,a.MA,a.Sw,oA.ok a⟩,rfl⟩
def ZY:Ev->M Fl:=
 (Lb (Qe 2$ vr Za)$ Lb (ur (pa 1)$ Kk (gq$ pa 1) (vj 2$ Nf (Cc 3)$ Nf (Cc 4) Lj) zF)$ Ah$ Mi$ pp 14 5 oA$ Ba (Pc (Vb [14,15,16] "every")$ pa 0)$ Ba (Pc (Vb [14,15] "last_look")$ pa 0)$ Ba (Zd [(15,wA)] 1 "words" (pa 0) Za)$ Ba (pa 2) Za)
def ZC:=Vd 5 2 2 62 108 7 ["pots","pot","account"] (g:=ZY) (hb:=by walk_at "-2lhFL134244d03d03zR0002")
instance Dx:Pe 3 2 "view_by" ["self","accounts"] [(15,ZC)]:=.ue 3 15 "view_by" ZC .nil
def fG:=Vd 1 1 3 63 108 8 [] (hb:=by walk_at "-00")
instance BC:Pe 4 1 "view" ["self"] [(15,fG)]:=.ue 4 15 "view" fG .nil
def Gu:=Vd 1 1 8 64 108 9 [] (hb:=by exact λa b c=>
 (Ii$ Ar$ Ps (Uh.alias (Fi.ok a) a.ki) rfl (b.mono$ by decide) rfl$ by walk_at "+0"))
instance GA:Pe 9 1 "worth" ["self"] [(15,Gu)]:=.ue 9 15 "worth" Gu .nil
def qz:=Vd 4 3 9 66 108 11 ["accounts"] (hb:=by exact λa b c=>
 (Vc (by walk_at "+3H0")$ Vc (by walk_at "+m131")$ Ii$ Ar$ Up vN AL (Ps (Uh.alias (Fi.ok a) a.ki) rfl (b.mono$ by decide) rfl$ by walk_at "+03") (by walk_at "+02")$ Pn _))
instance Ox:Pe 10 3 "is_good" ["self","account","allowance"] [(15,qz)]:=.ue 10 15 "is_good" qz .nil
abbrev ZX:Ev->M Fl:=(Qe 2$ Eb Fb (pa 1)$ eC$ U 1)
abbrev pW:Ev->M Fl:=(Qe 3$ Zd [(11,iD),(12,zD),(13,CC)] 2 "taken" (Eb zj (Pc (Vb [15] "accounts")$ pa 0)$ pa 2)$ Ba (pa 1) Za)
abbrev sY:Ev->M Fl:=(Qe 4$ Zd [(15,dD)] 2 "is_as_asked" (pa 0)$ Ba (pa 1) Za)
abbrev IR:Ev->M Fl:=(Qe 5$ Pv (eT$ pa 4) OS$ eC$ U 0)
abbrev YR:Ev->M Fl:=(Cg (Bp$ eT$ Zd [(15,qz)] 3 "is_good" (pa 0)$ Ba (Eb Fb (pa 3)$ eC$ U 0)$ Ba (pa 5) Za) km Lg)
abbrev SR:Ev->M Fl:=(Zq (Eb Fb (pa 3)$ eC$ U 0) (Pc (Vb [15] "accounts")$ pa 0)$ pa 2)
abbrev CW:Ev->M Fl:=(Cg (eT$ pa 4) km Lg)
abbrev AR:Ev->M Fl:=(Ah$ Pv (eT$ Eb Zr (Eb Fb (pa 3)$ eC$ U 1)$ eC Ϛ) (Fn Za)$ Fn$ Ba (Eb Fb (pa 3)$ eC$ U 1) Za)
def sR:Ev->M Fl:=
 (Lb ZX$ Lb pW$ VF [(13,11),(11,13),(11,12)] [11,12,13] (Eb Fb (pa 3)$ eC$ U 0) (Eb zj (Pc (Vb [15] "accounts")$ pa 0)$ pa 2) km$ Lb sY$ Lb IR$ Lb YR$ Lb SR$ Lb CW AR)
def jC:=Ue 6 2 11 73 108 18 ["pot","step","as_asked","allowance"] (g:=sR) (hb:=by exact λa b c=>
 (Vc (by walk_at "+21")$ Vc (by walk_at "+3d021")$ Β (Hm b) (OK a.ji a.yj a.Sk a.Jk$ OK a.yj a.ji a.Uk a.Vk$ OK a.yj a.vk a.Rk a.Yk t9) (KM a.yj$ KM a.vk$ KM a.ji Ĵ) rfl (by walk_at "+3") (by walk_at "+d02") pz$ Vc (by walk_at "+401")$ Vc (pA (i:=5) c rfl (ϔ rfl)$ xV (LC$ Ij 4) z7 VA)$ by walk_at "+b035m302b43vv3"))
instance Cu:Pe 12 2 "take_step" ["self","letter"] [(15,jC)]:=.ue 12 15 "take_step" jC .nil
abbrev IS:Ev->M Fl:=(Cg (Bp$ eT$ Zd [(15,cr)] 2 "holds" (pa 0)$ Ba (Eb Fb (pa 1)$ eC$ U 1) Za) km Lg)
def jY:Ev->M Fl:=
 (Lb (Cg (Bp$ eT$ we 1 Td []$ Ba (pa 1) Za) km Lg)$ Lb (Cg (eT$ Eb Zi (Eb Fb (pa 1)$ eC$ U 0)$ eC$ ϒ "word") km Lg)$ Lb IS$ Lb (Cg (eT$ Eb Zi (Eb Fb (pa 1)$ eC$ U 0)$ eC$ ϒ "ask") km Lg)$ Ah$ Zd [(15,jC)] 2 "take_step" (pa 0)$ Ba (pa 1) Za)
def Mv:=Ue 2 2 12 70 108 15 [] (g:=jY) (hb:=by walk_at "-b1b1b01b101")
instance CD:Pe 13 2 "take" ["self","letter"] [(15,Mv)]:=.ue 13 15 "take" Mv .nil
def IE:=Ue 3 3 13 90 111 11 [] (hb:=by walk_at "-01d012")
instance wu:Pe 14 3 "hand_over" ["self","to","letter"] [(16,IE)]:=.ue 14 16 "hand_over" IE .nil
def Zt:=Ue 3 2 14 96 111 17 ["keeping"] (hb:=by walk_at "-b1201b2bzc0.y1020021")
instance VB:Pe 15 2 "band" ["self","letter"] [(16,Zt)]:=.ue 15 16 "band" Zt .nil
abbrev JT:Ev->M Fl:=(Qe 3$ we 5 li []$ Ba (pa 0)$ Ba (eC$ U 0)$ Ba (eC$ U 0)$ Ba (pa 1)$ Ba (pa 2) Za)
abbrev bS:Ev->M Fl:=(ci$ Zd [(16,Zt)] 2 "band" (pa 0)$ Ba (ah$ Ba (eC$ ϒ "offer")$ Ba (eC$ U 0)$ Ba (ah$ Ba (eC$ ϒ "agree")$ Ba (eC$ U 0)$ Ba (eC$ U 0)$ Ba (pa 3) Za) Za) Za)
abbrev EX:Ev->M Fl:=(Cg (eT$ Eb Ki (Pc (Vb [10,11,12,13] "mine")$ Zd [(15,eo)] 2 "account" (Zd [(16,np)] 2 "keeper" (pa 0)$ Ba (eC$ U 0) Za)$ Ba (eC$ U 0) Za)$ pa 3) (Ah$ eC$ Ϗ į) Lg)
abbrev US:Ev->M Fl:=(ci$ Zd [(16,Zt)] 2 "band" (pa 0)$ Ba (ah$ Ba (eC$ ϒ "struck")$ Ba (eC$ U 0)$ Ba (ah$ Ba (eC$ ϒ "strike")$ Ba (eC$ U 0)$ Ba (eC$ U 0)$ Ba (eC$ U 0) Za) Za) Za)
abbrev jZ:Ev->M Fl:=(Ah$ Eb Zi (Pc (Vb [10,11,12,13] "may")$ Zd [(15,eo)] 2 "account" (Zd [(16,np)] 2 "keeper" (pa 0)$ Ba (eC$ U 0) Za)$ Ba (eC$ U 0) Za)$ Fn$ Ba (pa 3) Za)
abbrev x6:Stmt:=ph 116
def yT:Ev->M Fl:=
 (Lb JT$ Lb bS$ Lb EX$ Lb US jZ)
def Gc:gV->M D:=qd$ Xg 4 yT
def DR:gc ["_law_hall","_law_amount","_law_day","_law_new"] ["_law_hall","_law_amount","_law_day"]$ qf x6:=lr rfl rfl rfl (by decide +kernel)
def ŕ:Uh ⟨K,ca,tx K⟩ P w mg base 16 "_law_brought_in" ["_law_hall","_law_amount","_law_day"] Gc:=
 Uh.qd (dz a.Gc DR λv v v v v v v b=>
  by have:=DR.nd;walk_at "+301203a0300v3")
def Rp:=Vd 1 1 0 48 72 0 []
def Vy:=Vd 1 1 0 50 73 0 []
def KA:=Vd 1 1 0 52 74 0 []
instance RC:Pe 1 1 "word" ["self"] [(11,Rp),(12,Vy),(13,KA)]:=.ue 1 11 "word" Rp$ .ue 1 12 "word" Vy$ .ue 1 13 "word" KA .nil
instance Bk:ZqF 8 3 "following" ["one","shares","ties"]:=qc 3 3 7 36 [] (hb:=by exact λa b c=>
 (Ii$ Ar$ ä (YX a) rfl (b.mono$ by decide) rfl$ by walk_at "+012"))
instance Eu:ZqF 9 5 "tied" ["one","payer","amount","word","day"]:=qc 6 5 8 38 ["tie"] (hb:=by walk_at "-51234b5001205")
instance Ag:ZqF 10 3 "stand_wished" ["account","wish","known"]:=qc 5 3 9 105 ["mine","side"] (hb:=by exact λa b c=>
 (Vc (by walk_at "+30")$ Vc (by walk_at "+40")$ Vc (by walk_at "+b1")$ Vc (by walk_at "+a1134111") pz))
instance zg:ZqF 1 1 "allowance_of" ["wish"]:=qc 1 1 0 106 [] (hb:=by walk_at "-000")
instance (priority:=1002) mo50_agree_of:Pe 1 3 "agree_of" ["self","side","one"] [(10,nk),(11,nk),(12,nk),(13,nk)]:=.ue 1 10 "agree_of" nk$ .ue 1 11 "agree_of" nk$ .ue 1 12 "agree_of" nk$ .ue 1 13 "agree_of" nk .nil
instance:ZqC 12 1 7 "Offered" ["self","pot","side","mine","grant","may","strikes"] Lp.f:=⟨λa=>⟨_,a.Ms,a.xq,Lp.ok a⟩,rfl⟩
abbrev Q5:Stmt:=ph 76
def gR:Ev->M Fl:=
 (Lb (Cg (AC (eT$ Eb Ki (Pc (Vb [7,8,10,11,12,13] "side")$ pa 0)$ eC$ U 0)$ eT$ Eb Ki (Zd [(11,Rp),(12,Vy),(13,KA)] 1 "word" (pa 0) Za)$ eC$ ϒ "calm") km Lg)$ Lb (Qe 3$ ah$ Ba (Eb Ji (Eb Fb (Pc (Vb [10,11,12,13] "mine")$ pa 0)$ eC$ U 0)$ eC$ U 1)$ Ba (pa 1)$ Ba (pa 2) Za)$ Lb (Cg (Bp$ eT$ we 2 Ze []$ Ba (pa 3)$ Ba (we 1 rl []$ Ba (Pc (Vb [10,11,12,13] "mine")$ pa 0) Za) Za) km Lg)$ Lb (Qe 4$ pp 12 7 Lp$ Ba (Pc (Vb [10,11,12,13] "pot")$ pa 0)$ Ba (Pc (Vb [7,8,10,11,12,13] "side")$ pa 0)$ Ba (Pc (Vb [10,11,12,13] "mine")$ pa 0)$ Ba (Pc (Vb [10,11,12,13] "grant")$ pa 0)$ Ba (Fn$ Ba (Pc (Vb [10,11,12,13] "mine")$ pa 0)$ Ba (pa 3) Za)$ Ba (Pc (Vb [10,11,12,13] "strikes")$ pa 0) Za)$ Ah$ ah$ Ba (pa 4)$ Ba (ah$ Ba (eC$ ϒ "offer")$ Ba (Pc (Vb [10,11,12,13] "pot")$ pa 0)$ Ba (Zd [(10,nk),(11,nk),(12,nk),(13,nk)] 3 "agree_of" (pa 0)$ Ba (eC$ U 0)$ Ba (pa 3) Za) Za) Za)
def Hf:gV->M D:=qd$ Xg 5 gR
def uZ:gc ["account","shares","ties","one","behind"] ["account","shares","ties"]$ qf Q5:=lr rfl rfl rfl (by decide +kernel)
def R7:Uh ⟨K,ca,tx K⟩ P w mg base 8 "offered" ["account","shares","ties"] Hf:=
 Uh.qd (dz a.Hf uZ λv v v v v v v b=>
  by have:=uZ.nd;walk_at "+b003x012b304R0000v0304003")
abbrev L3:Stmt:=ph 107
def bZ:Ev->M Fl:=
 (Lb (Cg (eT$ Eb Zi (Pc (Vb [7,8,10,11,12,13] "side")$ pa 0)$ eC$ U 0) (Ah$ we 3 Hf []$ Ba (pa 0)$ Ba (Eb Fb (pa 1)$ eC$ U 1)$ Ba (Eb Fb (pa 1)$ eC$ U 2) Za) Lg) km)
def og:gV->M D:=qd$ Xg 3 bZ
def TW:gc ["account","one","offer"] ["account","one"]$ qf L3:=lr rfl rfl rfl (by decide +kernel)
def ς:Uh ⟨K,ca,tx K⟩ P w mg base 9 "step_to" ["account","one"] og:=
 Uh.qd (dz a.og TW λv v v v v v v b=>
  by have c:=TW.nd;exact(Vc (Es (by walk_at "+0") (Ii$ Ar$ Ps (R7 a) rfl (b.mono$ by decide) rfl$ by walk_at "+011") Nu) pz))
abbrev iN:Ev->M Fl:=(Qe 3$ Eb Fb (pa 2)$ eC$ U 1)
abbrev hL:Ev->M Fl:=(Qe 4$ Pc (Vb [7,8,10,11,12,13] "side")$ Eb zj (Pc (Vb [15] "accounts")$ pa 0)$ pa 3)
abbrev mN:Ev->M Fl:=(Qe 5$ we 1 zg []$ Ba (pa 2) Za)
abbrev NN:Ev->M Fl:=(Qe 6$ we 2 og []$ Ba (Eb zj (Pc (Vb [15] "accounts")$ pa 0)$ pa 3)$ Ba (pa 1) Za)
abbrev LL:Ev->M Fl:=(Cg (Bp$ eT$ Zd [(15,qz)] 3 "is_good" (pa 0)$ Ba (Eb Fb (pa 6)$ eC$ U 0)$ Ba (pa 5) Za) (Ah$ ah$ Ba (eC$ Ϗ į)$ Ba (Fn Za) Za) Lg)
abbrev mW:Ev->M Fl:=(Cg (eT$ Eb Zi (pa 4)$ eC$ U 0) (Lb (Zq (Eb Fb (pa 6)$ eC$ U 0) (Pc (Vb [15] "accounts")$ pa 0)$ pa 3)$ EM [15] "gave" (pa 5)$ pa 0) km)
abbrev zS:Ev->M Fl:=(Cg (eT$ Eb Zi (Eb Fb (pa 2)$ eC$ U 0)$ eC$ ϒ "settle") km Lg)
abbrev WY:Ev->M Fl:=(Ah$ ah$ Ba (eC$ Ϗ š)$ Ba (Fn$ Ba (Eb Fb (pa 6)$ eC$ U 1) Za) Za)
def UP:Ev->M Fl:=
 (Lb iN$ Lb hL$ Lb mN$ Lb NN$ Lb LL$ Lb mW$ Lb zS WY)
def Wz:=Ue 7 3 10 69 108 14 ["pot","side","allowance","step"] (g:=UP) (hb:=by exact λa b c=>
 (Vc (by walk_at "+32")$ Vc (by walk_at "+4d03")$ Vc (by walk_at "+52")$ Vc (pA (i:=6) c rfl (ϔ rfl)$ Ps (ς a) rfl (b.mono$ by decide) rfl$ by walk_at "+d031")$ Vc (by walk_at "+a065v")$ Vc (Es (by walk_at "+4") (Vc (by walk_at "+m603")$ Ii$ VX rfl (fO a) (Ij 0)$ Ij 5) pz)$ by walk_at "+b2v6"))
instance ew:Pe 11 3 "wish_for" ["self","one","wish"] [(15,Wz)]:=.ue 11 15 "wish_for" Wz .nil
abbrev sK:Ev->M Fl:=(Cg (eT$ Eb Zi (Eb Fb (pa 1)$ eC$ U 0)$ eC$ ϒ "finish") (Lb (Zq (eC$ Ϗ š) (Pc (Vb [15] "finishing")$ pa 0)$ Eb Fb (pa 1)$ eC$ U 1)$ Ah$ ah$ Ba (eC$ Ϗ š)$ Ba (Fn Za) Za) Lg)
abbrev PR:Ev->M Fl:=(Qe 2$ Eb zj (Pc (Vb [15] "accounts")$ pa 0)$ Eb Fb (pa 1)$ eC$ U 1)
abbrev KQ:Ev->M Fl:=(Cg (eT$ Eb Ki (Zd [(11,Rp),(12,Vy),(13,KA)] 1 "word" (pa 2) Za)$ eC$ ϒ "calm") km Lg)
abbrev QQ:Ev->M Fl:=(FJ (Qe 3$ we 3 Ag []$ Ba (pa 2)$ Ba (pa 1)$ Ba (Pc (Vb [14,15] "known")$ pa 0) Za) [])
abbrev yY:Ev->M Fl:=(Ah$ Zd [(15,Wz)] 3 "wish_for" (pa 0)$ Ba (pa 3)$ Ba (pa 1) Za)
def iL:Ev->M Fl:=
 (Lb (Cg (Bp$ eT$ Zd [(15,cr)] 2 "holds" (pa 0)$ Ba (Eb Fb (pa 1)$ eC$ U 1) Za) km Lg)$ Lb sK$ Lb PR$ Lb KQ$ Lb QQ yY)
def Qv:=Ue 4 2 11 68 108 13 ["account","one"] (g:=iL) (hb:=by exact λb c d=>
 (Vc (by walk_at "+b01")$ Vc (by walk_at "+a1m01v")$ Vc (by walk_at "+2d01")$ Vc (by walk_at "+b2")$ Vc (jW$ λv v a=>(by walk_at "+3210"))$ by walk_at "+031"))
instance bD:Pe 12 2 "wish" ["self","wish"] [(15,Qv)]:=.ue 12 15 "wish" Qv .nil
def Ct:=Ue 4 3 12 91 111 12 ["told"] (hb:=by walk_at "-30120133")
instance (priority:=1001) mo53_wish:Pe 13 3 "wish" ["self","hand","wish"] [(16,Ct)]:=.ue 13 16 "wish" Ct .nil
def dB:=Vd 1 1 0 60 108 5 [] (hb:=by walk_at "-0")
instance RA:Pe 1 1 "given" ["self"] [(15,dB)]:=.ue 1 15 "given" dB .nil
abbrev DU:Ev->M Fl:=(Qe 1$ Zd [(15,eo)] 2 "account" (Zd [(16,np)] 2 "keeper" (pa 0)$ Ba (eC$ U 0) Za)$ Ba (eC$ U 1) Za)
abbrev vX:Ev->M Fl:=(ci$ Zd [(16,Zt)] 2 "band" (pa 0)$ Ba (ah$ Ba (eC$ ϒ "accept")$ Ba (eC$ U 1)$ Ba (ah$ Ba (eC$ ϒ "agree")$ Ba (eC$ U 1)$ Ba (eC$ U 1)$ Ba (Eb Fb (Pc (Vb [10,11,12,13] "may")$ pa 1)$ eC$ U 1) Za)$ Ba (ah$ Ba (eC$ ϒ "strike")$ Ba (eC$ U 1)$ Ba (eC$ U 1)$ Ba (eC$ U 0) Za) Za) Za)
abbrev tQ:Ev->M Fl:=(Ah$ Eb Zi (Zd [(11,Rp),(12,Vy),(13,KA)] 1 "word" (Zd [(15,eo)] 2 "account" (Zd [(16,np)] 2 "keeper" (pa 0)$ Ba (eC$ U 0) Za)$ Ba (eC$ U 1) Za) Za)$ eC$ ϒ "calm")
abbrev á:Stmt:=ph 117
def FU:Ev->M Fl:=
 (Lb DU$ Lb vX tQ)
def Nd:gV->M D:=qd$ Xg 2 FU
def jS:gc ["_law_hall","_law_account"] ["_law_hall"]$ qf á:=lr rfl rfl rfl (by decide +kernel)
def Ŵ:Uh ⟨K,ca,tx K⟩ P w mg base 16 "_law_accepted" ["_law_hall"] Nd:=
 Uh.qd (dz a.Nd jS λv v v v v v v b=>
  by have:=jS.nd;walk_at "+100x10")
def OB:=Ue 2 2 12 100 111 21 [] (hb:=by walk_at "-010")
instance (priority:=1001) mo55_look:Pe 13 2 "look" ["self","hand"] [(16,OB)]:=.ue 13 16 "look" OB .nil
def MB:=Ue 3 3 5 97 111 18 [] (hb:=by walk_at "-b02012")
instance (priority:=1001) mo56_show:Pe 6 3 "show" ["self","P","W"] [(16,MB)]:=.ue 6 16 "show" MB .nil
abbrev xO:Ev->M Fl:=(Qe 3$ Eb sA (pa 2)$ eC$ U 1)
abbrev cP:Ev->M Fl:=(Cg (eT$ Eb Zi (Eb Mm (pa 1)$ eC$ U 2)$ eC$ U 1) (Qe 3$ Eb Ji (Zd [(9,Wp)] 1 "today" (Zd [(16,Yr)] 1 "book" (pa 0) Za) Za)$ Eb Mm (Eb rB (pa 1)$ eC$ U 2)$ eC$ U 20) Lg)
abbrev nX:Ev->M Fl:=(Lb (Cg (eT$ Eb hD (Zd [(9,Wp)] 1 "today" (Zd [(16,Yr)] 1 "book" (pa 0) Za) Za)$ pa 3) sM Lg)$ ci$ Zd [(16,Tt)] 1 "next_day" (pa 0) Za)
abbrev TL:Ev->M Fl:=(Zl (Wr$ eC$ U 40) (Cc 4) nX)
abbrev BP:Ev->M Fl:=(Cg (eT$ Eb Zi (Eb Mm (pa 1)$ eC$ U 2)$ eC$ U 0) (ci$ Zd [(16,OB)] 2 "look" (pa 0)$ Ba (eC$ U 0) Za) Lg)
abbrev EO:Ev->M Fl:=(Cg (eT$ Eb Ki (Eb Mm (pa 1)$ eC$ U 6)$ eC$ U 5) (ci$ Zd [(16,MB)] 3 "show" (pa 0)$ Ba (eC$ U 1)$ Ba (eC$ U 0) Za) Lg)
abbrev B0:Stmt:=ph 118
def LY:Ev->M Fl:=
 (Lb xO$ Lb cP$ Lb TL$ Lb BP EO)
def re:gV->M D:=qd$ Xg 5 LY
def BU:gc ["_law_hall","_law_cell","_law_last","_law_late","_law_k"] ["_law_hall","_law_cell","_law_last"]$ qf B0:=lr rfl rfl rfl (by decide +kernel)
def Ê:Uh ⟨K,ca,tx K⟩ P w mg base 14 "_law_shown" ["_law_hall","_law_cell","_law_last"] re:=
 Uh.qd (dz a.re BU λv v v v v v v b=>
  by have c:=BU.nd;exact(Vc (by walk_at "+32")$ Vc (by walk_at "+a1301")$ Vc (ZA ir rfl (by walk_at "") (by walk_at "+4")$ Vc (Es (by walk_at "+03") (Ii D6) Nu)$ by walk_at "+0")$ by walk_at "+a10a10"))
def ZE:=Vd 3 3 4 86 111 7 [] (hb:=by walk_at "-b012")
instance wn:Pe 5 3 "check_side_of_band" ["self","pot","side"] [(16,ZE)]:=.ue 5 16 "check_side_of_band" ZE .nil
def eA:=Ue 5 4 10 98 111 19 ["agreement"] (hb:=by exact λa b d=>
 (Vc (by walk_at "+012")$ Vc (by walk_at "+b3")$ Vc (by walk_at "+4123")$ Ii$ Rw$ cV (k:=10) (c:=9) (ps:=["self","pot","side","stand","agreement"]) rfl (by walk_at "+0") (a.tc.get 9$ by decide) ((a.te.get (9,_)$ by repeat (first|with_reducible exact ua|refine la _ ?_)).get ("lay",36)$ by repeat (first|with_reducible exact ua|refine la _ ?_)) (SX a) (b.mono$ by decide)$ by walk_at "+123044"))
instance oE:Pe 11 4 "lay" ["self","P","side","stand"] [(16,eA)]:=.ue 11 16 "lay" eA .nil
def HG:=Vd 3 3 0 19 51 1 [] (hb:=by walk_at "-0")
instance Ql:ZqF 2 3 "side_due" ["tie","day","shown"]:=qc 3 3 1 49 [] (hb:=by walk_at "-a020a100")
def Tz:=Vd 6 3 2 24 52 3 ["due","tie","side"] (hb:=by walk_at "-a0103x0fx045412a533543303")
def xF:=Vd 4 3 1 28 53 2 ["shares"] (hb:=by walk_at "-30033")
instance gB:Pe 3 3 "comes" ["self","day","shown"] [(6,HG),(7,Tz),(8,xF)]:=.ue 3 6 "comes" HG$ .ue 3 7 "comes" Tz$ .ue 3 8 "comes" xF .nil
def Dw:=Vd 2 2 3 40 62 10 [] (hb:=by walk_at "-01x010x01")
instance Fy:Pe 4 2 "due_of" ["self","pot"] [(9,Dw)]:=.ue 4 9 "due_of" Dw .nil
def Wy:=Vd 1 1 4 42 62 12 [] (hb:=by walk_at "-zc0.y0020")
instance Ax:Pe 5 1 "is_over" ["self"] [(9,Wy)]:=.ue 5 9 "is_over" Wy .nil
abbrev PK:Ev->M Fl:=(Cg (eT$ Eb xE (Eb Mm (pa 1)$ eC$ U 3)$ eC$ U 0) (ci$ Zd [(16,eA)] 4 "lay" (pa 0)$ Ba (eC$ U 0)$ Ba (eC$ U 0)$ Ba (ah$ Ba (eC$ U 0)$ Ba (rC (Eb Fb (Zd [(9,Gs)] 1 "made_of" (Zd [(16,Yr)] 1 "book" (pa 0) Za) Za)$ eC$ U 0) (W1$ eC$ U 2)$ W1$ eC$ U 4)$ Ba (ah Za) Za) Za) Lg)
abbrev yuj:Ev->M Fl:=(ci$ Zd [(16,Ct)] 3 "wish" (pa 0)$ Ba (eC$ U 0)$ Ba (ah$ Ba (eC$ ϒ "finish")$ Ba (pa 2) Za) Za)
abbrev MJ:Ev->M Fl:=(Zl (Wr$ eC$ U 2) (Cc 2) yuj)
abbrev MU:Ev->M Fl:=(Cg (Bp$ eT$ Zd [(9,Wy)] 1 "is_over" (Zd [(16,Yr)] 1 "book" (pa 0) Za) Za) (ci$ Zd [(16,Tt)] 1 "next_day" (pa 0) Za) Lg)
abbrev jP:Ev->M Fl:=(Zl (Wr$ eC$ U 100) (Cc 3) MU)
abbrev fM:Ev->M Fl:=(Ah$ Zd [(9,Wy)] 1 "is_over" (Zd [(16,Yr)] 1 "book" (pa 0) Za) Za)
abbrev ņ:Stmt:=ph 119
def CU:Ev->M Fl:=
 (Lb PK$ Lb MJ$ Lb jP fM)
def Kf:gV->M D:=qd$ Xg 4 CU
def mR:gc ["_law_hall","_law_cell","_law_pot","_law_k"] ["_law_hall","_law_cell"]$ qf ņ:=lr rfl rfl rfl (by decide +kernel)
def W0:Uh ⟨K,ca,tx K⟩ P w mg base 14 "_law_end" ["_law_hall","_law_cell"] Kf:=
 Uh.qd (dz a.Kf mR λv v v v v v v b=>
  by have:=mR.nd;walk_at "+a100f202f3a000")
abbrev ķ:Ev->M Fl:=(Cg (eT$ Eb Zi (Eb Fb (pa 4)$ pa 5)$ pa 1) (bw (λa b=>a+b) 2$ Eb Fb (Zd [(9,Dw)] 2 "due_of" (pa 0)$ Ba (pa 3) Za)$ pa 5) Lg)
abbrev RE:Ev->M Fl:=(Zl (Fh$ ah$ Ba (eC$ U 0)$ Ba (eC$ U 1) Za) (Cc 5) ķ)
def aZ:Ev->M Fl:=
 (Lb (Cg (Bp$ eT$ we 1 qh []$ Ba (pa 1) Za) km Lg)$ Lb (Qe 2$ eC$ U 0)$ Lb (Kk (Bx$ Pc (Vb [9,14,16] "pots")$ pa 0) (vj 2$ Nf (Cc 3)$ Nf (Cc 4) Lj) RE)$ Ah$ pa 2)
def ZF:=Vd 6 2 4 41 62 11 ["coin","pot","made","side"] (g:=aZ) (hb:=by walk_at "-b12F034f5a45120352")
instance Xw:Pe 5 2 "coin_of" ["self","hand"] [(9,ZF)]:=.ue 5 9 "coin_of" ZF .nil
def xA:=Vd 2 2 5 83 111 4 [] (hb:=by walk_at "-01")
instance pD:Pe 6 2 "coin" ["self","hand"] [(16,xA)]:=.ue 6 16 "coin" xA .nil
abbrev u1:Ev->M Fl:=(Qe 1$ Eb Ji (eC$ U 1)$ Eb Mm (we 2 Oa []$ Ba (pa 0)$ Ba (eC$ U 0) Za)$ eC$ U 4)
abbrev u2:Ev->M Fl:=(Qe 2$ Mi$ uk (Oo$ dI (eC$ U 1)$ eC$ U 5) [0] (Cc 0) wl$ we 1 Pg []$ Ba (we 2 Oa []$ Ba (pa 2)$ Ba (pa 0) Za) Za)
abbrev u3:Ev->M Fl:=(Qe 3$ Eb Ji (Eb Ji (pa 1)$ eC$ U 1)$ Eb Mm (Eb rB (we 2 Oa []$ Ba (pa 0)$ Ba (eC$ U 0) Za)$ eC$ U 4)$ eC$ U 3)
abbrev u4:Ev->M Fl:=(Qe 4$ pp 16 5 zo$ lB []$ Ba (Fn$ Ba (ah$ Ba (eC$ U 1)$ Ba (eC$ U 0)$ Ba (Eb Fb (pa 2)$ eC$ U 0)$ Ba (Eb Fb (pa 2)$ eC$ U 1)$ Ba (pa 3) Za)$ Ba (ah$ Ba (eC$ U 0)$ Ba (eC$ U 2)$ Ba (Eb Fb (pa 2)$ eC$ U 2)$ Ba (Eb Fb (pa 2)$ eC$ U 3)$ Ba (pa 3) Za) Za)$ Ba (Fn$ Ba (eC$ U 0) Za)$ Ba (pa 1)$ Ba (Mi$ cJ [.inl 0]$ Ba (eC$ U 2) Za) Za)
abbrev sU:Ev->M Fl:=(ci$ Zd [(16,Tt)] 1 "next_day" (pa 4) Za)
abbrev u5:Ev->M Fl:=(Zl (Wr$ Eb Mm (we 2 Oa []$ Ba (pa 0)$ Ba (eC$ U 7) Za)$ eC$ U 12) (Cc 5) sU)
abbrev u6:Ev->M Fl:=(Qe 6$ Zd [(16,np)] 2 "keeper" (pa 4)$ Ba (eC$ U 0) Za)
abbrev u7:Ev->M Fl:=(CL (we 3 oi []$ Ba (pa 0)$ Ba (pa 1)$ Ba (Zd [(9,Wp)] 1 "today" (Zd [(16,Yr)] 1 "book" (pa 4) Za) Za) Za)$ vj 2$ Nf (Cc 7)$ Nf (Cc 8) Lj)
abbrev u8:Ev->M Fl:=(Qe 9$ Eb Ji (eC$ U 1)$ Eb Mm (Eb rB (we 2 Oa []$ Ba (pa 0)$ Ba (eC$ U 8) Za)$ eC$ U 3)$ Pl aF$ Ba (Eb Fb (pa 2)$ eC$ U 2)$ Ba (Eb Fb (pa 2)$ eC$ U 0) Za)
abbrev u9:Ev->M Fl:=(Qe 10$ Eb Ji (eC$ U 1)$ Eb Mm (we 2 Oa []$ Ba (pa 0)$ Ba (eC$ U 9) Za)$ Eb Fb (pa 2)$ eC$ U 0)
abbrev HH:Ev->M Fl:=(Cg (eT$ Eb xE (Eb Mm (we 2 Oa []$ Ba (pa 0)$ Ba (eC$ U 8) Za)$ eC$ U 3)$ eC$ U 0) (Qe 10$ Pl aF$ Ba (Eb Fb (pa 2)$ eC$ U 0)$ Ba (Pl QC$ Ba (eC$ U 1)$ Ba (Eb sA (Eb Ji (pa 9)$ Eb Mm (we 2 Oa []$ Ba (pa 0)$ Ba (eC$ U 9) Za)$ eC$ U 3)$ eC$ U 1) Za) Za) Lg)
abbrev XO:Ev->M Fl:=(Cg (Bp$ eT$ we 3 Gc []$ Ba (pa 4)$ Ba (pa 10)$ Ba (pa 7) Za) (Ah$ eC$ Ϗ į) Lg)
abbrev tO:Ev->M Fl:=(Qe 11$ Zd [(15,Gu)] 1 "worth" (pa 6) Za)
abbrev gN:Ev->M Fl:=(Qe 12$ bN (Eb oLe (pa 8)$ Zd [(15,iy)] 1 "looked" (pa 6) Za)$ VI (Eb hD (pa 7)$ Eb Ji (pa 8)$ pa 1)$ Eb hD (pa 10)$ pa 9)
abbrev jF:Ev->M Fl:=(Cg (AC (eT$ Eb Ki (Zd [(16,Ct)] 3 "wish" (pa 4)$ Ba (eC$ U 0)$ Ba (ah$ Ba (eC$ ϒ "pass")$ Ba (eC$ U 1)$ Ba (pa 9)$ Ba (eC$ U 0)$ Ba (pa 8) Za) Za)$ pa 12)$ eT$ Eb Ki (Zd [(15,dB)] 1 "given" (pa 6) Za)$ eC$ U 0) (Ah$ eC$ Ϗ į) Lg)
abbrev MF:Ev->M Fl:=(Cg (eT$ pa 12) (Lb (Cg (AC (eT$ Eb Ki (Zd [(15,Gu)] 1 "worth" (pa 6) Za)$ pa 11)$ Bp$ eT$ we 1 Nd []$ Ba (pa 4) Za) (Ah$ eC$ Ϗ į) Lg)$ ci$ we 3 re []$ Ba (pa 4)$ Ba (we 2 Oa []$ Ba (pa 0)$ Ba (eC$ U 10) Za)$ Ba (pa 8) Za) Lg)
abbrev AH:Ev->M Fl:=(Qe 13$ eC$ Ϗ į)
abbrev NJ:Ev->M Fl:=(FJ (Qe 14$ we 2 Kf []$ Ba (pa 4)$ Ba (we 2 Oa []$ Ba (pa 0)$ Ba (eC$ U 11) Za) Za) [])
abbrev wI:Ev->M Fl:=(Cg (eT$ pa 13) (Ah$ eC$ Ϗ į) Lg)
abbrev mI:Ev->M Fl:=(Ah$ VI (pa 14)$ Eb hD (Zd [(16,xA)] 2 "coin" (pa 4)$ Ba (eC$ U 0) Za)$ Eb Ji (Eb Fb (pa 2)$ eC$ U 1)$ Eb Fb (pa 2)$ eC$ U 2)
abbrev q8:Stmt:=ph 121
def BX:Ev->M Fl:=
 (Lb u1$ Lb u2$ Lb u3$ Lb u4$ Lb u5$ Lb u6$ Lb u7$ Lb u8$ Lb u9$ Lb HH$ Lb XO$ Lb tO$ Lb gN$ Lb jF$ Lb MF$ Lb AH$ Lb NJ$ Lb wI mI)
def Rl:gV->M D:=Xg 15 BX
def SB:gc ["_law_script","_law_every","_law_coins","_law_wait","_law_hall","_law_k","_law_hand","_law_until","_law_last","_law_amount","_law_more","_law_ahead","_law_due","_law_refused","_law_over"] ["_law_script"]$ qf q8:=lr rfl rfl rfl (by decide +kernel)
def yf9:tN ⟨K,ca,tx K⟩ P w mg 17 "law" ["_law_script"] Rl:=
 ē a.Rl SB λz z z z z z z z b=>
  by have e:=SB.nd;exact(Vc (by walk_at "+10")$ Vc (by walk_at "+q20.y020")$ Vc (by walk_at "+310")$ Vc (pA (i:=4) SB.nd rfl (ϔ rfl)$ IY (c:=16) (ps:=["self","pots","keeps","every","words"]) a.uA a.Qw (Ŋ a) (ϔ rfl) Ϣ (λz z=>xb.nil) rfl (b.mono$ by decide) rfl$ Hn (by walk_at "+v223223")$ Hn (by walk_at "+v")$ Hn (Ij 1)$ Hn (DP$ v7 (Hy.cons (kk:=.inl 0) VA VA Hy.nil) rfl rfl (List.cons_ne_nil _ _)$ Oi rfl) Lu)$ Vc (by walk_at "+f054")$ Vc (by walk_at "+64")$ Vc (Ì (by walk_at "+014")$ by walk_at "+78")$ Vc (pA (i:=9) SB.nd rfl (ϔ rfl)$ yz (AX rfl) sw VA$ yz qY vW (by walk_at "+0")$ sx (kZ rfl) kS rfl a.Er boot_min$ by walk_at "+22")$ Vc (by walk_at "+:02")$ Vc (Es (by walk_at "+0") (Ii$ pA (i:=10) SB.nd rfl (ϔ rfl)$ sx (kZ rfl) kS rfl a.Er boot_min$ Hn (by walk_at "+2")$ Hn (sx (OO rfl) YL rfl a.Fu kQ$ by walk_at "+90") Lu) Nu)$ Vc (Es (xH$ LC$ Ps (ŕ a) rfl (b.mono$ by decide) rfl$ by walk_at "+4:7") (by walk_at "") Nu)$ Vc (by walk_at "+;6")$ Vc (by walk_at "+<86781:9")$ Vc (by walk_at "+a498<6")$ Vc (Es (LC$ Ij 12) (Vc (Es (L2.PW.pt$ fY (by walk_at "+6;")$ NU$ xH$ LC$ Ps (Ŵ a) rfl (b.mono$ by decide) rfl$ Hn (Ij 4) Lu) (by walk_at "") Nu)$ Ii$ Rw$ Ps (Ê a) rfl (b.mono$ by decide) rfl$ by walk_at "+408") Nu)$ Vc (by walk_at "+=")$ Vc (jW$ λz z d=>(Ii$ pA (i:=14) SB.nd rfl (ϔ rfl)$ Ps (W0 a) rfl (b.mono$ by decide) rfl$ by walk_at "+40"))$ by walk_at "+a=>422")
end
end Internal
namespace Internal
open L2 Lake
set_option maxHeartbeats 4000000
section
variable{α:Type}{xs:List α}{σ:Da}{fi:Ev->M Bool}{fe:Ev->M D}{tg:D->Ev->Option Ev}{nx:NX}{rest:Ev}
def YM(ϋ:Option D->Prop)(v a:α->D)(b:α->Option D) p y(u:∀ i j,i<=xs.length->nx i (σ++j)=W1 ((xs[i]?).map v))(w:∀ x o c,ϋ c->tg (v x) (o::c::rest)=W1 (W1 (a x)::b x::rest)/\ϋ (b x))
  (h:∀ x∈xs,∀ j,fi (W1 (a x)::b x::rest) (σ++j)=J (p x) (σ++j)/\(p x=š->fe (W1 (a x)::b x::rest) (σ++j)=J (y x) (σ++j))) (A:xs.length<=1000) :
  ∀ k i o c f,ϋ c->xs.length<k+i->i<=xs.length->f.length<=i->
   Si nx σ.length tg fi fe k i (o::c::rest) (σ++[ϑ f])=J () (σ++[ϑ$ f++((xs.drop i).filter p).map y]):=by
 intro k;induction k with
 |zero=>intro i o c f _ s n;lia
 |succ k q=>
  intro i o c f t s n B;unfold Si;rw[u i _ n];cases e:xs[i]? with
  |none=>
   have l:=Mb.mp e;rw[aq l];simp
  |some d=>
   obtain⟨l,m⟩:=aa.mp e;have hd:xs.drop i=d::xs.drop (i+1):=by rw[<-m];exact lh l
   obtain⟨s1,s2⟩:=h d (by rw[<-m];exact Kl l) [ϑ f];obtain⟨z,r⟩:=w d o c t;simp only[Jl,z];rw[fj,fC s1,Jc];by_cases g:p d=š
   ·rw[g,ja rfl,fj,fC$ s2 g,Jc,fj,PM ⋯,Jc,q (i+1) _ _ (f++[y d]) r ⋯ ⋯ (by simp;lia),hd,Th,ja g];simp
   ·rw[ra g,q (i+1) _ _ f r ⋯ ⋯ ⋯,hd,Th,ra g]
end
def xz{xs}(h:zf xs=š):ig σ (J (O σ.length)$ σ++[ϑ xs])=J (ώ xs) σ:=by
 have:=wU (σ:=σ) (j:=[]) (j':=[]) h
 simp_all
def gF{e:Type}{xs:List e}{src}{s}{ix}{fi}{fe}{ρ}{σ} v y p(l:src ρ σ=J s σ)(k:∀ i j,s.nx i (σ++j)=W1 ((xs[i]?).map v))(g:xs.length<=1000)
  (a:∀ x∈xs,∀ j,fi (W1 (v x)::ŋ::(ix.map λi=>(ρ[i]?).getD ŋ)) (σ++j)=J (p x) (σ++j)/\(p x=š->fe (W1 (v x)::ŋ::(ix.map λi=>(ρ[i]?).getD ŋ)) (σ++j)=J (y x) (σ++j))) (f:∀ x∈xs,p x=š->cl (y x)=š) :
  Mi (uk (Oo src) ix (Cc 0) fi fe) ρ σ=J (ώ$ (xs.filter p).map y) σ:=by
 show ig σ (rc (rc _ eN) _ σ)=_;rw[fj,fj,l,Jc];show ig σ (rc (Si s.nx σ.length _ fi fe 1001 0$ ŋ::ŋ::(ix.map λi=>(ρ[i]?).getD ŋ)) _ _)=_;rw[fj,YM _ v v _ p y (λi j d=>k i j) (λx o n h=>by subst h;exact⟨rfl,rfl⟩) a g 1001 0 ŋ ŋ [] rfl ⋯ ⋯ ⋯,Jc];refine Eq.trans (eb _ ?_)$ xz (Tp λd hd=>by obtain⟨x,m,rfl⟩:=Ya.mp hd;obtain⟨b,c⟩:=ri.mp m;exact f x b c);simp
def Bt{b:Type}{xs:List b}{src}{s}{ix}{fe}{ρ}{σ} v y(g:src ρ σ=J s σ)(f:∀ i j,s.nx i (σ++j)=W1 ((xs[i]?).map v))(e:xs.length<=1000)
  (a:∀ x∈xs,∀ j,fe (W1 (v x)::ŋ::(ix.map λi=>(ρ[i]?).getD ŋ)) (σ++j)=J (y x) (σ++j)) (c:∀ x∈xs,cl (y x)=š) :
  Mi (uk (Oo src) ix (Cc 0) wl fe) ρ σ=J (ώ$ xs.map y) σ:=by
 have:=gF (p:=λh=>š) v y (fi:=wl) g f e (λd hd j=>⟨rfl,λh=>a d hd j⟩) (λd hd h=>c d hd)
 rwa [nt.mpr λh h=>rfl]at this
noncomputable def Sc:D->Bool
 | U _=>š
 | Ϛ=>š
 | Ϗ _=>š
 | ϒ _=>š
 |_=>į
noncomputable def bd(d:D)(a b:Int):Bool:=match d with
 | U i=>decide (a<=i) && decide (i<=b)
 |_=>į
theorem ZZ x a:Yy .int (ϒ x) a=J (Ϗ į) a:=nr rfl
def zj2(h:Sc d=š) σ:Sl [d] σ=J (Ϗ$ match d with | U _=>š|_=>į) σ:=by
 unfold Sl qc;cases d with
 |int i=>simp
 |Sb=>simp
 |bl b=>simp
 |str x=>simp[ZZ]
 |_=>cases h
def ç(h:Sc d=š) a b σ:xf [d,U a,U b] σ=J (Ϗ$ bd d a b) σ:=by
 have w:=zj2 h;unfold xf qc;cases d with
 |int i=>cases c:decide (a<=i)<;>simp[bd,c,w]
 |Sb=>simp[bd,w]
 |bl b=>simp[bd,w]
 |str x=>simp[bd,w]
 |_=>cases h
theorem jL a b c d e r σ:Fb (ϐ$ a::b::c::d::e::r) (U 4) σ=J e σ:=Ly$ kq rfl
@[simp] theorem yct f lo b a c:rC f lo b a c=(f a c).bind (JP (gA lo a)$ gA b a):=nr rfl
@[simp] theorem zzk lo a x b:JP lo a x b=(lo b).bind (uM x a):=nr rfl
@[simp] theorem zzl x a lo b:uM x a lo b=(a b).bind (JA x lo):=nr rfl
@[simp] theorem zsq b a:gA ŋ b a=J ŋ a:=nr rfl
@[simp] theorem zsr f a b:gA (W1 f) a b=(f a b).bind UM:=nr rfl
@[simp] theorem zxr i a:UM (U i) a=J (W1 i) a:=nr rfl
@[simp] theorem BG xs lo a b:JA (ϐ xs) lo a b=J (ϐ$ gy xs lo a) b:=nr rfl
@[simp] theorem ymy a r b:Fb (ώ$ a::r) (U 0) b=J a b:=nE$ kq rfl
@[simp] theorem ymz a b r c:Fb (ώ$ a::b::r) (U 1) c=J b c:=nE$ kq rfl
@[simp] theorem ym0 a b c r d:Fb (ώ$ a::b::c::r) (U 2) d=J c d:=nE$ kq rfl
@[simp] theorem ym1 a b c d r σ:Fb (ώ$ a::b::c::d::r) (U 3) σ=J d σ:=nE$ kq rfl
theorem mq(h:nx i σ=W1 (W1 d))(a:tg d ρ=W1 ρ1):Do nx tg body (k+1) i ρ σ=(body ρ1 σ).bind (lw$ Do nx tg body k$ i+1):=by
 rw[Do];simp only[h,a];rfl
def Wx(h:nx i a=W1 ŋ):Do nx tg body (k+1) i b a=J (ϙ b) a:=by
 rw[Do];simp only[h]
@[simp] theorem zz6 f a b:Bx f a b=(f a b).bind jz:=nr rfl
@[simp] theorem wt b d a c e:Kk b d a c e=zk c (zO d a c) (b c e):=Bl ..
theorem FY{xs}(b:jl a x=W1 xs)(h:zf xs=š):ig a (Br [x] a)=J (ώ xs) a:=by
 have e:Br [x] a=J (O a.length) (a++[ϑ xs]):=by unfold Br;simp[b];rfl
 have:=wU (σ:=a) (j:=[]) (j':=[]) h
 simp_all
section
variable{σ:Da}{x:D}{xs:gV}
def GP(h:wf σ x=W1 xs):jz x σ=J (iq x) σ:=by unfold jz;rw[h]
def pC(h:wf σ x=W1 xs)(a:xs[i]?=W1 d):iq x i σ=W1 (W1$ ϐ [U i,d]):=by unfold iq;rw[h];simp[a]
def HP(h:wf σ x=W1 xs):iq x xs.length σ=W1 ŋ:=by unfold iq;rw[h];simp
end
@[simp] theorem b_0:(("accept" : Str) == "offer")=į:=by decide
@[simp] theorem b_1:(("agree" : Str) == "strike")=į:=by decide
@[simp] theorem b_2:(("agree" : Str) == "word")=į:=by decide
@[simp] theorem ys6:(("strike" : Str) == "word")=į:=by decide
@[simp] theorem ys7:(("struck" : Str) == "accept")=į:=by decide
@[simp] theorem ys8:(("struck" : Str) == "offer")=į:=by decide
theorem uD{xs}(h:zf xs=š) a:ig a (Br [ώ xs] a)=J (ώ xs) a:=FY (CV xs) h
def dr(xs:List a)(v:a->D)(i:Nat):(xs.map v)[i]?=(xs[i]?).map v:=Ta ..
def bt(h:a<=i/\i<=b) c:xf [U i,U a,U b] c=J (Ϗ š) c:=by
 rw[ç rfl];simp[bd,h]
def EE(h:s=0\/s=1) c:rn [U s] c=J (Ϗ š) c:=by
 unfold rn qc;simp[(bt (i:=s) (a:=0) (b:=1) ⋯ c)]
def gX(h:0<=s/\s<=59) a:Bn [U s] a=J (Ϗ š) a:=by
 unfold Bn qc;simp[(bt h a)]
def QM(h:0<=s/\s<=1000000) a:Ak [U s] a=J (Ϗ š) a:=by
 unfold Ak qc;simp[(bt h a)]
def SV(h:0<=p/\p<=2) a:jp [U p] a=J (Ϗ š) a:=by
 unfold jp qc;simp[(bt h a)]
def GI s a:Aj [U s] a=J (U$ 1 - s) a:=by
 unfold Aj qc;simp
structure Ti where
 (p a w y:Int)
noncomputable def Ti.D(t:Ti):Lake.D:=ϐ [U t.p,U t.a,U t.w,U t.y]
structure Ti.Ok(t:Ti):Prop where
 p:t.p=0\/t.p=1
 a:1<=t.a/\t.a<=1000000000000
 w:0<=t.w/\t.w<=59
 y:0<=t.y/\t.y<=1000000
noncomputable def wx(b:List Ti):Int:=(b.map Ti.a).sum
def Gj(n a b:Int)(c:List Ti):D:=ϐ [U n,ϐ [U a,U b],ϐ$ c.map Ti.D]
def qW{t:Ti}(h:t.Ok) b:Ul [t.D] b=J (Ϗ š) b:=by
 have c:jk [U t.a] b=J (Ϗ š) b:=by
  unfold jk qc;simp[(bt h.a b)]
 have d:xp [U t.y] b=J (Ϗ š) b:=by
  unfold xp qc;simp[(bt h.y b)]
 unfold Ti.D Ul qc;simp[(EE h.p b),c,(gX h.w b),d]
structure Qr(n a b:Int)(ts:List Ti):Prop where
 n:0<=n/\n<=1000000
 a:0<=a/\a<=2000000000000
 b:0<=b/\b<=2000000000000
 t:∀ t∈ts,t.Ok
 l:ts.length<=6
 d:(ts.map Ti.w).Nodup
def cC(h:Qr n a b ts) σ:Hh [Gj n a b ts] σ=J (Ϗ š) σ:=by
 have q:=h.l;have e:∀ σ,Fh (pa 0) [W1$ ϐ$ ts.map Ti.D] σ=J (.seq$ ts.map Ti.D) σ:=λσ=>by simp
 have l1:=Bt (ix:=[]) (fe:=we 1 Ul []$ Ba (pa 0) Za) Ti.D (λr=>Ϗ š) (e σ) (λi r=>eb W1$ dr ts _ i) ⋯ (λt m j=>by
  have:=qW (h.t t m)$ σ++j;simp[this]) (λr r=>by simp)
 have l2:=Bt (ix:=[]) (fe:=Eb Fb (pa 0)$ eC$ U 2) Ti.D (λt=>U t.w) (e σ) (λi r=>eb W1$ dr ts _ i) ⋯ (λt h j=>by simp[Ti.D]) (λd hd=>by simp);rw[show ts.map (λt=>U t.w)=(ts.map Ti.w).map U by rw[Bc];rfl]at l2;have c:=OP (σ:=σ) (f:=λr:Ti=>š) (l:=ts);rw[show ts.all (λr=>š)=š from Xa.mpr λr r=>rfl]at c;have s1:=B3 (σ:=σ) (l:=ts.map Ti.w) (by simp;lia);rw[(t4$ ts.map Ti.w).mpr h.d,Ja]at s1;have o:tq [ϐ$ ts.map Ti.D] σ=J (U (ts.length:Int)) σ:=by
  have:=OW (σ:=σ)$ ts.map Ti.D;simpa using this
 have k:decide ((ts.length:Int) > 6)=į:=by simp;lia
 have g:=QM h.n σ;have w:=bt h.a σ;unfold Gj Hh qc;dsimp only;unfold Bq qc;dsimp only;unfold ko qc;dsimp only;generalize _=N,ts.map (λr=>Ϗ š)=p,ts.map Ti.D=TT,(ts.map Ti.w).map U=W at *;simp[g,w,(bt h.b σ),l1,l2,c,s1,o,k,-Bo]
def LO(t:Ti):cl t.D=š:=by unfold Ti.D;simp
def yb4(a:List Ti):zf (a.map Ti.D)=š:=Tp λd hd=>by obtain⟨t,_,rfl⟩:=Ya.mp hd;exact LO t
def AS n a b c:cl (Gj n a b c)=š:=by
 unfold Gj;simp[yb4]
def WQ(f:0<=u/\u<=1000000000000)(g:0<=v/\v<=1000000000000) c:Il [U u,U v] c=J (Gj 0 u v []) c:=by
 have d:=cC (n:=0) (a:=u) (b:=v) (ts:=[]) ⟨by lia,by lia,by lia,by simp,by simp,by simp⟩ c;have e:Eh [U 0,ϐ [U u,U v],Ϛ] c=J (Gj 0 u v []) c:=by
  unfold Gj at d ⊢;simp at d ⊢;unfold Eh QP;simp[d]
 unfold Il qc;simp[e,(AS 0 u v [])]
def DM a b c:kE [ϐ [U a,U b]] c=J (U$ a+b) c:=by
 show J (U$ a+(b+0)) c=_;rw[Wq]
def BK(l:dd) a:kE [ώ$ l.map U] a=J (U l.sum) a:=by
 show (match Hr (l.map U)with|some bs=>_|none=>_)=_;rw[MY]
def KI n a b(g:c.length<=6) σ:rl [Gj n a b c] σ=J (U$ a+b+wx c) σ:=by
 have f:∀ σ,Fb (Gj n a b c) (U 1) σ=J (ϐ [U a,U b]) σ:=λσ=>by simp[Gj]
 have l:=Bt (s:=.seq _) (ix:=[]) (fe:=Eb Fb (pa 0)$ eC$ U 1) (ρ:=[W1$ Gj n a b c]) (σ:=σ) (src:=Fh$ Eb Fb (pa 0)$ eC$ U 2) Ti.D (λt=>U t.a) (by rfl) (λi d=>eb W1$ dr c _ i) ⋯ (λt h j=>by simp[Ti.D]) (λd hd=>by simp);have e:c.map (λt=>U t.a)=(c.map Ti.a).map U:=by rw[Bc];rfl
 rw[e]at l;have o:=BK (c.map Ti.a) σ;unfold rl qc;dsimp only;generalize (c.map Ti.a).map U=G,Gj n a b c=S at *;simp[f,l,DM,o,wx,-Bo]
def PP(h:Qr n a b d) c:Ze [Gj n a b d,U$ a+b+wx d] c=J (Ϗ š) c:=by
 unfold Ze qc;simp[(cC h c),(KI n a b (by have:=h.l;omega) c)]
abbrev Kv:=List$ jc × D
structure Sn where
 (n a b:Int)
 ts:List Ti
def Sn.D(s:Sn):Lake.D:=Gj s.n s.a s.b s.ts
def Jq(s:Sn):cl s.D=š:=AS ..
def BF(a:List Sn):zf (a.map Sn.D)=š:=Tp λd hd=>by obtain⟨s,_,rfl⟩:=Ya.mp hd;exact Jq s
def s0(s:Sn) a:Fb s.D (U 0) a=J (U s.n) a:=by unfold Sn.D Gj;simp
def s1(s:Sn) c:Fb s.D (U 1) c=J (ϐ [U s.a,U s.b]) c:=by unfold Sn.D Gj;simp
def s2(s:Sn) a:Fb s.D (U 2) a=J (ϐ$ s.ts.map Ti.D) a:=by unfold Sn.D Gj;simp
structure Sn.Ok(W:Int)(s:Sn):Prop where
 st:Qr s.n s.a s.b s.ts
 w:s.a+s.b+wx s.ts=W
theorem Ī(K:dd):zf (K.map U)=š:=Tp λd hd=>by obtain⟨s,_,rfl⟩:=Ya.mp hd;rfl
@[simp] theorem dL b a:yq b a=J (O a.length) (a++[ύ []]):=nr rfl
@[simp] theorem zhc o f b a c:NI o f b a c=(f a c).bind (IA o$ b a):=nr rfl
@[simp] theorem T0 f c b a d:Zq f c b a d=zk a (FP a c b) (f a d):=Bl ..
@[simp] theorem zpr b a d ρ σ:FP ρ b a d σ=zk ρ (EL ρ a d) (b ρ σ):=Bl ..
@[simp] theorem l6 a d x ρ σ:EL ρ a d x σ=zk ρ (Im ρ d x) (a ρ σ):=Bl ..
theorem Lq i:mr (U i)=W1 (.inl i):=nr rfl
def Ur(h:σ[n]?=W1 (ύ kvs))(a:kvs.length<1000):Im ρ d (O n) (U w) σ=J (ϙ ρ) (σ.set n$ ύ$ Df kvs (.inl w) d):=by
 unfold Im;simp only[Lq,h];rw[ja (show kvs.length<Yf from a)]
def eD{xs}(P:Nat->Ev->Da->Prop)(A:xs.length<=1000)(x:S=.seq xs\/∃ n,S=.Ol n/\∀ i ρ σ,P i ρ σ->df σ n=W1 xs)
  (u:∀ i d ρ σ,xs[i]?=W1 d->P i ρ σ->∃ f c e,tg d ρ=W1 f/\body f σ=J (ϙ c) e/\P (i+1) c e) (t:P 0 ρ σ):∃ a b,IF tg body ρ S σ=J (ϙ a) b/\P xs.length a b:=by
 rcases x with rfl|⟨n,rfl,z⟩
 ·have q:∀ (r:gV) (i:Nat) (ρ:Ev) (σ:Da),xs.drop i=r->i<=xs.length->P i ρ σ->∃ a b,qk tg body r ρ σ=J (ϙ a) b/\P xs.length a b:=λr=>by
   induction r with
   |nil=>
    intro i ρ σ hd y g;have:i=xs.length:=by have:=Kr.mp hd;lia
    exact⟨ρ,σ,by simp,this ▸ g⟩
   |cons d r s=>
    intro i ρ σ hd y g;have h:xs[i]?=W1 d:=by have:=eb (·[0]?) hd;simpa using this
    obtain⟨f,c,e,j,l,m⟩:=u i d ρ σ h g;obtain⟨a,b,o,p⟩:=s (i+1) c e (by have:=eb List.tail hd;simpa using this) (aa.mp h).1 m;exact⟨a,b,by rw[FH j,l,Jc,Wj,o],p⟩
  exact q xs 0 ρ σ rfl ⋯ t
 ·have q:∀ (k i:Nat) (ρ:Ev) (σ:Da),xs.length<k+i->i<=xs.length->P i ρ σ->∃ a b,As tg body n k i ρ σ=J (ϙ a) b/\P xs.length a b:=λk=>by
   induction k with
   |zero=>intro i ρ σ v w;lia
   |succ k s=>
    intro i ρ σ v w g;rw[As];simp[(z i ρ σ g)];cases h:xs[i]? with
    |none=>
     have:i=xs.length:=by have:=Mb.mp h;lia
     exact⟨ρ,σ,rfl,this ▸ g⟩
    |some d=>
     obtain⟨f,c,e,j,l,m⟩:=u i d ρ σ h g;obtain⟨a,b,o,p⟩:=s (i+1) c e ⋯ (aa.mp h).1 m;refine⟨a,b,?_,p⟩;simp only[j];show (body f σ).bind _=_;rw[l,Jc,Wj,o]
  exact q 1001 0 ρ σ ⋯ ⋯ t
def SW(h:ys.length+zs.length<=1000):xw (O σ.length) [ώ zs] (σ++[ϑ ys])=J Ϛ (σ++[ϑ$ ys++zs]):=by
 have e:wf (σ++[ϑ ys]) (ώ zs)=W1 zs:=rfl;unfold xw;simp only[bO,e];rw[ja (show _<=Yf from h),QA]
def UQ A a:Kq A A.length a=W1 ŋ:=by unfold Kq;simp
@[simp] theorem zk4 d b c a e:hJ d b c a e=(c a e).bind (aD b$ d.map λi=>(a[i]?).getD ŋ):=nr rfl
theorem Ö{g:Type}{xs:List g}{c}{nx}{ix}{fe}{ρ}{σ}(a b y:g->D)(m:c ρ σ=J nx σ)(l:∀ i j,i<=xs.length->nx i (σ++j)=W1 ((xs[i]?).map λx=>ϐ [a x,b x]))(k:xs.length<=1000)
  (e:∀ x∈xs,∀ j,fe (W1 (a x)::W1 (b x)::(ix.map λi=>(ρ[i]?).getD ŋ)) (σ++j)=J (y x) (σ++j)) (h:∀ x∈xs,cl (y x)=š) :
  Mi (uk c ix (vj 2$ Nf (Cc 0)$ Nf (Cc 1) Lj) wl fe) ρ σ=J (ώ$ xs.map y) σ:=by
 show ig σ (rc _ _ σ)=_;rw[fj,m,Jc];show ig σ (rc (Si nx σ.length _ wl fe 1001 0$ ŋ::ŋ::(ix.map λi=>(ρ[i]?).getD ŋ)) _ _)=_;rw[fj,YM (λd=>True) _ a _ _ y l (λx o n d=>⟨rfl,trivial⟩) (λx f j=>⟨rfl,λd=>e x f j⟩) k 1001 0 ŋ ŋ [] trivial ⋯ ⋯ ⋯,Jc];refine Eq.trans (eb _ ?_)$ xz (Tp λd hd=>by obtain⟨x,f,rfl⟩:=Ya.mp hd;exact h x f);have fe:List.filter _ xs=xs:=nt.mpr λd d=>rfl;simp[fe]
noncomputable def ow(q:Int)(s:Sn):Int:=if q=0 then s.a else s.b
def Ļ(d:q=0\/q=1) s c:Fb (ϐ [U s.a,U s.b]) (U q) c=J (U$ ow q s) c:=by
 rcases d with rfl|rfl<;>simp[ow]
structure Pw where
 q:Int
 y:List Sn
def Qg(p:Pw):D:=ϐ [U p.q,ώ$ p.y.map Sn.D,Ϩ [] []]
structure Vw where
 e:Int
 L:Int
def Xj(v:Vw)(P:gV):D:=ϸ 14 ["every","last_look","known","pots"] [U v.e,U v.L,ώ [],ώ P]
def ZH p:cl (Qg p)=š:=by unfold Qg;simp[BF,cl]
def T6 v(h:zf P=š):cl (Xj v P)=š:=by unfold Xj;simp[h]
structure Lo where
 (w:Int)
 (k:Str)
 (v d:Int)
def Lo.D(l:Lo):Lake.D:=ϐ [ϒ l.k,U l.v,U l.d]
structure Rd where
 (f:Int)
 (x:List Lo)
def Ir(x:List Lo):Kv:=x.map λl=>(.inl l.w,l.D)
def Rd.D(r:Rd):Lake.D:=ϐ [U r.f,Ϩ ((Ir r.x).map (·.1)) ((Ir r.x).map (·.2))]
noncomputable def Ao(v:Vw)(q:Int)(t:Ti):Str:=if t.p=q then if t.y<=v.L then "back" else "open" else if t.y<=v.L then "gone" else "hangs"
def CO(k:Str):Bool:=k == "back"
def fa(v:Vw)(q:Int)(t:Ti):Int:=if CO (Ao v q t)then t.a else 0
def qC(v:Vw)(q:Int)(a:List Ti):Int:=(a.map$ fa v q).sum
def lo(v:Vw)(q:Int)(t:Ti):Lo:=⟨t.w,Ao v q t,t.a,t.y⟩
def rd(v:Vw)(q:Int)(s:Sn):Rd:=⟨ow q s+qC v q s.ts,s.ts.map$ lo v q⟩
def IV(l:Lo):cl l.D=š:=by unfold Lo.D;simp
def zX x:zf ((Ir x).map (·.2))=š:=Tp λd hd=>by
 unfold Ir at hd;rw[Bc]at hd;obtain⟨l,_,rfl⟩:=Ya.mp hd;exact IV l
def MI(r:Rd):cl r.D=š:=by unfold Rd.D;simp[cl,zX]
def yb2(a:List Rd):zf (a.map Rd.D)=š:=Tp λd hd=>by obtain⟨s,_,rfl⟩:=Ya.mp hd;exact MI s
theorem NH{f:D->Option D}(a:∀ d,cl d=š->f d=W1 d):∀ {xs:gV},zf xs=š->Wl f xs=W1 xs
 |[],_=>rfl
 |x::xs,h=>by
  rw[zf,Ca]at h;rw[Wl,a x h.1,NH a h.2]
theorem eJ(h:zf (kvs.map (·.2))=š):fz σ.length (σ++ύ kvs::j) (m+1) (O σ.length)=W1 (Ϩ (kvs.map (·.1)) (kvs.map (·.2))):=by
 have e:(σ++ύ kvs::j)[σ.length]?=W1 (ύ kvs):=by simp
 unfold fz;dsimp only;rw[ra$ Bd _,e];dsimp only;rw[NH (λd hd=>Az hd) h];rfl
theorem ĩ v q t a:pJ į ["won","sure","back"] (ϒ$ Ao v q t) a=J (Ϗ$ CO$ Ao v q t) a:=by
 unfold Ao;split<;>split<;>exact nr rfl
def Ų(t:Ti) a:bf [t.D,Ϩ [] []] a=J (Ϗ į) a:=by
 have c:∀ a,Fb t.D (U 2) a=J (U t.w) a:=λa=>by unfold Ti.D;simp
 have b:∀ a,Gn (U t.w) (Ϩ [] []) a=J (Ϗ į) a:=λa=>nr rfl;unfold bf qc;simp[c,b]
section
variable(v:Vw)(P:gV)(σ:Da)(q:Int)(ss:List Sn)
def yfi t:fm [Xj v P,Qg ⟨q,ss⟩,t.D] σ=J (ϒ$ Ao v q t) σ:=by
 have f:∀ σ,Vb [14,15] "last_look" (Xj v P) σ=J _ σ:=λσ=>Sh (Fm rfl) rfl rfl;have k:∀ σ,Vb [14,15] "known" (Xj v P) σ=J _ σ:=λσ=>Sh (Fm rfl) rfl rfl;have d:∀ σ,Fb (Qg ⟨q,ss⟩) (U 0) σ=J (U q) σ:=λσ=>by unfold Qg;simp
 have e:∀ σ,Fb (Qg ⟨q,ss⟩) (U 2) σ=J (Ϩ [] []) σ:=λσ=>by unfold Qg;simp
 have c:∀ σ,Fb t.D (U 0) σ=J (U t.p) σ:=λσ=>by unfold Ti.D;simp
 have l:∀ σ,Fb t.D (U 2) σ=J (U t.w) σ:=λσ=>by unfold Ti.D;simp
 have g:∀ σ,Fb t.D (U 3) σ=J (U t.y) σ:=λσ=>by unfold Ti.D;simp
 have j:∀ σ,nC į (U t.w) (ώ []) σ=J (Ϗ į) σ:=λσ=>nr rfl;have i:=Ų t;unfold fm Ao qc;dsimp only;unfold bo qc;dsimp only;unfold Gm qc;dsimp only;generalize Ϩ [] []=m,Qg _=n,Xj v P=V at *;by_cases h:t.p=q
 ·rw[h]at c;by_cases a:t.y<=v.L<;>simp[d,e,c,i,f,g,h,a]
 ·have b:(t.p == q)=į:=by simp[h]
  by_cases a:t.y<=v.L<;>simp[d,e,c,i,b,f,k,l,g,j,h,a]
def v8 Z f A t:vJ [W1$ Xj v P,W1$ Qg ⟨q,ss⟩,W1 Z,W1$ U f,W1$ O σ.length,W1 t.D,A] (σ++[ύ []])=J (ϙ [W1$ Xj v P,W1$ Qg ⟨q,ss⟩,W1 Z,W1$ U$ f+fa v q t,W1$ O σ.length,W1 t.D,W1$ ϒ$ Ao v q t]) (σ++[ύ$ Ir [lo v q t]]):=by
 have l:=λσ=>yfi v P σ q ss t;have s:∀ σ,Fb t.D (U 1) σ=J (U t.a) σ:=λσ=>by unfold Ti.D;simp
 have u:∀ σ,Fb t.D (U 2) σ=J (U t.w) σ:=λσ=>by unfold Ti.D;simp
 have z:∀ σ,Fb t.D (U 3) σ=J (U t.y) σ:=λσ=>by unfold Ti.D;simp
 have st:=λk=>Ur (ρ:=k) (σ:=σ++[ύ []]) (d:=ϐ [ϒ$ Ao v q t,U t.a,U t.y]) (n:=σ.length) (w:=t.w) (kvs:=[]) ⋯ ⋯;rw[QA,show Df [] (.inl t.w) (ϐ [ϒ$ Ao v q t,U t.a,U t.y])=Ir [lo v q t]from rfl]at st;have r:=ĩ v q t;have p:∀ (f:Ev->M D) (c e g h i j:Option D) (x:D) (σ:Da),bw (λa b=>a+b) 3 f [c,e,g,W1 x,h,i,j] σ=zk [c,e,g,W1 x,h,i,j] (NB (λa b=>a+b) 3 [c,e,g,W1 x,h,i,j] x) (f [c,e,g,W1 x,h,i,j] σ):=λf c e g h i j x σ=>dM rfl;unfold vJ fa;generalize σ++[ύ []]=Y,σ++[ύ$ Ir [lo v q t]]=Z,Qg ⟨q,ss⟩=P,Xj v P=V,t.D=B,Ao v q t=o at *;generalize CO o=m at *;cases m<;>simp[l,s,u,z,st,r,p]
def V7(c:q=0\/q=1){s}(hd:s.ts=[]\/∃ t,s.ts=[t]/\t.w=0):lg [Xj v P,Qg ⟨q,ss⟩,s.D] σ=J (rd v q s).D σ:=by
 have d:∀ σ,Fb (Qg ⟨q,ss⟩) (U 0) σ=J (U q) σ:=λσ=>by unfold Qg;simp
 obtain⟨a,b,g⟩:∃ a b,qk (Cc 5) vJ (s.ts.map Ti.D) [W1$ Xj v P,W1$ Qg ⟨q,ss⟩,W1 s.D,W1$ U$ ow q s,W1$ O σ.length,ŋ,ŋ] (σ++[ύ []])=J (ϙ [W1$ Xj v P,W1$ Qg ⟨q,ss⟩,W1 s.D,W1$ U (rd v q s).f,W1$ O σ.length,a,b]) (σ++[ύ$ Ir (rd v q s).x]):=by
  unfold rd qC;rcases hd with e|⟨t,e,_⟩<;>rw[e]
  ·exact⟨ŋ,ŋ,by simp;rfl⟩
  ·refine⟨W1 t.D,W1$ ϒ$ Ao v q t,?_⟩;rw[db,tz];simp only[Be,uf];rw[v8 v P σ q ss _ _ _ t,Jc,Wj];simp
 have fz:ig σ (J (ϐ [U (rd v q s).f,O σ.length])$ σ++[ύ$ Ir (rd v q s).x])=J (rd v q s).D σ:=by
  unfold ig;dsimp only;rw[ja ⋯];have:fz σ.length (σ++[ύ$ Ir (rd v q s).x]) 6 (ϐ [U (rd v q s).f,O σ.length])=W1 (rd v q s).D:=by
   unfold fz;dsimp only;unfold Wl;unfold Wl;rw[(eJ (σ:=σ) (j:=[]) (m:=4)$ zX (rd v q s).x)];rfl
  rw[this]
 unfold lg sQ qc;simp[d,(s1 s),(s2 s),(Ļ c s),g,fz]
end
theorem C8{xs ys}(b:pa i a σ=J (ώ xs) σ)(c:pa j a σ=J (ώ ys) σ):gL (pa i) (pa j) a σ=J (WE (ώ xs)$ ώ ys) σ:=by
 unfold gL;rw[fj,b,Jc];unfold fZ;rw[fj,c,Jc];rfl
def zt{c:Type}(a:c->Int):List c->c->c
 |[],b=>b
 |x::xs,b=>if a x<a b then zt a xs x else zt a xs b
theorem RM{d:Type}{f:d->D}{a:d->Int}{g:Ev->M D}{rest:Ev}{e:Da}:∀ (xs:List d) (b:d),(∀ x∈xs,g (W1 (f x)::rest) e=J (U$ a x) e)->jy g rest (xs.map f) (f b) (a b) e=J (f$ zt a xs b) e
 |[],b,_=>rfl
 |x::xs,b,h=>by
  have i:=λy j=>h y$ la _ j;rw[db];unfold jy zt;rw[fj,fC$ h x ua,Jc];dsimp only;by_cases c:a x<a b
  ·rw[ja c,ja c];exact RM xs x i
  ·rw[ra c,ra c];exact RM xs b i
def OV{f}{key}{rest}{xs}{x:a}(h:∀ y∈x::xs,fe (W1 (f y)::rest) σ=J (U$ key y) σ):aD fe rest [ώ$ (x::xs).map f] σ=J (f$ zt key xs x) σ:=by
 rw[db];unfold aD;dsimp only;rw[fj,fC$ h x ua,Jc];exact RM xs x λy b=>h y$ la _ b
theorem qJ{x:List b}{a:b}(h:x[i]?=W1 a):x.take (i+1)=x.take i++[a]:=by
 rw[List.take_add_one,h];rfl
def RL(a:List$ List Rd):D:=ώ (a.map λb=>ώ$ b.map Rd.D)
def Vl(v:Vw)(a:List Pw):List$ List Rd:=a.map λp=>p.y.map$ rd v p.q
structure cy(ps:List Pw):Prop where
 n:ps.length<=3
 q:∀ p∈ps,p.q=0\/p.q=1
 f:∀ p∈ps,0<p.y.length/\p.y.length<=2
 d:∀ p∈ps,∀ s∈p.y,s.ts=[]\/∃ t,s.ts=[t]/\t.w=0
def P3 a:cl (RL a)=š:=Tp λd hd=>by obtain⟨b,_,rfl⟩:=Ya.mp hd;exact yb2 b
def zpi(h:cy ps) σ:ni [Xj v$ ps.map Qg] σ=J (RL$ Vl v ps) σ:=by
 have u:∀ σ,Vb [9,14,16] "pots" (Xj v _) σ=J (ώ$ ps.map Qg) σ:=λσ=>Sh (Fm rfl) rfl rfl;obtain⟨A,B,e,y,rfl,rfl⟩:=eD (S:=.seq _) (xs:=ps.map Qg) (tg:=Cc 2) (body:=FN) (ρ:=[W1$ Xj v$ ps.map Qg,W1$ O σ.length,ŋ]) (σ:=σ++[ϑ []]) (λi ρ c=>∃ y,ρ=[W1$ Xj v$ ps.map Qg,W1$ O σ.length,y]/\c=σ++[ϑ ((Vl v$ ps.take i).map λa=>ώ$ a.map Rd.D)]) (by have:=h.n;simp;lia) (ϔ rfl) (λi d ρ c hd w=>by
  obtain⟨y,rfl,rfl⟩:=w;rw[Ta]at hd;obtain⟨p,o,rfl⟩:=Ka.mp hd;have g:=ya o;obtain⟨q,b⟩:=p;have l:∀ c,Mi (uk (Oo$ Fh$ Eb Fb (pa 2)$ eC$ U 1) [0,2] (Cc 0) wl$ we 3 lg []$ Ba (pa 2)$ Ba (pa 3)$ Ba (pa 0) Za) [W1$ Xj v$ ps.map Qg,W1$ O σ.length,W1$ Qg ⟨q,b⟩] c=J (ώ$ (b.map$ rd v q).map Rd.D) c:=λc=>by
   rw[Bc];refine Bt (s:=.seq$ b.map Sn.D) (ix:=[0,2]) Sn.D _ (by unfold Qg;simp) (λi G=>eb W1$ dr b _ i) (by have:=(h.f _ g).2;dsimp only at this;lia) (λs x j=>?_) (λs G=>MI _);have r:=V7 v (ps.map Qg) (c++j) q b (h.q _ g)$ h.d _ g s x;rw[show (Rd.D ∘ rd v q) s=(rd v q s).D from rfl];generalize c++j=Y,s.D=F,Qg ⟨q,b⟩=t,Xj v (ps.map Qg)=V,(rd v q s).D=R at *;simp[r]
  have k:=PM (σ:=σ) (xs:=(Vl v$ ps.take i).map λa=>ώ$ a.map Rd.D) (d:=ώ$ (b.map$ rd v q).map Rd.D) (by have:=h.n;unfold Vl;simp;lia);have z:∀ m,Dt Ei m (O σ.length) (σ++[ϑ ((Vl v$ ps.take i).map λa=>ώ$ a.map Rd.D)])=(m$ σ++[ϑ ((Vl v$ ps.take i).map λa=>ώ$ a.map Rd.D)]).bind (Ei$ O σ.length):=λm=>eF (xs:=(Vl v$ ps.take i).map λa=>ώ$ a.map Rd.D) (by unfold wf df;simp);rw[show ((Vl v$ ps.take i).map λa=>ώ$ a.map Rd.D)++[ώ$ (b.map$ rd v q).map Rd.D]=(Vl v$ ps.take$ i+1).map λa=>ώ$ a.map Rd.D by rw[qJ o];unfold Vl;simp]at k;refine⟨[W1$ Xj v$ ps.map Qg,W1$ O σ.length,W1$ Qg ⟨q,b⟩],[W1$ Xj v$ ps.map Qg,W1$ O σ.length,W1$ Qg ⟨q,b⟩],_,rfl,?_,_,rfl,rfl⟩;generalize Qg ⟨q,b⟩=t,Xj v (ps.map Qg)=V,σ++[ϑ ((Vl v$ ps.take i).map λa=>ώ$ a.map Rd.D)]=Y,σ++[ϑ ((Vl v$ ps.take$ i+1).map λa=>ώ$ a.map Rd.D)]=Z,(b.map$ rd v q).map Rd.D=C at *;simp[z,l,k,-Bo]) ⟨ŋ,rfl,by simp[Vl]⟩
 rw[Ja,Uc]at e;have fz:ig σ (J (O σ.length)$ σ++[ϑ ((Vl v ps).map λa=>ώ$ a.map Rd.D)])=J (RL$ Vl v ps) σ:=xz$ P3$ Vl v ps;have e:qk (Cc 2) FN (ps.map Qg) [W1$ Xj v$ ps.map Qg,W1$ O σ.length,ŋ] (σ++[ϑ []])=_:=e;unfold ni OR qc;dsimp only;generalize ps.map Qg=P,Xj v (ps.map Qg)=V,σ++[ϑ ((Vl v ps).map λa=>ώ$ a.map Rd.D)]=Z,RL (Vl v ps)=E at *;simp[u,e,fz]
abbrev Rx:=Rd × Nat
def cD(c:List Rx):D:=ώ (c.map λp=>U p.2)
theorem HI c:cl (cD c)=š:=Tp λd hd=>by obtain⟨p,_,rfl⟩:=Ya.mp hd;rfl
noncomputable def ext(a:List Rd)(c:List Rx):List$ List Rx:=a.zipIdx.map λp=>c++[p]
def vn(b:List$ List Rd)(a:List$ List Rx):List$ List Rx:=b.foldl (λa c=>a.flatMap$ ext c) a
def Pk:List (List Rd)->List Rx->Prop
 |[],[]=>True
 |rs::a,p::c=>rs[p.2]?=W1 p.1/\Pk a c
 |_,_=>False
theorem Pk.len:∀ {a:List$ List Rd} {c:List Rx},Pk a c->c.length=a.length
 |[],[],_=>rfl
 |_::a,_::c,h=>eb (·+ 1) (Pk.len h.2)
 |[],_::_,h=>h.elim
 |_::_,[],h=>h.elim
theorem gM:∀ (b:List$ List Rd) {acc:List$ List Rx} {c:List Rx},c∈vn b acc->∃ a∈acc,∃ r,c=a++r/\Pk b r
 |[],acc,c,h=>⟨c,h,[],by simp,trivial⟩
 |rs::b,acc,c,h=>by
  obtain⟨j,d,r,rfl,g⟩:=gM b h;obtain⟨a,e,i⟩:=Nw.mp d;obtain⟨p,f,rfl⟩:=Ya.mp i;exact⟨a,e,p::r,by simp,List.mem_zipIdx_iff_getElem?.mp f,g⟩
theorem WJ(b:List Rd):∀ a:List$ List Rx,(a.flatMap$ ext b).length=a.length * b.length
 |[]=>by simp
 |c::a=>by
  rw[de,Kb,WJ b a,Ua,Nat.succ_mul];unfold ext;simp;lia
theorem pO:∀ (a:List$ List Rd) (acc:List$ List Rx),(∀ b∈a,b.length<=2)->(vn a acc).length<=acc.length * 2 ^ a.length
 |[],acc,_=>by simp[vn]
 |b::a,acc,h=>by
  have:=pO a (acc.flatMap$ ext b) λr c=>h r$ la _ c;rw[WJ]at this;refine zb this ?_;rw[Ua,Nat.pow_succ,Gp,Nat.mul_comm _ 2,<-Gp,<-Gp];exact Nat.mul_le_mul_right _$ Nat.mul_le_mul_left _$ h b ua
theorem FR:∀ (a:List$ List Rd) {acc:List$ List Rx},(∀ b∈a,0<b.length)->acc≠[]->vn a acc≠[]
 |[],acc,_,h=>h
 |b::a,acc,h,d=>FR a (λr e=>h r$ la _ e) λz=>by
  have:=eb List.length z;rw[WJ]at this;have c:=List.length_pos_iff.mpr d;have:=Nat.mul_pos c$ h b ua;simp at *;lia
def uR(h:n<=3):2 ^ n<=8:=by
 have:n=0\/n=1\/n=2\/n=3:=by lia
 rcases this with rfl|rfl|rfl|rfl<;>decide
def IsL(a:Nat)(σ:Da)(d:D)(xs:gV):Prop:=d=ώ xs\/∃ n,d=O n/\a<=n/\df σ n=W1 xs
def ztw{xs}(h:IsL σ.length (σ++ό) d xs)(a:zf xs=š):ig σ (J d$ σ++ό)=J (ώ xs) σ:=by
 rcases h with rfl|⟨n,rfl,e,b⟩
 ·unfold ig;dsimp only;rw[ja ⋯,Az (show cl _=š by rw[cl];exact a)]
 ·have c:=SI b;unfold ig;dsimp only;rw[ja ⋯];have:fz σ.length (σ++ό) 6 (O n)=W1 (ώ xs):=by
   unfold fz;rw[ra ⋯];dsimp only;rw[ra ⋯,c];dsimp only;rw[NH (λd hd=>Az hd) a];rfl
  rw[this]
def E3 a c:(ext a c).map cD=(List.range a.length).map λ(i:Nat)=>ώ$ c.map (λp=>U p.2)++[U i]:=by
 have e:a.zipIdx.map (·.2)=List.range a.length:=by rw[List.zipIdx_map_snd,List.range_eq_range']
 rw[<-e];unfold ext cD;simp only[Bc]
 simp_all
def l3(s:a.length<=2)(r:c.length<=3)(t:ys.length<=100) R C d:jJ [R,C,W1$ ώ$ a.map Rd.D,W1$ O d.length,W1$ cD c] (d++[ϑ ys])=J (ϙ [R,C,W1$ ώ$ a.map Rd.D,W1$ O d.length,W1$ cD c]) (d++[ϑ$ ys++(ext a c).map cD]):=by
 have g:∀ (i:Nat) b,Ji (cD c) (ώ [U i]) b=J _ b:=λi b=>by unfold cD;rw[YI (by unfold Yf;simp;lia)]
 have h:∀ b,tq [ώ$ a.map Rd.D] b=J (U a.length) b:=λb=>by simp
 have l:∀ b,Mi (uk (Oo$ Wr$ Pl tq$ Ba (pa 2) Za) [4] (Cc 0) wl$ Eb Ji (pa 2)$ Fn$ Ba (pa 0) Za) [R,C,W1$ ώ$ a.map Rd.D,W1$ O d.length,W1$ cD c] b=J (ώ$ (ext a c).map cD) b:=λb=>by
  have n:qu (U a.length) b=J (.seq$ (List.range a.length).map λ(i:Nat)=>U i) b:=by
   rw[AJ ⋯ ⋯];rfl
  have o:Wr (Pl tq$ Ba (pa 2) Za) [R,C,W1$ ώ$ a.map Rd.D,W1$ O d.length,W1$ cD c] b=J (.seq$ (List.range a.length).map λ(i:Nat)=>U i) b:=by
   generalize a.map Rd.D=f at *;simp[h,n]
  rw[E3];exact Bt (ix:=[4]) (xs:=List.range a.length) (fe:=Eb Ji (pa 2)$ Fn$ Ba (pa 0) Za) (λ(i:Nat)=>U i) (λ(i:Nat)=>ώ$ c.map (λp=>U p.2)++[U i]) o (λi u=>eb W1$ dr (List.range a.length) _ i) (by simp;lia) (λi u j=>by
   have:=g i$ b++j;generalize cD c=e at *;simp[this]) (λi u=>by rw[cl,nM,show zf (c.map λp=>U p.2)=š from HI c];rfl)
 have ex:=SW (σ:=d) (ys:=ys) (zs:=(ext a c).map cD) (by unfold ext;simp;lia);have k:∀ m,Dt xw m (O d.length) (d++[ϑ ys])=(m$ d++[ϑ ys]).bind (xw$ O d.length):=λm=>eF (xs:=ys) (by unfold wf df;simp);unfold jJ;generalize a.map Rd.D=f,(ext a c).map cD=q,cD c=e at *;simp[k,l,ex,-Bo]
def O1{xs}(h:IsL c σ d xs)(a:∀ σ,pa i ρ σ=J d σ) ό:∃ S,Fh (pa i) ρ (σ++ό)=J S (σ++ό)/\(S=.seq xs\/∃ n,S=.Ol n/\∀ ό,df (σ++ό) n=W1 xs):=by
 rcases h with rfl|⟨n,rfl,_,b⟩
 ·exact⟨.seq xs,by rw[UH,a];simp,ϔ rfl⟩
 ·have g:∀ ό,df (σ++ό) n=W1 xs:=λό=>by
   have e:=SI b;unfold df;rw[jb (aa.mp e).1,e]
  refine⟨.Ol n,?_,ϕ ⟨n,rfl,g⟩⟩;rw[UH,a,Jc];show (match df _ n with|some _=>_|none=>_)=_;rw[g]
def ŗ(l:a.length<=2){acc:List$ List Rx}(t:acc.length<=8)(u:∀ c∈acc,c.length<=3)(p:σ0<=σ.length)(hd:IsL σ0 σ d$ acc.map cD) R v f:∃ j,nF [R,W1 d,W1$ ώ$ a.map Rd.D,v,f] σ=J (ϙ [R,W1$ O σ.length,W1$ ώ$ a.map Rd.D,W1$ O σ.length,j]) (σ++[ϑ$ (acc.flatMap$ ext a).map cD])/\IsL σ0 (σ++[ϑ$ (acc.flatMap$ ext a).map cD]) (O σ.length) ((acc.flatMap$ ext a).map cD):=by
 obtain⟨S,o,s⟩:=O1 hd (ρ:=[R,W1 d,W1$ ώ$ a.map Rd.D,W1$ O σ.length,f]) (i:=1) (λA=>rfl) [ϑ []];obtain⟨w,x,m,j,rfl,rfl⟩:=eD (S:=S) (xs:=acc.map cD) (tg:=Cc 4) (body:=jJ) (ρ:=[R,W1 d,W1 _,W1 _,f]) (σ:=σ++[ϑ []]) (λi ρ k=>∃ y,ρ=[R,W1 d,W1$ ώ$ a.map Rd.D,W1$ O σ.length,y]/\k=σ++[ϑ$ ((acc.take i).flatMap$ ext a).map cD]) (by simp;lia) (by
   rcases s with h|⟨n,q,r⟩
   ·exact ϔ h
   ·exact ϕ ⟨n,q,λi ρ k g=>by obtain⟨_,_,rfl⟩:=g;exact r _⟩) (λi z ρ k e g=>by
  obtain⟨y,rfl,rfl⟩:=g;rw[Ta]at e;obtain⟨c,b,rfl⟩:=Ka.mp e;have st:=l3 l (u c$ ya b) (ys:=((acc.take i).flatMap$ ext a).map cD) (by rw[Ja,WJ,Tc];exact zb (Nat.mul_le_mul (zb (Nat.min_le_right ..) t) l) ⋯) R (W1 d) σ;rw[show ((acc.take i).flatMap$ ext a).map cD++(ext a c).map cD=((acc.take$ i+1).flatMap$ ext a).map cD by rw[qJ b];simp]at st;exact⟨_,_,_,rfl,st,_,rfl,rfl⟩) ⟨f,rfl,by simp⟩
 rw[Ja,Uc]at m;refine⟨j,?_,ϕ ⟨σ.length,rfl,p,bO _⟩⟩;unfold nF;simp[o,m,-UH]
def w6(C:b.length<=3)(q:∀ f∈b,f.length<=2) σ:Qf [RL b] σ=J (ώ$ (vn b [[]]).map cD) σ:=by
 obtain⟨y,z,n,d,o,k,l,ό,rfl,rfl,hd⟩:=eD (S:=.seq$ b.map λf=>ώ _) (xs:=b.map λf=>ώ$ f.map Rd.D) (tg:=Cc 2) (body:=nF) (ρ:=[W1$ RL b,W1 _,ŋ,ŋ,ŋ]) (σ:=σ) (λi ρ p=>∃ d o k l ό,ρ=[W1$ RL b,W1 d,o,k,l]/\p=σ++ό/\IsL σ.length p d ((vn (b.take i) [[]]).map cD)) (by simp;lia) (ϔ rfl) (λi A ρ p h s=>by
  obtain⟨d,o,k,l,ό,rfl,rfl,hd⟩:=s;rw[Ta]at h;obtain⟨f,g,rfl⟩:=Ka.mp h;have B:=(aa.mp g).1;have tk:∀ r∈b.take i,r.length<=2:=λr v=>q r$ Vi v;obtain⟨E,st,j⟩:=ŗ (q f$ ya g) (acc:=vn (b.take i) [[]]) (zb (pO _ _ tk)$ by rw[Ua,vg,bH,mK];exact uR (by rw[Tc];lia)) (λc m=>by
   obtain⟨a,t,r,rfl,u⟩:=gM _ m;have:a=[]:=by simpa using t
   subst this;rw[ui,u.len,Tc];lia) (σ0:=σ.length) ⋯ hd (W1$ RL b) k l
  have e:(vn (b.take i) [[]]).flatMap (ext f)=vn (b.take$ i+1) [[]]:=by rw[qJ g];unfold vn;rw[vv];rfl
  rw[e]at st j;exact⟨_,_,_,rfl,st,_,_,_,_,ό++[ϑ$ (vn (b.take$ i+1) [[]]).map cD],rfl,by rw[wv],j⟩) ⟨ώ [ώ []],ŋ,ŋ,ŋ,[],rfl,by simp,ϔ rfl⟩
 rw[Ja,Uc]at hd;have fz:=ztw hd (Tp λx w=>by obtain⟨c,_,rfl⟩:=Ya.mp w;exact HI c);have n:qk (Cc 2) nF (b.map λf=>ώ$ f.map Rd.D) [W1$ RL b,W1$ ώ [ώ []],ŋ,ŋ,ŋ] σ=_:=n;unfold Qf OU qc;unfold RL at *;simp[n,fz]
theorem dU:∀ {a:List$ List Rd} {c:List Rx},Pk a c->∀ x∈a.zip c,x.1[x.2.2]?=W1 x.2.1
 |[],[],_,x,h=>by cases h
 |rs::a,p::c,h,x,b=>by
  rcases La.mp b with rfl|b
  ·exact h.1
  ·exact dU h.2 x b
 |[],_::_,h,_,_=>h.elim
 |_::_,[],h,_,_=>h.elim
theorem pR:∀ {a:List$ List Rd} {c:List Rx},Pk a c->(a.zip c).map (λx=>x.2.1.D)=c.map λp=>p.1.D
 |[],[],_=>rfl
 |rs::a,p::c,h=>by rw[List.zip_cons_cons,db,db,pR h.2]
 |[],_::_,h=>h.elim
 |_::_,[],h=>h.elim
def U4(u:e.length<=3)(k:Pk e c) σ:Ge [RL e,cD c] σ=J (ώ$ c.map λp=>p.1.D) σ:=by
 have t:=k.len;have v:(e.zip c).length=e.length:=by rw[wy];lia
 have m:zf (c.map λp=>p.1.D)=š:=Tp λd hd=>by obtain⟨p,_,rfl⟩:=Ya.mp hd;exact MI _
 have l:=Ö (xs:=e.zip c) (ix:=[]) (fe:=Eb Fb (pa 0)$ pa 1) (ρ:=[W1$ RL e,W1$ cD c]) (λx=>ώ$ x.1.map Rd.D) (λx=>U x.2.2) (λx=>x.2.1.D) (C8 (i:=0) (j:=1) (σ:=σ) (xs:=e.map λo=>ώ _) (ys:=c.map λp=>U p.2) rfl rfl) (λi j h=>by
  show WE _ (ώ$ c.map λp=>U p.2) i (σ++j)=_;have a:wf (σ++j) (ώ$ e.map λo=>ώ$ o.map Rd.D)=W1 _:=rfl;have b:wf (σ++j) (ώ$ c.map λp=>U p.2)=W1 (c.map λp=>U p.2):=rfl;unfold WE;simp only[a,b,Ta];by_cases q:i<e.length
  ·have f:e[i]?=W1 e[i]:=aa.mpr ⟨q,rfl⟩;have n:c[i]?=W1 (c[i]'⋯):=aa.mpr ⟨by lia,rfl⟩;have g:(e.zip c)[i]?=W1 (e[i],c[i]'⋯):=List.getElem?_zip_eq_some.mpr ⟨f,n⟩;rw[f,n,g];rfl
  ·have f:e[i]?=ŋ:=Mb.mpr ⋯;have g:(e.zip c)[i]?=ŋ:=Mb.mpr ⋯;rw[f,g];simp
   lia) ⋯ (λx r j=>by
  have s:∀ σ,Fb (ώ$ x.1.map Rd.D) (U x.2.2) σ=J (x.2.1.D) σ:=λσ=>nE$ kq (by rw[Ta,dU k x r];rfl);have:=s$ σ++j;simp[this]) (λx d=>MI _)
 rw[pR k]at l;unfold Ge qc;simp[l,m,-Bo]
def xU(h:f b a=J (Ϩ (A.map (·.1)) (A.map (·.2))) a):Uw f b a=J (Kq A) a:=by
 have z:∀ A:Kv,(A.map (·.1)).zip (A.map (·.2))=A:=λA=>by
  induction A with
  |nil=>rfl
  |cons x r c=>simp_all
 show rc _ sH a=_;rw[fj,h,Jc];unfold sH
 simp_all
theorem sO(h:f b a=J (Ϩ [] []) a):Kk (Uw f) tg body b a=J (ϙ b) a:=by
 rw[wt,xU (A:=[]) h,Qj];rfl
theorem kL(h:f e c=J (Ϩ [k] [v]) c)(i:tg (ϐ [Nv k,v]) e=W1 a)(g:body a c=J (ϙ b) d):Kk (Uw f) tg body e c=J (ϙ b) d:=by
 rw[wt,xU (A:=[(k,v)]) h,Qj];show Do _ tg body _ 0 e c=_;rw[mq rfl i,g,Jc,Wj];exact Wx rfl
abbrev Gr:=List$ Int × List Lo
def gD(g:Gr):D:=Ϩ (g.map λp=>.inl p.1) (g.map λp=>ώ$ p.2.map Lo.D)
def ą(a:List Lo):zf (a.map Lo.D)=š:=Tp λd hd=>by obtain⟨t,_,rfl⟩:=Ya.mp hd;exact IV t
noncomputable def g7:List Lo->Gr
 |[]=>[]
 |l::a=>[(0,l::a)]
def k7(n:Nat):List Lo->Kv
 |[]=>[]
 |_::_=>[(.inl 0,O n)]
def ybl{xs}(h:σ[n]?=W1 (ϑ xs))(a:xs.length<1000):Ei (O n) [d] σ=J Ϛ (σ.set n$ ϑ$ xs++[d]):=by
 unfold Ei df;simp only[h];rw[ja (show _<Yf from a)]
def LW(b:Da)(a:List Lo)(c:Da):Prop:=∃ j n,c=b++ύ (k7 (b.length+1+n) a)::j/\(a=[]\/j[n]?=W1 (ϑ$ a.map Lo.D))
def YT(n:Nat):(σ++x::j)[σ.length+1+n]?=j[n]?:=by
 rw[Gb ⋯,show σ.length+1+n - σ.length=n+1 by lia,List.getElem?_cons_succ]
def zvn(h:LW b c q)(A:c.length<=100) l R rd:∃ k,iU [R,W1$ O b.length,rd,W1$ U 0,W1 l.D] q=J (ϙ [R,W1$ O b.length,rd,W1$ U 0,W1 l.D]) k/\LW b (c++[l]) k:=by
 obtain⟨j,n,rfl,y⟩:=h;have t:∀ e,IA WA e (O b.length) (b++ύ (k7 (b.length+1+n) c)::j)=(e$ b++ύ (k7 (b.length+1+n) c)::j).bind (WA$ O b.length):=λe=>by
  have:Rf (b++ύ (k7 (b.length+1+n) c)::j) (O b.length)=W1 (k7 (b.length+1+n) c):=by unfold Rf;simp
  unfold IA;rw[this];rfl
 have v:(b++ύ (k7 (b.length+1+n) c)::j).length=b.length+1+j.length:=by simp;omega
 have s:∀ (g:Kv) (j:Da),(b++ύ g::j)[b.length]?=W1 (ύ g):=λg j=>by simp
 have i:∀ (g f:Kv) (j:Da),(b++ύ g::j).set b.length (ύ f)=b++ύ f::j:=λg f j=>by
  rw[Le _ _$ va _,Nat.sub_self];rfl
 obtain⟨m,p,z⟩:∃ m,(j++[ϑ []])[m]?=W1 (ϑ$ c.map Lo.D)/\WA (O b.length) [U 0,O$ b.length+1+j.length] (b++ύ (k7 (b.length+1+n) c)::(j++[ϑ []]))=J (O$ b.length+1+m) (b++ύ [(.inl 0,O (b.length+1+m))]::(j++[ϑ []])):=by
  unfold WA;simp only[Lq,s];cases c with
  |nil=>
   refine⟨j.length,by simp,?_⟩;simp[k7,Qn,Df,Yf,i]
  |cons x r=>
   have h:=y.resolve_left ⋯;refine⟨n,by rw[jb (aa.mp h).1];exact h,?_⟩;simp[k7,Qn,Yf]
 have a:=(YT (σ:=b) (x:=ύ [(.inl 0,O (b.length+1+m))]) m).trans p;have u:∀ e,Dt Ei e (O$ b.length+1+m) (b++ύ [(.inl 0,O (b.length+1+m))]::(j++[ϑ []]))=(e _).bind (Ei$ O$ b.length+1+m):=λe=>eF (xs:=c.map Lo.D) (by unfold wf df;simp[a]);have o:=ybl (d:=l.D) a (by simp;omega);rw[Le _ _ ⋯,show b.length+1+m - b.length=m+1 by omega,Be]at o;have w:(b++ύ (k7 (b.length+1+n) c)::j)++[ϑ []]=b++ύ (k7 (b.length+1+n) c)::(j++[ϑ []]):=by simp
 refine⟨b++ύ [(.inl 0,O (b.length+1+m))]::(j++[ϑ []]).set m (ϑ$ c.map Lo.D++[l.D]),?_,(j++[ϑ []]).set m$ ϑ$ c.map Lo.D++[l.D],m,by cases c<;>rfl,ϕ ?_⟩
 ·simp[t,z,u,o,v,w]
 ·rw[Ga (aa.mp p).1];simp
def Î(b:a=[]\/j[n]?=W1 (ϑ$ a.map Lo.D)):ig σ (J (O σ.length)$ σ++ύ (k7 (σ.length+1+n) a)::j)=J (gD$ g7 a) σ:=by
 unfold ig;dsimp only;rw[ja ⋯];have:fz σ.length (σ++ύ (k7 (σ.length+1+n) a)::j) 6 (O σ.length)=W1 (gD$ g7 a):=by
  cases a with
  |nil=>exact eJ rfl
  |cons l r=>
   have f:fz σ.length (σ++ύ [(.inl 0,O (σ.length+1+n))]::j) 5 (O$ σ.length+1+n)=W1 (ώ$ (l::r).map Lo.D):=by
    unfold fz;rw[ra ⋯];dsimp only;rw[ra ⋯,YT,b.resolve_left ⋯];dsimp only;rw[NH (λd hd=>Az hd)$ ą _];rfl
   have e:(σ++ύ [(.inl 0,O (σ.length+1+n))]::j)[σ.length]?=W1 (ύ [(.inl 0,O (σ.length+1+n))]):=by simp
   show fz σ.length (σ++ύ [(.inl 0,O _)]::j) 6 _=_;unfold fz;dsimp only;rw[ra$ Bd _,e];dsimp only;rw[show List.map (λx:jc × D=>x.2) [(.inl 0,O _)]=[O _]from rfl,Wl,f];rfl
 rw[this]
def One(x:List Lo):Prop:=x=[]\/∃ l,x=[l]/\l.w=0
def Xv(a:List Rd):Gr:=g7$ a.flatMap Rd.x
theorem yK:∀ {a:List Rd},(∀ r∈a,One r.x)->(a.flatMap Rd.x).length<=a.length
 |[],_=>by simp
 |r::a,h=>by
  have c:r.x.length<=1:=by rcases h r ua with e|⟨l,e,_⟩<;>rw[e]<;>simp
  have d:=yK λx b=>h x$ la _ b;rw[de,Kb,Ua];lia
def Z0(E:rs.length<=3)(y:∀ r∈rs,One r.x) σ:Bg [ώ$ rs.map Rd.D] σ=J (gD$ Xv rs) σ:=by
 obtain⟨B,C,c,m,o,p,rfl,j,n,rfl,u⟩:=eD (xs:=rs.map Rd.D) (tg:=Cc 2) (body:=aQ) (ρ:=[W1 _,W1 _,ŋ,ŋ,ŋ]) (σ:=σ++[ύ []]) (λi ρ q=>∃ m o p,ρ=[W1 _,W1 _,m,o,p]/\LW σ ((rs.take i).flatMap Rd.x) q) (by simp;lia) (ϔ rfl) (λi d ρ q hd A=>by
  obtain⟨m,o,p,rfl,t⟩:=A;rw[Ta]at hd;obtain⟨r,a,rfl⟩:=Ka.mp hd;have f:∀ σ,Fb r.D (U 1) σ=J (Ϩ ((Ir r.x).map (·.1)) ((Ir r.x).map (·.2))) σ:=λσ=>by unfold Rd.D;simp
  have b:(rs.take$ i+1).flatMap Rd.x=(rs.take i).flatMap Rd.x++r.x:=by rw[qJ a];simp
  rcases y r (ya a)with e|⟨l,e,w⟩<;>rw[e]at f b
  ·rw[be]at b;exact⟨_,_,q,rfl,sO (by simp[f,Ir]),_,_,_,rfl,b ▸ t⟩
  ·obtain⟨s,z,g⟩:=zvn t (zb (yK λr h=>y r$ Vi h)$ by rw[Tc];lia) l (W1$ ώ$ rs.map Rd.D) (W1 r.D);exact⟨_,_,s,rfl,kL (k:=.inl 0) (v:=l.D) (by simp[f,Ir,w]) rfl z,_,_,_,rfl,b ▸ g⟩) ⟨ŋ,ŋ,ŋ,rfl,[],0,rfl,ϔ rfl⟩
 rw[Ja,Uc]at u c;have fz:=Î (σ:=σ) u;have c:qk (Cc 2) aQ (rs.map Rd.D) [W1$ ώ$ rs.map Rd.D,W1$ O σ.length,ŋ,ŋ,ŋ] (σ++[ύ []])=_:=c;unfold Bg vQ qc;rw[show g7 _=Xv rs from rfl]at fz;simp[c,fz,-wt]
noncomputable def ar(l:Lo):Bool:=l.k == "open"
def oD:Option Int->D
 |none=>Ϛ
 |some i=>U i
theorem xP F:cl (oD F)=š:=by cases F<;>rfl
def Rs(a:List Lo):List$ Option Int:=(a.filter ar).map λl=>W1 l.d
def cm(F:Option Int)(e:Int)(l:Lo):Bool:=if ar l then (match F with
 |none=>š
 |some f=>decide (f > l.d))else (l.k == "hangs") && (match F with
 |none=>į
 |some f=>decide (f - 1+e<l.d))
def An(a:List Lo)(F:Option Int)(e:Int):Int:=((a.filter$ cm F e).map Lo.v).sum
def mf(a:List Lo)(e:Int):Option Int:=zt (λx=>An a x e) (Rs a) ŋ
section
variable(l:Lo)(σ:Da)
def l0:Fb l.D (U 0) σ=J (ϒ l.k) σ:=by unfold Lo.D;simp
def l1:Fb l.D (U 1) σ=J (U l.v) σ:=by unfold Lo.D;simp
def l2:Fb l.D (U 2) σ=J (U l.d) σ:=by unfold Lo.D;simp
end
section
variable{ls:List Lo}(hl:ls.length<=100)(e:Int)(σ:Da)
def ż l F:Xf [l.D,oD F,U e] σ=J (Ϗ$ cm F e l) σ:=by
 have b:=l0 l;have c:=l2 l;have o:(l.k == ("open"))=ar l:=rfl;unfold Xf cm qc;dsimp only;generalize ar l=B,l.D=L at *;generalize a:(l.k == ("hangs"))=H at *;cases F with
 |none=>cases B<;>cases H<;>simp[b,o,a,oD]
 |some f=>
  cases B<;>cases H<;>simp[b,c,o,a,oD]
include hl
theorem zlm:ej [ώ$ ls.map Lo.D] σ=J (ώ$ (ŋ::Rs ls).map oD) σ:=by
 have l:=gF (src:=Fh$ pa 0) (ρ:=[W1$ ώ$ ls.map Lo.D]) (σ:=σ) (s:=.seq _) (ix:=[]) (fi:=eT$ Eb Zi (Eb Fb (pa 0)$ eC$ U 0)$ eC$ ϒ "open") (fe:=Eb Fb (pa 0)$ eC$ U 2) Lo.D (λl=>U l.d) ar ⋯ (λi e=>eb W1$ dr ls _ i) ⋯ (λl e j=>by
  have o:(l.k == ("open"))=ar l:=rfl;exact⟨by simp[(l0 l _),o],λe=>by simp[(l2 l _)]⟩) (λe e e=>rfl)
 rw[show (ls.filter ar).map _=(Rs ls).map oD by unfold Rs;rw[Bc];rfl]at l;have c:(Rs ls).length<=100:=by unfold Rs;rw[Ja];exact zb (Uf ..) hl
 have a:∀ σ,Ji (ώ [Ϛ]) (ώ$ (Rs ls).map oD) σ=J (ώ$ (ŋ::Rs ls).map oD) σ:=λσ=>by rw[YI (by unfold Yf;simp;lia)];rfl
 have b:zf ((ŋ::Rs ls).map oD)=š:=Tp λd hd=>by obtain⟨t,_,rfl⟩:=Ya.mp hd;exact xP t
 unfold ej qc;dsimp only
 simp_all
theorem rQ F:ze [ώ$ ls.map Lo.D,oD F,U e] σ=J (U$ An ls F e) σ:=by
 have l:=gF (src:=Fh$ pa 0) (ρ:=[W1$ ώ$ ls.map Lo.D,W1$ oD F,W1$ U e]) (σ:=σ) (s:=.seq _) (ix:=[1,2]) (fi:=eT$ we 3 Xf []$ Ba (pa 0)$ Ba (pa 2)$ Ba (pa 3) Za) (fe:=Eb Fb (pa 0)$ eC$ U 1) Lo.D (λl=>U l.v) (cm F e) ⋯ (λi a=>eb W1$ dr ls _ i) ⋯ (λl a j=>by
  exact⟨by simp[(ż e _ l F)],λa=>by simp[(l1 l _)]⟩) (λa a a=>rfl)
 rw[show (ls.filter _).map _=((ls.filter _).map Lo.v).map U by rw[Bc];rfl]at l;have s:=BK ((ls.filter$ cm F e).map Lo.v) σ;unfold ze An qc;dsimp only
 simp_all
theorem Ŝ:Ve [ώ$ ls.map Lo.D,U e] σ=J (oD$ mf ls e) σ:=by
 have a:=zlm hl;have m:=OV (f:=oD) (key:=λx=>An ls x e) (x:=ŋ) (xs:=Rs ls) (fe:=we 3 ze []$ Ba (pa 1)$ Ba (pa 0)$ Ba (pa 2) Za) (rest:=[W1$ ώ$ ls.map Lo.D,W1$ U e]) (σ:=σ) (λx c=>by
  simp[(λσ=>rQ hl e σ x)])
 rw[show zt _ _ ŋ=mf ls e from rfl]at m;have b:=xP$ mf ls e;unfold Ve VY
 simp_all
end
def r0(r:Rd) a:Fb r.D (U 0) a=J (U r.f) a:=by unfold Rd.D;simp
def FK(e:Int)(g:Gr):Kv:=g.map λp=>(.inl p.1,oD (mf p.2 e))
def nW e g:zf ((FK e g).map (·.2))=š:=Tp λd hd=>by
 unfold FK at hd;rw[Bc]at hd;obtain⟨p,_,rfl⟩:=Ya.mp hd;exact xP _
def DL(g:Gr):Prop:=g=[]\/∃ a,g=[(0,a)]/\a.length<=100
def gs(e:Int)(g:Gr):Int:=(g.map λp=>An p.2 (mf p.2 e) e).sum
def val(e:Int)(a:List Rd):Int:=(a.map Rd.f).sum+gs e (Xv a)
def E9{c:List Rd}(K:c.length<=3)(G:DL g) e d F(C:∀ p∈g,zj F (U p.1) d=J (oD$ mf p.2 e) d):Xl [ώ$ c.map Rd.D,gD g,F,U e] d=J (U$ (c.map Rd.f).sum+gs e g) d:=by
 have l:=Bt (src:=Fh$ pa 0) (ρ:=[W1$ ώ$ c.map Rd.D,W1$ gD g,W1 F,W1$ U e,ŋ,ŋ,ŋ]) (σ:=d) (s:=.seq _) (ix:=[]) (fe:=Eb Fb (pa 0)$ eC$ U 0) Rd.D (λr=>U r.f) ⋯ (λi L=>eb W1$ dr c _ i) ⋯ (λr L j=>by
  have:=r0 r$ d++j;simp[this]) (λL L=>rfl)
 rw[show c.map (λr=>U r.f)=(c.map Rd.f).map U by rw[Bc];rfl]at l;have s1:=BK (c.map Rd.f) d;have I:∀ f o q t u m n (x:D) (d:Da),bw (λa b=>a+b) 4 f [o,q,t,u,W1 x,m,n] d=zk [o,q,t,u,W1 x,m,n] (NB _ 4 [o,q,t,u,W1 x,m,n] x) _:=λL L L L L L L L L=>dM rfl;obtain⟨m,n,H⟩:∃ m n,Kk (Uw$ pa 1) (vj 2$ Nf (Cc 5)$ Nf (Cc 6) Lj) zQ [W1 _,W1$ gD g,W1 F,W1 _,W1$ U (c.map Rd.f).sum,ŋ,ŋ] d=J (ϙ [W1$ ώ$ c.map Rd.D,W1$ gD g,W1 F,W1$ U e,W1$ U$ (c.map Rd.f).sum+gs e g,m,n]) d:=by
  rcases G with rfl|⟨h,rfl,A⟩
  ·exact⟨ŋ,ŋ,by rw[show (c.map Rd.f).sum+gs e []=(c.map Rd.f).sum from Wq _];exact sO rfl⟩
  ·have sb:=rQ A e d$ mf h e;have E:zj F (U 0) d=J (oD$ mf h e) d:=C (0,h) ua;refine⟨W1$ U 0,W1$ ώ$ h.map Lo.D,kL (k:=.inl 0) (v:=ώ$ h.map Lo.D) rfl rfl ?_⟩;rw[show gs e [(0,h)]=An h (mf h e) e from Wq _];generalize c.map Rd.D=z,gD [(0,h)]=y,h.map Lo.D=ό,(c.map Rd.f).sum=N,An h (mf h e) e=B,oD (mf h e)=w at *;simp[Nv,I,sb,E]
 unfold Xl CT qc;dsimp only;generalize c.map Rd.D=z,gD g=y,(c.map Rd.f).map U=w at *;simp[l,s1,H,-Bo,-wt]
def Fq(e:Int)(c:List Rx):D:=ϐ [U (val e (c.map (·.1))),cD c,Ϩ ((FK e (Xv (c.map (·.1)))).map (·.1)) ((FK e (Xv (c.map (·.1)))).map (·.2))]
def NV e c:cl (Fq e c)=š:=by
 have:=HI c;unfold Fq;simp[cl,nW,this]
def zie e(i:c.length<=3)(ό:∀ p∈c,One p.1.x)(q:DL (Xv (c.map (·.1)))) a:Of [ώ (c.map λp=>p.1.D),cD c,U e] a=J (Fq e c) a:=by
 have F:(c.map λp=>p.1.D)=(c.map (·.1)).map Rd.D:=by rw[Bc];rfl
 have l:=Z0 (rs:=c.map (·.1)) (by simpa using i) (λr I=>by obtain⟨p,o,rfl⟩:=Ya.mp I;exact ό p o);rw[F];unfold Fq val;generalize s:c.map (·.1)=b at *;have i:b.length<=3:=by rw[<-s];simpa using i
 generalize H:Xv b=g at *;obtain⟨y,z,L⟩:∃ y z,Kk (Uw$ pa 3) (vj 2$ Nf (Cc 5)$ Nf (Cc 6) Lj) kR [W1$ ώ$ b.map Rd.D,W1$ cD c,W1$ U e,W1$ gD g,W1$ O a.length,ŋ,ŋ] (a++[ύ []])=J (ϙ [W1$ ώ$ b.map Rd.D,W1$ cD c,W1$ U e,W1$ gD g,W1$ O a.length,y,z]) (a++[ύ$ FK e g]):=by
  rcases q with rfl|⟨h,rfl,t⟩
  ·exact⟨ŋ,ŋ,sO rfl⟩
  ·have K:=Ŝ t e;have u:=λA=>Ur (ρ:=A) (σ:=a++[ύ []]) (d:=oD$ mf h e) (n:=a.length) (w:=0) (kvs:=[]) ⋯ ⋯;rw[QA,show Df [] (.inl 0) (oD$ mf h e)=FK e [(0,h)]from rfl]at u;refine⟨W1$ U 0,W1$ ώ$ h.map Lo.D,kL (k:=.inl 0) (v:=ώ$ h.map Lo.D) rfl rfl ?_⟩;generalize b.map Rd.D=E,gD [(0,h)]=C,h.map Lo.D=Q,cD c=B,oD (mf h e)=ϋ,FK e [(0,h)]=P at *;simp[Nv,K,u]
 have gt:∀ p∈g,zj (O a.length) (U p.1) (a++[ύ$ FK e g])=J (oD$ mf p.2 e) (a++[ύ$ FK e g]):=λp o=>by
  rcases q with rfl|⟨h,rfl,t⟩
  ·cases o
  ·obtain rfl:=Qb.mp o;unfold zj Rf;simp[Lq,FK,Qn]
 have M:=E9 i q e (a++[ύ$ FK e g]) (O a.length) gt;have fz:ig a (J (ϐ [U$ (b.map Rd.f).sum+gs e g,cD c,O a.length])$ a++[ύ$ FK e g])=J (ϐ [U$ (b.map Rd.f).sum+gs e g,cD c,Ϩ ((FK e g).map (·.1)) ((FK e g).map (·.2))]) a:=by
  unfold ig;dsimp only;rw[ja ⋯];have G:=Az (k:=a.length) (σ:=a++[ύ$ FK e g]) (m:=5)$ HI c;have:fz a.length (a++[ύ$ FK e g]) 6 (ϐ [U$ (b.map Rd.f).sum+gs e g,cD c,O a.length])=W1 (ϐ [U$ (b.map Rd.f).sum+gs e g,cD c,Ϩ ((FK e g).map (·.1)) ((FK e g).map (·.2))]):=by
   unfold fz;rw[ra ⋯];dsimp only;unfold Wl;unfold Wl;unfold Wl;rw[(eJ (σ:=a) (kvs:=FK e g) (j:=[]) (m:=4)$ nW ..),G];rfl
  rw[this]
 unfold Of aX qc;dsimp only;generalize b.map Rd.D=E,gD g=C,cD c=B,(b.map Rd.f).sum+gs e g=N at *;simp[l,L,M,fz,-wt]
def m3(c:a.length<=3)(b:∀ r∈a,One r.x):DL$ Xv a:=by
 have h:=yK b;unfold Xv;cases e:a.flatMap Rd.x with
 |nil=>exact ϔ rfl
 |cons l r=>exact ϕ ⟨l::r,rfl,by rw[<-e];lia⟩
theorem aT:∀ {a:List$ List Rd} {c:List Rx},Pk a c->∀ p∈c,∃ d∈a,p.1∈d
 |[],[],_,p,h=>by cases h
 |d::a,x::c,h,p,b=>by
  rcases La.mp b with rfl|b
  ·exact⟨d,ua,ya h.1⟩
  ·obtain⟨r,e,f⟩:=aT h.2 p b;exact⟨r,la _ e,f⟩
 |[],_::_,h,_,_=>h.elim
 |_::_,[],h,_,_=>h.elim
structure ZR(RR:List (List Rd)):Prop where
 n:RR.length<=3
 f:∀ rs∈RR,0<rs.length/\rs.length<=2
 x:∀ rs∈RR,∀ r∈rs,One r.x
def yhs(h:cy ps):ZR$ Vl v ps:=by
 refine⟨by unfold Vl;rw[Ja];exact h.n,λi b=>?_,λi b r c=>?_⟩
 ·obtain⟨p,a,rfl⟩:=Ya.mp b;rw[Ja];exact h.f p a
 ·obtain⟨p,a,rfl⟩:=Ya.mp b;obtain⟨s,g,rfl⟩:=Ya.mp c;unfold rd;rcases h.d p a s g with e|⟨t,e,w⟩<;>rw[e]
  ·exact ϔ rfl
  ·exact ϕ ⟨_,rfl,w⟩
def vc(e:Int)(c:List Rx):Int:=val e (c.map (·.1))
def YA(e:Int)(a:List$ List Rd):List Rx:=match vn a [[]]with
 |[]=>[]
 |c::cs=>zt (vc e) cs c
def Ex(e:Int)(a:List$ List Rd):Int:=vc e$ YA e a
def A0(h:c∈vn b [[]]):Pk b c:=by
 obtain⟨a,d,r,rfl,e⟩:=gM b h
 simp_all
def Ē(h:ZR a):∃ c cs,vn a [[]]=c::cs:=by
 cases e:vn a [[]]with
 |nil=>exact absurd e$ FR a (λd b=>(h.f d b).1) ⋯
 |cons c cs=>simp_all
def gU(h:cy ps) a:Fi [Xj v$ ps.map Qg] a=J (U$ Ex v.e$ Vl v ps) a:=by
 have I:=zpi (v:=v) h;have d:=yhs (v:=v) h;have z:∀ a,Vb [14,15,16] "every" (Xj v$ ps.map Qg) a=J _ a:=λa=>Sh (Fm rfl) rfl rfl;generalize Vl v ps=b,Xj v _=V,v.e=e at *;have c:=w6 d.n (λm l=>(d.f m l).2);have k:=pO b [[]] (λm l=>(d.f m l).2);have k:(vn b [[]]).length<=8:=zb k (by rw[Ua,vg,bH,mK];exact uR d.n);have t:∀ a,Mi (uk (Oo$ Fh$ we 1 Qf []$ Ba (pa 1) Za) [1,0] (Cc 0) wl$ we 3 Of []$ Ba (we 2 Ge []$ Ba (pa 2)$ Ba (pa 0) Za)$ Ba (pa 0)$ Ba (Pc (Vb [14,15,16] "every")$ pa 3) Za) [W1 V,W1$ RL b,ŋ] a=J _ a:=λa=>by
  refine Bt (s:=.seq$ (vn b [[]]).map cD) cD _ ?_ (λi r=>eb W1$ dr _ _ i) ⋯ (λp o j=>?_) (λp r=>NV e p)
  ·generalize RL b=R,(vn b [[]]).map cD=ό at *;simp[c]
  ·have pk:=A0 o;have N:=pk.len;have q:∀ x∈p,One x.1.x:=λx q=>by obtain⟨m,A,B⟩:=aT pk x q;exact d.x m A _ B
   have w:=U4 d.n pk;have G:=zie e (c:=p) (by have:=d.n;lia) q (m3 (by have:=d.n;simp;lia) λr l=>by obtain⟨x,E,rfl⟩:=Ya.mp l;exact q x E);generalize cD p=K,RL b=R,(p.map λp=>p.1.D)=L,Fq e p=g at *;simp[w,G,z]
 have u:∀ a,aD (Eb Fb (pa 0)$ eC$ U 0) [] [ώ$ (vn b [[]]).map$ Fq e] a=J (Fq e$ YA e b) a:=λa=>by
  obtain⟨p,cs,o⟩:=Ē d;rw[show YA e b=zt (vc e) cs p by unfold YA;rw[o],o];refine OV (f:=Fq e) λy r=>?_;have:∀ a,Fb (Fq e y) (U 0) a=J (U$ vc e y) a:=λa=>by unfold Fq vc;simp
  generalize Fq e y=M at *;simp[this]
 have C:=NV e$ YA e b;have F:∀ a,Fb (Fq e$ YA e b) (U 0) a=J (U$ Ex e b) a:=λa=>by unfold Fq Ex vc;simp
 generalize Fq e (YA e b)=g,(vn b [[]]).map (Fq e)=PL at *;have H:∀ a,sj [V] a=J g a:=λa=>by
  have t:=t a;have u:=u a;unfold sj QU;generalize RL b=R at *;simp[I,t,u,C,-Bo]
 unfold Fi qc;simp[H,F]
def yl{a j:Da}{k:Nat}(h:a[k]?=W1 o):(a++j)[k]?=W1 o:=by
 rw[jb (aa.mp h).1,h]
structure Ac where
 (p q:Int)
 c:Nat
 m:Sn
 G:D
 y:List Sn
 L:gV
def Ac.fs(a:Ac):List$ Str × D:=[("pot",U a.p),("side",U a.q),("mine",a.m.D),("grant",a.G),("may",ώ (a.y.map Sn.D)),("strikes",ώ a.L)]
def Di(b:Da)(n:Nat)(a:Ac):Prop:=b[n]?=W1 (ϓ a.c a.fs)
def Di.app(h:Di b n a) j:Di (b++j) n a:=yl h
def AT(h:[10,11,12,13].contains c=š):[7,8,10,11,12,13].contains c=š:=by
 simp at h ⊢;omega
structure Ac.Ok(a:Ac):Prop where
 p:0<=a.p/\a.p<=2
 q:a.q=0\/a.q=1
 c:[10,11,12,13].contains a.c=š
 g:cl a.G=š
 l:zf a.L=š
section
variable{σ:Da}{n:Nat}{a:Ac}(h:Di σ n a)(o:a.Ok)
include h
theorem xr:qi σ (O n)=W1 (a.c,a.fs):=by
 have h:σ[n]?=W1 _:=h;unfold qi;simp[h]
include o
theorem oF:Vb [10,11,12,13] "pot" (O n) σ=J (U a.p) σ:=Sh (xr h) o.c rfl
theorem px:Vb [7,8,10,11,12,13] "side" (O n) σ=J (U a.q) σ:=Sh (xr h) (AT o.c) rfl
theorem SA:Vb [10,11,12,13] "mine" (O n) σ=J a.m.D σ:=Sh (xr h) o.c rfl
theorem oU:Vb [10,11,12,13] "grant" (O n) σ=J a.G σ:=Sh (xr h) o.c rfl
theorem RF:Vb [10,11,12,13] "may" (O n) σ=J (ώ$ a.y.map Sn.D) σ:=Sh (xr h) o.c rfl
theorem XW:Vb [10,11,12,13] "strikes" (O n) σ=J (ώ a.L) σ:=Sh (xr h) o.c rfl
end
theorem zvu c h a b d e f g σ:Bj c 7 h [a,b,d,e,f,g] σ=Xx σ.length (h [O σ.length,a,b,d,e,f,g]$ σ++[ϓ c []]):=rE rfl
def TF{a:Ac}(h:a.Ok) b:Bj a.c 7 Lp [U a.p,U a.q,a.m.D,a.G,ώ$ a.y.map Sn.D,ώ a.L] b=J (O b.length) (b++[ϓ a.c a.fs]):=by
 have u:=BF a.y;have w:=h.l;have r:=h.c;unfold Ac.fs;generalize a.p=k,a.q=n,a.c=c,a.m.D=m,a.G=g,a.L=z,a.y.map Sn.D=y at *;have e:=λf v (j:List (Str × D)) (o:j.length<1000)=>mD (ρ:=[W1$ O b.length,W1$ U k,W1$ U n,W1 m,W1 g,W1$ ώ y,W1$ ώ z]) (σ:=b) (cs:=[10,11,12,13]) (f:=f) (d:=v) (c:=c) (fs:=j) r o;have x:∀ p:D,Mg "pot" p []=([("pot",p)]:List (Str × D)):=λF=>rfl;have A:∀ p s:D,Mg "side" s [("pot",p)]=([("pot",p),("side",s)]:List (Str × D)):=λF F=>rfl;have B:∀ p s:D,Mg "mine" m [("pot",p),("side",s)]=([("pot",p),("side",s),("mine",m)]:List (Str × D)):=λF F=>rfl;have C:∀ p s:D,Mg "grant" g [("pot",p),("side",s),("mine",m)]=([("pot",p),("side",s),("mine",m),("grant",g)]:List (Str × D)):=λF F=>rfl;have p4:∀ p s:D,Mg "may" (ώ y) [("pot",p),("side",s),("mine",m),("grant",g)]=([("pot",p),("side",s),("mine",m),("grant",g),("may",ώ y)]:List (Str × D)):=λF F=>rfl;have E:∀ p s:D,Mg "strikes" (ώ z) [("pot",p),("side",s),("mine",m),("grant",g),("may",ώ y)]=([("pot",p),("side",s),("mine",m),("grant",g),("may",ώ y),("strikes",ώ z)]:List (Str × D)):=λF F=>rfl;have t:=uD u;have i:Lp [O b.length,U k,U n,m,g,ώ y,ώ z] (b++[ϓ c []])=J Ϛ (b++[ϓ c [("pot",U k),("side",U n),("mine",m),("grant",g),("may",ώ y),("strikes",ώ z)]]):=by
  unfold Lp Ue;simp[e,(λf v (j:List (Str × D)) (o:j.length<1000)=>mD (ρ:=[W1$ O b.length,W1$ U k,W1$ U n,W1 m,W1 g,W1$ ώ y,W1$ ώ z]) (σ:=b) (cs:=[7,8,10,11,12,13]) (f:=f) (d:=v) (c:=c) (fs:=j) (AT r) o),x,A,B,C,p4,E,t,(uD w)]
 rw[zvu,i,Zy]
def Fd(p q:Int)(m:Sn)(G:D)(L:gV):Ac:=⟨p,q,11,m,G,[m],L⟩
def kn(p q:Int)(m o:Sn)(G:D)(L:gV):Ac:=⟨p,q,12,m,G,[m,o],L⟩
def gz(p q:Int)(o m:Sn)(G:D)(L:gV):Ac:=⟨p,q,13,m,G,[o,m],L⟩
def kh(p s:Int)(X:D):D:=ϐ [ϒ "agree",U p,U s,X]
def vm(p s n:Int):D:=ϐ [ϒ "strike",U p,U s,U n]
def Ik(p s:Int)(X:Sn):D:=ϐ [ϒ "offer",U p,kh p s X.D]
def Xp(p s n:Int):D:=ϐ [ϒ "struck",U p,vm p s n]
def Np(p:Int)(m s:Sn):D:=ϐ [ϒ "accept",U p,kh p 1 s.D,vm p 1 m.n]
def ME{xs}(h:∀ x∈xs,pl n x=š):pl (n+1) (ϐ xs)=š:=Xa.mpr h
theorem G9 n(t:Ti):pl (n+1) t.D=š:=by cases n<;>rfl
def Ņ n(b:List Ti):pl (n+2) (ϐ$ b.map Ti.D)=š:=ME λx a=>by obtain⟨t,_,rfl⟩:=Ya.mp a;exact G9 n t
def UF n(s:Sn):pl (n+3) s.D=š:=ME λx c=>by
 have c:x=U s.n\/x=ϐ [U s.a,U s.b]\/x=ϐ (s.ts.map Ti.D):=by simpa using c
 rcases c with rfl|rfl|rfl
 ·rfl
 ·rfl
 ·exact Ņ n s.ts
def VL n p q(s:Sn):pl (n+4) (kh p q s.D)=š:=ME λx a=>by
 have a:x=ϒ "agree"\/x=U p\/x=U q\/x=s.D:=by simpa using a
 rcases a with rfl|rfl|rfl|rfl
 ·rfl
 ·rfl
 ·rfl
 ·exact UF n s
def ť p q s:pl 8 (Ik p q s)=š:=ME λx a=>by
 have a:x=ϒ "offer"\/x=U p\/x=kh p q s.D:=by simpa using a
 rcases a with rfl|rfl|rfl
 ·rfl
 ·rfl
 ·exact VL 3 p q s
theorem Ε p m s:pl 8 (Np p m s)=š:=ME λx a=>by
 have a:x=ϒ "accept"\/x=U p\/x=kh p 1 s.D\/x=vm p 1 m.n:=by simpa using a
 rcases a with rfl|rfl|rfl|rfl
 ·rfl
 ·rfl
 ·exact VL 3 p 1 s
 ·rfl
theorem Ę p q n:pl 8 (Xp p q n)=š:=rfl
def YE{X}(h:cl X=š):cl (kh p s X)=š:=by unfold kh;simp[h]
section
variable{p:Int}(hp:0<=p/\p<=2)(σ:Da)
include hp
theorem CH{q}(a:q=0\/q=1) k X:pi [ϐ [k,U p,U q,X]] σ=J (Ϗ š) σ:=by
 unfold pi qc;simp[(EE a σ),(SV hp σ)]
theorem kU{q}(c:q=0\/q=1){s:Sn}(h:Qr s.n s.a s.b s.ts):Ml [kh p q s.D] σ=J (Ϗ š) σ:=by
 have t:Oe [kh p q s.D] σ=J (Ϗ š) σ:=by
  unfold Sn.D kh Oe qc;simp[(cC h σ),(λX=>CH hp σ c (ϒ "agree") X)]
 have i:Fb (kh p q s.D) (U 0) σ=J (ϒ "agree") σ:=by unfold kh;simp
 unfold Ml qc
 simp_all
theorem SY{q n}(a:q=0\/q=1)(h:0<=n/\n<=1000000):ik [vm p q n] σ=J (Ϗ š) σ:=by
 have t:Oe [vm p q n] σ=J (Ϗ š) σ:=by
  unfold vm Oe qc;simp[(QM h σ),(λX=>CH hp σ a (ϒ "strike") X)]
 have i:Fb (vm p q n) (U 0) σ=J (ϒ "strike") σ:=by unfold vm;simp
 unfold ik qc
 simp_all
theorem QK{k}{x}{r}(c:r.length<=3)(h:af [ϐ$ ϒ k::U p::x::r] σ=J (Ϗ š) σ):Td [ϐ$ ϒ k::U p::x::r] σ=J (Ϗ š) σ:=by
 have a:tq [ϐ$ ϒ k::U p::x::r] σ=J (U$ r.length+3) σ:=by
  have:=OW (σ:=σ)$ ϒ k::U p::x::r;rw[this];congr 2
 have b:decide ((r.length:Int)+3<3)=į:=pb ⋯;unfold Td qc;simp[h,(SV hp σ),a,b]
theorem LM{q}(c:q=0\/q=1){s}(h:Qr s.n s.a s.b s.ts):Td [Ik p q s] σ=J (Ϗ š) σ:=by
 refine QK hp σ ⋯ ?_;unfold af qc;simp[(kU hp σ c h)]
theorem LK{m s}(h:Qr s.n s.a s.b s.ts)(c:0<=m.n/\m.n<=1000000):Td [Np p m s] σ=J (Ϗ š) σ:=by
 refine QK hp σ ⋯ ?_;unfold af qc;simp[(kU hp σ _ h),(SY hp σ _ c)]
theorem eM{q}(a:q=0\/q=1){n}(h:0<=n/\n<=1000000):Td [Xp p q n] σ=J (Ϗ š) σ:=by
 refine QK hp σ ⋯ ?_;unfold af qc;simp[(SY hp σ a h)]
end
def ŧ{s m:Sn}(h:s.Ok W)(f:m.Ok W)(i:s.n=m.n+1) c:gi [s.D,m.D] c=J (Ϗ š) c:=by
 have d:=PP h.st c;have e:=KI m.n m.a m.b (by have:=f.st.l;omega) c;rw[h.w]at d;rw[f.w]at e;have j:=s0 s c;have k:=s0 m c;have g:(s.n == m.n+1)=š:=by simp[i]
 unfold gi qc;unfold Sn.D at *;simp[d,e,j,k,g]
section
variable{σ:Da}{n:Nat}{a:Ac}(h:Di σ n a)(o:a.Ok)
include h o
theorem V1 s{X}(b:cl X=š):nk [O n,U s,X] σ=J (kh a.p s X) σ:=by
 unfold nk kh Vd;simp[(oF h o),b]
theorem dW s(m:Sn):Jj [O n,U s,m.D] σ=J (vm a.p s m.n) σ:=by
 unfold Jj vm Vd;simp[(oF h o),(s0 m)]
end
theorem cL{f:D->D->Option Bool}:∀ {xs d:gV},(∀ x∈xs,∀ y∈d,∃ b,f x y=W1 b)->∃ b,ln f xs d=W1 b
 |[],[],_=>⟨_,rfl⟩
 |[],_::_,_=>⟨_,rfl⟩
 |_::_,[],_=>⟨_,rfl⟩
 |x::xs,y::d,h=>by
  obtain⟨b,i⟩:=h x ua y ua;obtain⟨c,j⟩:=cL λa e b g=>h a (la _ e) b$ la _ g;unfold ln
  simp_all
def Ψ i:∀ n x y,pl n x=š->pl n y=š->∃ b,bp i n x y=W1 b:=by
 intro n;induction n with
 |zero=>intro x y d c;cases x<;>first|(cases d;done)|(cases y<;>first|exact⟨_,rfl⟩|(cases c;done))
 |succ n g=>
  intro x y d c;cases x with
  |Sa xs=>
   cases y with
   |Sa h=>
    replace d:=Xa.1 d;replace c:=Xa.1 c;exact cL λa e b f=>g a b (d a e)$ c b f
   |_=>first|exact⟨_,rfl⟩|(cases c;done)
  |qa xs=>
   cases y with
   |qa h=>
    replace d:=Xa.1 d;replace c:=Xa.1 c;exact cL λa e b f=>g a b (d a e)$ c b f
   |_=>first|exact⟨_,rfl⟩|(cases c;done)
  |_=>first|(cases d;done)|(cases y<;>first|exact⟨_,rfl⟩|(cases c;done))
def AE a b c:Ki (U a) (U b) c=J (Ϗ$ decide$ a≠b) c:=by
 by_cases h:a=b<;>simp[h]
def dA(h:Di b n a)(o:a.Ok):Vb [7,8,10,11,12,13] "side" (O n) b=J (U a.q) b/\Vb [10,11,12,13] "pot" (O n) b=J (U a.p) b/\Vb [10,11,12,13] "mine" (O n) b=J a.m.D b/\Vb [10,11,12,13] "grant" (O n) b=J a.G b/\Vb [10,11,12,13] "may" (O n) b=J (ώ$ a.y.map Sn.D) b/\Vb [10,11,12,13] "strikes" (O n) b=J (ώ a.L) b/\(∀ s (x:Sn),nk [O n,U s,x.D] b=J (kh a.p s x.D) b)/\(∀ s (x:Sn),Jj [O n,U s,x.D] b=J (vm a.p s x.n) b)/\(∀ d,Ci [(a.c,nk)] 3 "agree_of" d (O n) b=(d b).bind (Vg 3 nk$ O n))/\∀ d,Ci [(a.c,Jj)] 3 "strike_of" d (O n) b=(d b).bind (Vg 3 Jj$ O n):=
 ⟨px h o,oF h o,SA h o,oU h o,RF h o,XW h o,λs x=>V1 h o s$ Jq x,λs x=>dW h o s x,λe=>on (xr h) (by simp[cp]) rfl,λe=>on (xr h) (by simp[cp]) rfl⟩
def aJ(c:0<=p/\p<=2)(d:q=0\/q=1)(a:cl G=š)(b:zf L=š):(Fd p q m G L).Ok:=⟨c,d,rfl,a,b⟩
def DW(c:0<=p/\p<=2)(d:q=0\/q=1)(a:cl G=š)(b:zf L=š):(kn p q m o G L).Ok:=⟨c,d,rfl,a,b⟩
def sS(c:0<=p/\p<=2)(d:q=0\/q=1)(a:cl G=š)(b:zf L=š):(gz p q m o G L).Ok:=⟨c,d,rfl,a,b⟩
section
variable{σ:Da}{n:Nat}{p:Int}(hp:0<=p/\p<=2){m s:Sn}{W:Int}(hm:m.Ok W)(hs:s.Ok W)(hn:s.n=m.n+1){G:D}{L:gV}(hg:cl G=š)(hl:zf L=š)(hLk:L.length<=100)
include hp hg hl
include hm hs hn
theorem x4(h:Di a n$ Fd p 1 m G L):iD [O n,Ik p 0 s] a=J (ϐ [O a.length,Np p m s]) (a++[ϓ 13 (gz p 1 m s (kh p 0 s.D) L).fs]):=by
 have o:=aJ (m:=m) hp (ϕ rfl) hg hl;have c:=h.app [ϓ 13 (gz p 1 m s (kh p 0 s.D) L).fs];have mk:Bj 13 7 Lp [U p,U 1,s.D,kh p 0 s.D,ώ [m.D,s.D],ώ L] a=J _ (a++[ϓ 13 (gz p 1 m s _ L).fs]):=TF (sS (p:=p) (q:=1) (m:=m) (o:=s) hp (ϕ rfl) (YE (p:=p) (s:=0)$ Jq s) hl) a;generalize a++[ϓ 13 (gz p 1 m s (kh p 0 s.D) L).fs]=j at *;have d:∀ a,Fb (Ik p 0 s) (U 0) a=J (ϒ "offer") a:=λa=>by unfold Ik;simp
 have e:∀ a,Fb (Ik p 0 s) (U 2) a=J (kh p 0 s.D) a:=λa=>by unfold Ik;simp
 have f:∀ a,Fb (kh p 0 s.D) (U 3) a=J s.D a:=λa=>by unfold kh;simp
 have i:Ki (ϒ "offer") (ϒ "offer") a=J (Ϗ į) a:=nw rfl;have g:Ki (Ik p 0 s) (ϐ [ϒ "offer",U p,kh p 0 s.D]) a=J (Ϗ į) a:=nw$ ť p 0 s;have F:=dA h o;have b:=dA c o;dsimp only[Fd]at F b;unfold Np;unfold iD Ue;simp[(LM hp a (ϔ rfl) hs.st),d,e,f,g,i,(ŧ hs hm hn a),mk,F,b]
theorem ř(h:Di c n$ Fd p 0 m G L):Hf [O n,ϐ [U s.a,U s.b],ϐ$ s.ts.map Ti.D] c=J (ϐ [O c.length,Ik p 0 s]) (c++[ϓ 12 (kn p 0 m s G L).fs]):=by
 have o:=aJ (q:=0) (m:=m) hp (ϔ rfl) hg hl;have f:=h.app [ϓ 12 (kn p 0 m s G L).fs];have mk:Bj 12 7 Lp [U p,U 0,m.D,G,ώ [m.D,s.D],ώ L] c=J _ (c++[ϓ 12 (kn p 0 m s G L).fs]):=TF (DW (p:=p) (q:=0) (m:=m) (o:=s) hp (ϔ rfl) hg hl) c;generalize c++[ϓ 12 (kn p 0 m s G L).fs]=g at *;have j:rl [m.D] c=J (U W) c:=by rw[<-hm.w];exact KI _ _ _ (by have:=hm.st.l;omega) c
 have v:Ze [s.D,U W] c=J (Ϗ š) c:=by rw[<-hs.w];exact PP hs.st c
 have u:ϐ [U$ m.n+1,ϐ [U s.a,U s.b],ϐ$ s.ts.map Ti.D]=s.D:=by rw[<-hn];rfl
 have t:Ki (ϒ "calm") (ϒ "calm") c=J (Ϗ į) c:=nw rfl;have i:∀ x c,Rp [x] c=J (ϒ "calm") c:=λx c=>by unfold Rp Vd;simp
 have r:∀ d,Ci [(11,Rp),(12,Vy),(13,KA)] 1 "word" d (O n) c=(d c).bind (Vg 1 Rp$ O n):=λd=>on (xr h) rfl rfl;have k:∀ d,Ci [(10,nk),(11,nk),(12,nk),(13,nk)] 3 "agree_of" d (O n) g=(d g).bind (Vg 3 nk$ O n):=λd=>on (xr f) rfl rfl;have F:=dA h o;have e:=dA f o;dsimp only[Fd]at F e;unfold Ik;unfold Hf gR;simp[(s0 m),j,v,u,t,i,r,k,mk,F,e]
omit hn
include hLk
theorem Y1(h:Di σ n$ kn p 0 m s G L):zD [O n,Np p m s] σ=J (ϐ [O σ.length,Xp p 0 m.n]) (σ++[ϓ 11 (Fd p 0 s (kh p 1 s.D)$ L++[U m.n]).fs]):=by
 have o:=DW (m:=m) (o:=s) hp (ϔ rfl) hg hl;have a:zf (L++[U m.n])=š:=by rw[nM,hl];rfl
 have e:=aJ (p:=p) (q:=0) (m:=s) hp (ϔ rfl) (YE (p:=p) (s:=1)$ Jq s) a;have d:=h.app [ϓ 11 (Fd p 0 s (kh p 1 s.D)$ L++[U m.n]).fs];have mk:Bj 11 7 Lp [U p,U 0,s.D,kh p 1 s.D,ώ [s.D],ώ$ L++[U m.n]] σ=J (O σ.length) (σ++[ϓ 11 (Fd p 0 s (kh p 1 s.D)$ L++[U m.n]).fs]):=TF e σ;generalize σ++[ϓ 11 (Fd p 0 s (kh p 1 s.D)$ L++[U m.n]).fs]=j at *;have g:=LK hp σ (m:=m) hs.st hm.st.n;have f:=s0 m;have i:Ki (Np p m s) (ϐ [ϒ "accept",U p,kh p 1 s.D,vm p 1 m.n]) σ=J (Ϗ į) σ:=nw$ Ε p m s;have c:Ji (ώ L) (ώ [U m.n]) σ=J (ώ$ L++[U m.n]) σ:=YI (by unfold Yf;simp;omega);have F:=dA h o;have b:=dA d o;dsimp only[kn]at F b;unfold Xp;unfold zD Ue;simp[g,f,i,c,mk,F,b]
theorem G5(h:Di σ n$ gz p 1 m s G L):CC [O n,Xp p 0 m.n] σ=J (ϐ [O σ.length,Ϛ]) (σ++[ϓ 11 (Fd p 1 s G$ L++[U m.n]).fs]):=by
 have o:=sS (m:=m) (o:=s) hp (ϕ rfl) hg hl;have a:zf (L++[U m.n])=š:=by rw[nM,hl];rfl
 have mk:Bj 11 7 Lp [U p,U 1,s.D,G,ώ [s.D],ώ$ L++[U m.n]] σ=J (O σ.length) (σ++[ϓ 11 (Fd p 1 s G$ L++[U m.n]).fs]):=TF (aJ (q:=1) (m:=s) hp (ϕ rfl) hg a) σ;have c:=s0 m;have d:Ki (Xp p 0 m.n) (ϐ [ϒ "struck",U p,vm p 0 m.n]) σ=J (Ϗ į) σ:=nw$ Ę ..;have b:Ji (ώ L) (ώ [U m.n]) σ=J (ώ$ L++[U m.n]) σ:=YI (by unfold Yf;simp;omega);have F:=dA h o;dsimp only[gz]at F;unfold CC Ue;simp[(eM hp σ (q:=0) (ϔ rfl) hm.st.n),c,d,b,mk,F]
end
def zm(K:dd):Kv:=K.map λw=>(.inl w,Ϗ š)
def Yd{a:Da}(n:r≠k)(h:a[k]?=W1 o):(a.set r x)[k]?=W1 o:=by
 rw[qb n,h]
def GJ(h:σ[n]?=W1 (ύ a))(b:Qn a (.inl w)=W1 d):zj (O n) (U w) σ=J d σ:=by
 unfold zj Rf;simp[Lq,h];simp[b]
theorem GX:∀ K:dd,jw (zm K)=W1 K
 |[]=>rfl
 |w::K=>by
  have a:=GX K;unfold zm at a ⊢;unfold jw;simp[a]
abbrev ks(K:dd):dd:=ww K
theorem zI(j:f ρ σ=J (O n) σ)(g:σ[n]?=W1 (ύ A))(i:src ρ σ=J nx c)(k:Do nx e a 1001 0 ρ c=J (ϙ d) b)(h:b[n]?=W1 (ϣ A')):ur f (Kk src e a) ρ σ=J (ϙ d) (b.set n$ ύ A'):=by
 show ax xJ _ _ σ=_;unfold ax;rw[j];dsimp only;rw[g];rw[wt,i,Qj];show DD xJ _ (Do nx e a 1001 0 ρ c)=_;rw[k];unfold DD;simp[h];rfl
def mU(c:f b a=J (O n) a)(g:a[n]?=W1 (ύ A)):gq f b a=J (Kq A) (a.set n$ ϣ A):=by
 show rc _ wC a=_;rw[fj,c,Jc];unfold wC;simp[g]
def bF{a:Da}(h:a[r]?=W1 o):a.set r o=a:=by
 obtain⟨b,c⟩:=aa.mp h;rw[<-c];exact Xq b
def Dn(K:dd)(w:Int):dd:=if w∈K then K else K++[w]
def zi6 d(h:∀ p∈a,p.1≠.inl w):Df a (.inl w) d=a++[(.inl w,d)]:=by
 unfold Df;rw[ra];intro z;obtain⟨p,b,e⟩:=Ye.mp z;exact h p b ⋯
def ě K w:Df (zm K) (.inl w) (Ϗ š)=zm (Dn K w):=by
 unfold Dn;by_cases h:w∈K
 ·have a:(zm K).any (λc=>decide$ c.1=.inl w)=š:=Ye.mpr ⟨_,Ya.mpr ⟨w,h,rfl⟩,by simp⟩;unfold Df;unfold zm
  simp_all
 ·rw[ra h,zi6 _ λp b e=>by
   obtain⟨d,a,rfl⟩:=Ya.mp b;have e:d=w:=by simpa using e
   exact h$ e ▸ a]
  unfold zm
  simp_all
def N0 K w:(Dn K w).length<=K.length+1:=by unfold Dn;split<;>simp
def ydr(a K:dd):(a.foldl Dn K).length<=K.length+a.length:=by
 induction a generalizing K with
 |nil=>simp
 |cons w a b=>have c:=b$ Dn K w;have d:=N0 K w;simp[Ua];lia
def cT{K ws:dd}(j:σ[b]?=W1 (ϓ 15 fs))(l:fs.lookup ("known" : Str)=W1 (O$ b+1))(f:σ[b+1]?=W1 (ύ$ zm K))(t:K.length+ws.length<900):ou [O b,ώ$ ws.map U] σ=J Ϛ (σ.set (b+1)$ ύ$ zm$ ws.foldl Dn K):=by
 have o:=(aa.mp f).1;obtain⟨p,q,c,y,rfl,rfl⟩:=eD (xs:=ws.map U) (tg:=Cc 2) (body:=hO) (ρ:=[W1$ O b,W1$ ώ$ ws.map U,ŋ]) (σ:=σ) (λi ρ h=>∃ y,ρ=[W1$ O b,W1$ ώ$ ws.map U,y]/\h=σ.set (b+1) (ύ$ zm$ (ws.take i).foldl Dn K)) (by simp;lia) (ϔ rfl) (λi d ρ h hd k=>by
  obtain⟨y,rfl,rfl⟩:=k;rw[Ta]at hd;obtain⟨w,g,rfl⟩:=Ka.mp hd;have s:=(aa.mp g).1;have m:=ydr (ws.take i) K;rw[Tc]at m;have e:(ws.take$ i+1).foldl Dn K=Dn ((ws.take i).foldl Dn K) w:=by rw[Nz,g,vv];rfl
  rw[e];generalize (ws.take i).foldl Dn K=a at *;have n:Vb [14,15] "known" (O b) (σ.set (b+1)$ ύ$ zm a)=J (O$ b+1) (σ.set (b+1)$ ύ$ zm a):=Sh (by unfold qi;simp[Yd (r:=b+1) ⋯ j];rfl) rfl l;have st:∀ ρ,Im ρ (Ϗ š) (O$ b+1) (U w) (σ.set (b+1)$ ύ$ zm a)=J (ϙ ρ) (σ.set (b+1)$ ύ$ zm$ Dn a w):=λρ=>by
   rw[Ur (Ga o) (by unfold zm;simp;lia),ě,bq]
  refine⟨_,[W1$ O b,W1$ ώ$ ws.map U,W1$ U w],_,rfl,?_,W1$ U w,rfl,rfl⟩;simp[n,st]) ⟨ŋ,rfl,(bF f).symm⟩
 rw[Ja,Uc]at c;have c:qk (Cc 2) hO (ws.map U) [W1$ O b,W1$ ώ$ ws.map U,ŋ] σ=_:=c;unfold ou CS Ue;simp[c]
def Ud(l:List$ Int × Int):List$ jc × D:=l.map λp=>(.inl p.1,U p.2)
noncomputable def vl(l:List$ Int × Int)(w:Int):Option Int:=(l.find? λp=>decide$ p.1=w).map (·.2)
theorem wO(w:Int):∀ (l:List$ Int × Int),Qn (Ud l) (.inl w)=(vl l w).map U
 |[]=>rfl
 |p::l=>by
  have a:=wO w l;unfold Qn Ud vl at *;rw[db,yc,yc];by_cases e:p.1=w
  ·simp[e]
  ·have b:¬ (Sum.inl p.1:jc)=Sum.inl w:=λz=>e$ Dp z;simp[e]at a ⊢;exact a
noncomputable def zp(l:List$ Int × Int)(w v:Int):List$ Int × Int:=if l.any (λp=>decide$ p.1=w)then l.map λp=>if p.1=w then (p.1,v)else p else l++[(w,v)]
def iT l w v:(zp l w v).length<=l.length+1:=by unfold zp;split<;>simp
theorem yP l w v:Df (Ud l) (.inl w) (U v)=Ud (zp l w v):=by
 have a:((Ud l).any λb=>decide$ b.1=(Sum.inl w))=l.any λp=>decide$ p.1=w:=by
  unfold Ud;rw[VD];congr 1;funext p;simp
 unfold Df zp;rw[a];split
 ·unfold Ud;rw[Bc,Bc];congr 1;funext p;simp;by_cases e:p.1=w;all_goals simp_all
 ·unfold Ud;rw[Dm];rfl
structure Pt where
 (l r u v w:Int)
def Pt.D(p:Pt):Lake.D:=ϐ [U p.l,U p.r,U p.u,U p.v,U p.w]
def JO(p:Pt):cl p.D=š:=by unfold Pt.D;simp
def Pt.i(p:Pt) a:Fb p.D (U 2) a=J (U p.u) a/\Fb p.D (U 3) a=J (U p.v) a/\Fb p.D (U 4) a=J (U p.w) a:=by unfold Pt.D;exact⟨by simp,by simp,jL ..⟩
structure Pt.Ok(p:Pt):Prop where
 u:0<=p.u/\p.u<=1000000000000
 v:0<=p.v/\p.v<=1000000000000
inductive Cl where
 |held
 |laid (s:Int) (x:Sn) (y:Int)
 |taken (s:Int)
def Cl.D(p:Pt):Cl->Lake.D
 | .held=>ϸ 6 ["whole"] [U$ p.u+p.v]
 | .laid s x y=>ϸ 7 ["whole","side","stand","day","wait"] [U$ p.u+p.v,U s,x.D,U y,U p.w]
 | .taken s=>ϸ 8 ["whole","side"] [U$ p.u+p.v,U s]
def Cl.tl:Cl->Lake.D
 | .held=>ϐ [ϒ "held"]
 | .laid s x y=>ϐ [ϒ "laid",U s,x.D,U y]
 | .taken s=>ϐ [ϒ "taken",U s]
def e7(c:Cl):cl c.tl=š:=by cases c<;>simp[Cl.tl,Jq]
def WN a:Fb Cl.held.tl (U 0) a=J (ϒ "held") a:=by unfold Cl.tl;simp
def RU s a:Fb (Cl.taken s).tl (U 0) a=J (ϒ "taken") a/\Fb (Cl.taken s).tl (U 1) a=J (U s) a:=by unfold Cl.tl;simp
def QN s x y a:Fb (Cl.laid s x y).tl (U 0) a=J (ϒ "laid") a/\Fb (Cl.laid s x y).tl (U 1) a=J (U s) a/\Fb (Cl.laid s x y).tl (U 2) a=J x.D a/\Fb (Cl.laid s x y).tl (U 3) a=J (U y) a:=by unfold Cl.tl;simp
def XH:(("held" : Str) == "laid")=į/\(("taken" : Str) == "laid")=į/\(("laid" : Str) == "held")=į/\(("taken" : Str) == "held")=į:=by decide
def wL s x y p a:Vb [7,8,10,11,12,13] "side" ((Cl.laid s x y).D p) a=J (U s) a/\Vb [7] "stand" ((Cl.laid s x y).D p) a=J x.D a/\Vb [7,9] "day" ((Cl.laid s x y).D p) a=J (U y) a/\Vb [7] "wait" ((Cl.laid s x y).D p) a=J (U p.w) a:=⟨Sh (Fm rfl) rfl rfl,Sh (Fm rfl) rfl rfl,Sh (Fm rfl) rfl rfl,Sh (Fm rfl) rfl rfl⟩
structure Bs where
 y:Int
 C:Nat->Cl
 S:Nat->List (Int × Int)
def Sx(c:Nat)(P:Nat->Pt)(y:Int):List$ Str × D:=[("pots",ώ [(P 0).D,(P 1).D]),("day",U y),("claims",O (c+1)),("shown",O (c+2))]
structure bj(c:Nat)(P:Nat->Pt)(B:Bs)(σ:Da):Prop where
 h0:σ[c]?=W1 (ϓ 9 (Sx c P B.y))
 h1:σ[c+1]?=W1 (ϑ [(B.C 0).D (P 0),(B.C 1).D (P 1)])
 h2:σ[c+2]?=W1 (ϑ [O (c+3),O (c+4)])
 h3:∀ i,i<2->σ[c+3+i]?=W1 (ύ (Ud (B.S i)))
def ZO{xs}{i:Nat}(h:σ[n]?=W1 (ϑ xs))(a:xs[i]?=W1 d):Fb (O n) (U i) σ=J d σ:=by
 have l:df σ n=W1 xs:=by unfold df;rw[h]
 unfold Fb;simp[show jl σ (O n)=W1 xs from l,kq a]
def Qa{b:Type}(f:Nat->b)(i:Nat)(a:b):Nat->b:=λj=>if j=i then a else f j
def Dl f i(a:b):Qa f i a i=a:=by simp[Qa]
def Cn f(a:b)(h:j≠i):Qa f i a j=f j:=by simp[Qa,h]
section
variable{c:Nat}{P:Nat->Pt}{B:Bs}{σ:Da}(h:bj c P B σ)
include h
theorem bj.app j:bj c P B$ σ++j:=⟨yl h.h0,yl h.h1,yl h.h2,λi a=>yl$ h.h3 i a⟩
theorem bj.set{n}(d:n<c\/c+4<n) o:bj c P B$ σ.set n o:=by
 have e:∀ k,k<=4->(σ.set n o)[c+k]?=σ[c+k]?:=λk b=>by rw[qb ⋯]
 exact⟨by rw[<-h.h0];exact e 0 ⋯,by rw[<-h.h1];exact e 1 ⋯,by rw[<-h.h2];exact e 2 ⋯,λi a=>by rw[<-h.h3 i a,show c+3+i=c+(3+i) by lia];exact e _ ⋯⟩
theorem SM:qi σ (O c)=W1 (9,Sx c P B.y):=by unfold qi;simp[h.h0]
theorem wm m n a(d:((Sx c P B.y).lookup m=ŋ)⁻¹) b:Ci [(9,a)] n m b (O c) σ=(b σ).bind (Vg n a$ O c):=on (SM h) rfl d
theorem ut{i:Nat}(d:i<2):Vb [9,14,16] "pots" (O c) σ=J (ώ [(P 0).D,(P 1).D]) σ/\Vb [7,9] "day" (O c) σ=J (U B.y) σ/\Vb [9,15] "claims" (O c) σ=J (O$ c+1) σ/\Vb [9] "shown" (O c) σ=J (O$ c+2) σ/\Fb (O$ c+1) (U i) σ=J ((B.C i).D$ P i) σ/\Fb (O$ c+2) (U i) σ=J (O$ c+3+i) σ/\(∀ σ,Fb (ώ [(P 0).D,(P 1).D]) (U i) σ=J (P i).D σ)/\(∀ a b,Ci [(9,a)] 2 "check_pot" b (O c) σ=(b σ).bind (Vg 2 a$ O c))/\∀ a b,Ci [(9,a)] 5 "may_lie" b (O c) σ=(b σ).bind (Vg 5 a$ O c):=by
 have e:=SM h;refine⟨Sh e rfl rfl,Sh e rfl rfl,Sh e rfl rfl,Sh e rfl rfl,ZO h.h1 ?_,ZO h.h2 ?_,λσ=>?_,λa=>wm h "check_pot" 2 a,λa=>wm h "may_lie" 5 a⟩<;>rcases(show i=0\/i=1 by lia)with rfl|rfl<;>first|rfl|simp
theorem mB{i:Nat}(d:i<2):QE [O c,U i] σ=J Ϛ σ:=by
 have F:=ut h d;unfold QE Vd;simp[F,(λσ=>bt (i:=(i:Int)) (a:=0) (b:=1) ⋯ σ)]
theorem aL:Wp [O c] σ=J (U B.y) σ:=by
 have F:=ut h (i:=0) ⋯;unfold Wp Vd;simp[F]
theorem jN:Gs [O c] σ=J (ώ [(P 0).D,(P 1).D]) σ:=by
 have F:=ut h (i:=0) ⋯;unfold Gs Vd;simp[F,(λσ=>uD (xs:=[(P 0).D,(P 1).D]) _ σ),(JO _)]
theorem K3{i:Nat}(d:i<2):aC [O c,U i] σ=J (B.C i).tl σ:=by
 have F:=ut h d;have ct:=e7$ B.C i;have m:∃ b,(∀ a σ,Ci [(6,jE),(7,pG),(8,WF)] 1 "told" a ((B.C i).D$ P i) σ=(a σ).bind (Vg 1 b$ (B.C i).D$ P i))/\∀ σ,b [(B.C i).D$ P i] σ=J (B.C i).tl σ:=by
  cases B.C i with
  |held=>exact⟨jE,λa σ=>on (Fm rfl) rfl rfl,λσ=>by unfold jE Vd;simp[Cl.tl]⟩
  |laid s x y=>
   refine⟨pG,λa σ=>on (Fm rfl) rfl rfl,λσ=>?_⟩;have k:=wL s x y$ P i;have e:=Jq x;unfold pG Vd;dsimp only;show _=J (ϐ [ϒ "laid",U s,x.D,U y]) σ;generalize (Cl.laid s x y).D (P i)=BD,x.D=j at *;simp[k,e]
  |taken s=>
   refine⟨WF,λa σ=>on (Fm rfl) rfl rfl,λσ=>?_⟩;have f:∀ σ,Vb [7,8,10,11,12,13] "side" ((Cl.taken s).D$ P i) σ=J (U s) σ:=λσ=>Sh (Fm rfl) rfl rfl;unfold WF Cl.tl Vd;dsimp only;generalize (Cl.taken s).D (P i)=BD at *;simp[f]
 obtain⟨b,m,t⟩:=m;unfold aC Vd;dsimp only;generalize (B.C i).D (P i)=BD,(B.C i).tl=g at *;simp[F,(mB h d),m,t,ct]
end
@[simp] theorem zpj b f d c a e:EM b f d c a e=zk a (OA a b f d) (c a e):=Bl ..
theorem lT{xs}(h:σ[n]?=W1 (ϑ xs))(a:i<xs.length):eB ρ d (O n) (U i) σ=J (ϙ ρ) (σ.set n$ ϑ$ xs.set i d):=by
 unfold eB KO;have l:df σ n=W1 xs:=by unfold df;rw[h]
 have e:ot xs.length (i:Int)=W1 i:=by unfold ot;rw[ja ⋯,ja ⋯];simp
 simp[l,e]
def iP(p:Pt) a:Jf [p.D] a=J (U$ p.u+p.v) a:=by
 have h:=p.i a;unfold Jf qc;dsimp only
 simp_all
def wV(h:s=0\/s=1) a:Ih [U s] a=J Ϛ a:=by
 unfold Ih qc;simp[(EE h a)]
def mP(b:[5,6,7,8].contains c=š) T a:Mx [O a.length,U T] (a++[ϓ c []])=J Ϛ (a++[ϓ c [("whole",U T)]]):=by
 have p:Mg "whole" (U T) []=([("whole",U T)]:List (Str × D)):=rfl;unfold Mx Ue;simp[(mD (ρ:=[W1 _,W1 _]) (σ:=a) (cs:=[5,6,7,8]) (f:="whole") (d:=U T) (c:=c) (fs:=[]) b _),p]
theorem zv4 p a:ig a (Bj 6 2 Mx [U$ p.u+p.v] a)=J (Cl.held.D p) a:=by
 rw[BL,mP rfl,Zy,lJ ⋯];rfl
theorem r6 p s y x σ:ig σ (Bj 7 6 JC [U$ p.u+p.v,U s,x.D,U y,U p.w] σ)=J ((Cl.laid s x y).D p) σ:=by
 have k:(Cl.laid s x y).D p=ϸ 7 ["whole","side","stand","day","wait"] [U _,U s,x.D,U y,U p.w]:=rfl;rw[k];generalize p.u+p.v=T,p.w=W;have E:=λ(h:dl) (j:h.contains 7=š) (f:Str) (w:D) (g:List _) (l:g.length<1000)=>mD (ρ:=[W1$ O σ.length,W1$ U T,W1$ U s,W1 x.D,W1$ U y,W1$ U W]) (σ:=σ) (cs:=h) (f:=f) (d:=w) (c:=7) (fs:=g) j l;have m:∀ a b:D,Mg "side" b ([("whole",a)]:List (Str × D))=([("whole",a),_]:List (Str × D)):=λq q=>rfl;have n:∀ a b c:D,Mg "stand" c ([("whole",a),("side",b)]:List (Str × D))=([("whole",a),_,("stand",c)]:List (Str × D)):=λq q q=>rfl;have o:∀ a b c d:D,Mg "day" d ([("whole",a),("side",b),("stand",c)]:List (Str × D))=([("whole",a),("side",b),("stand",c),("day",d)]:List (Str × D)):=λq q q q=>rfl;have p4:∀ a b c d e:D,Mg "wait" e ([("whole",a),("side",b),("stand",c),("day",d)]:List (Str × D))=([("whole",a),("side",b),("stand",c),("day",d),("wait",e)]:List (Str × D)):=λq q q q q=>rfl;have i:JC [O σ.length,U T,U s,x.D,U y,U W] (σ++[ϓ 7 []])=J Ϛ (σ++[ϓ 7 [("whole",U T),("side",U s),("stand",x.D),("day",U y),("wait",U W)]]):=by
  unfold JC Ue;dsimp only;generalize x.D=X at *;simp[(mP (c:=7) rfl T σ),E,m,n,o,p4]
 rw[YU,i,Zy,lJ (by simp[(Jq x)])];rfl
theorem Z1 p s e:ig e (Bj 8 3 RG [U$ p.u+p.v,U s] e)=J ((Cl.taken s).D p) e:=by
 have k:(Cl.taken s).D p=ϸ 8 ["whole","side"] [U _,U s]:=rfl;rw[k];generalize p.u+p.v=T;have m:∀ a b:D,Mg "side" b ([("whole",a)]:List (Str × D))=([("whole",a),_]:List (Str × D)):=λn n=>rfl;have i:RG [O e.length,U T,U s] (e++[ϓ 8 []])=J Ϛ (e++[ϓ 8 [("whole",U T),("side",U s)]]):=by
  unfold RG Ue;simp[(mP (c:=8) rfl T e),(λ(h:dl) (j:h.contains 8=š) (f:Str) (w:D) (g:List _) (l:g.length<1000)=>mD (ρ:=[W1$ O e.length,W1$ U T,W1$ U s]) (σ:=e) (cs:=h) (f:=f) (d:=w) (c:=8) (fs:=g) j l),m]
 rw[GQ,i,Zy,lJ ⋯];rfl
section
variable{c:Nat}{P:Nat->Pt}{B:Bs}{σ:Da}(h:bj c P B σ){i:Nat}(hi:i<2)
include h hi
theorem jR a:(∀ b,eB b (a.D$ P i) (O$ c+1) (U i) σ=J (ϙ b) (σ.set (c+1)$ ϑ$ [(B.C 0).D$ P 0,(B.C 1).D$ P 1].set i$ a.D$ P i))/\bj c P { B with C:=Qa B.C i a } (σ.set (c+1)$ ϑ$ [(B.C 0).D$ P 0,(B.C 1).D$ P 1].set i$ a.D$ P i):=by
 refine⟨λb=>lT h.h1 ⋯,⟨by rw[qb ⋯];exact h.h0,?_,by rw[qb ⋯];exact h.h2,λj d=>by rw[qb ⋯];exact h.h3 j d⟩⟩;rw[Ga$ (aa.mp h.h1).1];rcases(show i=0\/i=1 by lia)with rfl|rfl<;>rfl
theorem X5 l:bj c P { B with S:=Qa B.S i l }$ σ.set (c+3+i)$ ύ$ Ud l:=by
 have b:=(aa.mp$ h.h3 i hi).1;refine⟨by rw[qb ⋯];exact h.h0,by rw[qb ⋯];exact h.h1,by rw[qb ⋯];exact h.h2,λj a=>?_⟩;by_cases e:j=i
 ·subst e;rw[Ga b];show _=W1 (ύ$ Ud$ Qa B.S j l j);rw[Dl]
 ·rw[qb ⋯];show _=W1 (ύ$ Ud$ Qa B.S i l j);rw[Cn _ _ e];exact h.h3 j a
theorem oP:Rf σ (O$ c+3+i)=W1 (Ud$ B.S i):=by unfold Rf;simp[h.h3 i hi]
theorem kY{w}(k:0<=w/\w<=59)(j:(B.S i).length<1000):∃ l,l=(if (vl (B.S i) w).isSome then B.S i else zp (B.S i) w B.y)/\Ez [O c,U i,U w] σ=J Ϛ (σ.set (c+3+i)$ ύ$ Ud l)/\bj c P { B with S:=Qa B.S i l } (σ.set (c+3+i)$ ύ$ Ud l):=by
 refine⟨_,rfl,?_,X5 h hi _⟩;have F:=ut h hi;have f:=λσ=>gX k σ;have a:Zo (U w) (O$ c+3+i) σ=J (Ϗ$ !(vl (B.S i) w).isSome) σ:=by
  unfold Zo;simp only[Lq,oP h hi,wO];cases vl _ w<;>rfl
 have n:σ.set (c+3+i) (ύ$ Ud$ B.S i)=σ:=by
  obtain⟨m,e⟩:=aa.mp (h.h3 i hi);rw[<-e];exact Xq m
 unfold Ez Ue;cases b:(vl _ w).isSome with
 |true=>rw[b]at a;rw[ja rfl,n];simp[F,(mB h hi),f,a]
 |false=>
  rw[b]at a;rw[ra ⋯,<-yP];generalize σ.set _ _=o at *;simp[F,(mB h hi),f,a,(λg=>Ur (ρ:=g) (d:=U B.y) (w:=w) (h.h3 i hi) (by unfold Ud;simpa using j))]
end
section
variable{c:Nat}{P:Nat->Pt}{B:Bs}{σ:Da}(h:bj c P B σ)
include h
theorem y9:∃ o,wD [O c] σ=J Ϛ (σ.set c o)/\bj c P { B with y:=B.y+1 } (σ.set c o):=by
 refine⟨ϓ 9$ Sx c P$ B.y+1,?_,?_⟩
 ·have a:∀ b:Ev,OA b [7,9] "day" (eC$ U 1) _ σ=J _ (σ.set c$ ϓ 9$ Sx c P _):=λb=>by
   have e:List.lookup ("day" : Str) (Sx c P B.y)=W1 _:=rfl;unfold OA;rw[(SM h)];simp only[e];rw[Bl,WP,Qj];unfold oH;simp only[h.h0];rfl
  unfold wD Ue;dsimp only
  simp_all
 ·exact⟨by rw[Ga$ (aa.mp h.h0).1],by rw[qb ⋯];exact h.h1,by rw[qb ⋯];exact h.h2,λj d=>by rw[qb ⋯];exact h.h3 j d⟩
end
def o7(x y:Sn) a:∃ b,Zi x.D y.D a=J (Ϗ b) a:=(Ψ a 8 _ _ (UF 5 x)$ UF 5 y).imp λd h=>DH h
section
variable{c:Nat}{P:Nat->Pt}{B:Bs}{σ:Da}(h:bj c P B σ){i:Nat}(hi:i<2){s:Int}(hs:s=0\/s=1){x:Sn}(hx:x.Ok$ (P i).u+(P i).v)
include h hi hs hx
theorem SU(l:(P i).Ok)(ό:B.C i=.held){G}(I:x.D=Gj 0 (P i).u (P i).v []\/G=kh i (1 - s) x.D):∃ o,ae [O c,U i,U s,x.D,G] σ=J Ϛ (σ.set (c+1) o)/\bj c P { B with C:=Qa B.C i (.laid s x B.y) } (σ.set (c+1) o):=by
 obtain⟨N,g⟩:=jR h hi (.laid s x B.y);refine⟨_,?_,g⟩;have F:=ut h hi;rw[ό]at F;have j:=(P i).i;have ϋ:=λσ=>iP (P i) σ;have M:=λσ=>wV hs σ;have r:=λσ=>PP hx.st σ;rw[hx.w]at r;have mk:=λσ=>r6 (P i) s B.y x σ;have m:∀ σ,CF (mF [(6,š),(7,į),(8,į),(9,į),(11,į),(12,į),(13,į),(14,į),(15,į),(16,į)]) (Cl.held.D$ P i) σ=J (Ϗ š) σ:=λσ=>zw5 (Fm rfl) rfl;have k:=λσ=>WQ l.u l.v σ;have K:MG [O c,U i,U s,x.D,G] σ=J (Ϗ š) σ:=by
  have d:(∃ b,Zi x.D (Gj 0 (P i).u (P i).v []) σ=J (Ϗ b) σ/\(b=š\/wk [U i,U s,x.D,G] σ=J (Ϗ š) σ)):=by
   rcases I with e|rfl
   ·exact⟨š,by rw[e];exact BH rfl,ϔ rfl⟩
   ·obtain⟨b,d⟩:=o7 x ⟨0,(P i).u,(P i).v,[]⟩ σ;refine⟨b,d,ϕ ?_⟩;have t:Oe [kh i (1 - s) x.D] σ=J (Ϗ š) σ:=by
     have E:=cC hx.st σ;have H:=λX=>CH (p:=i) ⋯ σ (q:=1 - s) ⋯ (ϒ "agree") X;unfold Sn.D kh Oe qc;simp[E,H]
    have L:=GI s σ;have A:Zi (kh i (1 - s) x.D) (ϐ [ϒ "agree",U i,U$ 1 - s,x.D]) σ=J (Ϗ š) σ:=BH (x:=kh i (1 - s) x.D)$ VL 4 _ _ _;unfold wk qc;dsimp only;generalize kh i (1 - s) x.D=R,x.D=X at *;simp[t,L,A]
  obtain⟨b,d,f⟩:=d;unfold MG Vd;dsimp only;generalize Cl.held.D (P i)=BD,x.D=X,Gj 0 (P i).u (P i).v []=FS at *;generalize (P i).D=z at *;rcases f with rfl|f
  ·simp[F,m,j,k,d]
  ·cases b<;>simp[F,m,j,k,d,f]
 unfold ae fT;generalize σ.set (c+1) (ϑ$ [(B.C 0).D$ P 0,(B.C 1).D$ P 1].set i$ (Cl.laid s x B.y).D$ P i)=Q at *;generalize (Cl.laid s x B.y).D (P i)=S at *;unfold Sn.D at *;generalize Gj x.n x.a x.b x.ts=X,(P i).D=z at *;simp[F,(mB h hi),K,j,ϋ,M,r,mk,N,-Lake.YU]
theorem zqk{y}(z:B.C i=.laid (1 - s) x y)(l:B.y<y+(P i).w):∃ o,vC [O c,U i,U s,vm i (1 - s) x.n] σ=J Ϛ (σ.set (c+1) o)/\bj c P { B with C:=Qa B.C i (.taken s) } (σ.set (c+1) o):=by
 obtain⟨L,f⟩:=jR h hi (.taken s);refine⟨_,?_,f⟩;have F:=ut h hi;rw[z]at F;have ϋ:=λσ=>iP (P i) σ;have K:=λσ=>wV hs σ;have mk:=λσ=>Z1 (P i) s σ;have m:∀ e σ,Ci [(7,FD)] 5 "may_strike" e ((Cl.laid (1 - s) x y).D$ P i) σ=(e σ).bind (Vg 5 FD$ (Cl.laid (1 - s) x y).D$ P i):=λe σ=>on (Fm rfl) rfl rfl;have E:∀ (g:gV->M D) (x a b c d:D) σ,Vg 5 g x [a,b,c,d] σ=g [x,a,b,c,d] σ:=λg x a b c d σ=>Tw rfl;have H:∀ σ,FD [(Cl.laid (1 - s) x y).D$ P i,U i,U s,U B.y,vm i (1 - s) x.n] σ=J (Ϗ š) σ:=λσ=>by
  have k:=wL (1 - s) x y$ P i;have G:∀ e σ,Ci [(7,iw)] 2 "waits" e ((Cl.laid (1 - s) x y).D$ P i) σ=(e σ).bind (Vg 2 iw$ (Cl.laid (1 - s) x y).D$ P i):=λe σ=>on (Fm rfl) rfl rfl;have Q:∀ σ,iw [(Cl.laid (1 - s) x y).D$ P i,U B.y] σ=J (Ϗ š) σ:=λσ=>by
   have b:decide (B.y<y+(P i).w)=š:=ib l;unfold iw Vd;dsimp only;generalize (Cl.laid (1 - s) x y).D (P i)=j at *;simp[k,l]
  have ό:=λσ=>GI (1 - s) σ;have I:∀ σ,Ki (U s) (U$ 1 - (1 - s)) σ=J (Ϗ į) σ:=λσ=>by
   rw[show 1 - (1 - s)=s by omega];exact nw rfl
  have N:∀ σ,Oe [vm i (1 - s) x.n] σ=J (Ϗ š) σ:=λσ=>by
   have u:=QM hx.st.n σ;have v:=λX=>CH (p:=i) ⋯ σ (q:=1 - s) ⋯ (ϒ "strike") X;unfold vm Oe qc;simp[u,v]
  have A:=λσ=>s0 x σ;have t:∀ σ,Zi (vm i (1 - s) x.n) (ϐ [ϒ "strike",U i,U$ 1 - s,U x.n]) σ=J (Ϗ š) σ:=λσ=>BH (x:=vm i (1 - s) x.n) rfl;unfold FD Vd;dsimp only;generalize (Cl.laid (1 - s) x y).D (P i)=j,vm i (1 - s) x.n=r,x.D=ϊ at *;simp[k,G,Q,ό,I,N,A,t]
 unfold vC Ue;dsimp only;generalize σ.set (c+1) (ϑ$ [(B.C 0).D$ P 0,(B.C 1).D$ P 1].set i$ (Cl.taken s).D$ P i)=R at *;generalize (Cl.taken s).D (P i)=T,(Cl.laid (1 - s) x y).D (P i)=j,vm i (1 - s) x.n=r at *;generalize (P i).D=S at *;simp[F,(mB h hi),ϋ,K,mk,m,E,H,L,-Lake.GQ]
end
def IQ{a}{n k i}{g}{rest}{σ c f}{o}{d y}(hd:a[i]?=W1 d)(h:g (W1 d::ŋ::rest) σ=J y c)(j:Ei (O n) [y] c=J Ϛ f) :
  Si (cj.seq a).nx n (Cc 0) wl g (k+1) i (o::ŋ::rest) σ=Si (cj.seq a).nx n (Cc 0) wl g k (i+1) (W1 d::ŋ::rest) f:=by
 rw[Si];have e:(cj.seq a).nx i σ=W1 (W1 d):=by show W1 a[i]?=_;rw[hd]
 have t:Cc 0 d (o::ŋ::rest)=W1 (W1 d::ŋ::rest):=rfl;have b:wl (W1 d::ŋ::rest) σ=J š σ:=rfl;simp only[e,t];rw[fj,fC b,Jc,ja rfl,fj,fC h,Jc,fj,j,Jc]
def S8{a}{n k i}{c}{ρ}{b}(hd:a[i]?=ŋ):Si (cj.seq a).nx n (Cc 0) wl c (k+1) i ρ b=J () b:=by
 rw[Si];have e:(cj.seq a).nx i b=W1 ŋ:=by show W1 a[i]?=_;rw[hd]
 simp[e]
def ń{A C}(c:∀ a,pd [A] a=J (Ϗ š) a)(d:∀ a,pd [C] a=J (Ϗ š) a)(f:cl A=š)(g:cl C=š) a:di [ώ [A,C]] a=J (ώ [A,C]) a:=by
 have st:∀ (k:Int) (X:D),k=0\/k=1->(∀ a,pd [X] a=J (Ϗ š) a)->wH [W1$ ώ [A,C],W1$ U k,W1 X] a=J (ϙ [W1$ ώ [A,C],W1$ U k,W1 X]) a:=λk X e h=>by
  unfold wH;rcases e with rfl|rfl<;>simp[h]
 have n:Do (iq$ ώ [A,C]) (vj 2$ Nf (Cc 1)$ Nf (Cc 2) Lj) wH 1001 0 [W1$ ώ [A,C],ŋ,ŋ] a=J (ϙ [W1$ ώ [A,C],W1$ U 1,W1 C]) a:=by
  rw[mq (k:=1000) (pC (xs:=[A,C]) (i:=0) rfl rfl) (ρ1:=[W1 _,W1$ U 0,W1 A]) rfl,st 0 A (ϔ rfl) c,Jc,Wj];rw[mq (k:=999) (pC (xs:=[A,C]) (i:=1) rfl rfl) (ρ1:=[W1 _,W1$ U 1,W1 C]) rfl,st 1 C (ϕ rfl) d,Jc,Wj];exact Wx (k:=998)$ HP (x:=ώ [A,C]) (xs:=[A,C]) rfl
 have j:∀ a,jz _ a=J (iq$ ώ [A,C]) a:=λa=>GP (xs:=[A,C]) rfl;have l:∀ (tg:D->Ev->Option Ev) (body:Ev->M Fl) (b:Ev) (nx:NX),zO tg body b nx=Do nx tg body 1001 0 b:=λo o o o=>rfl;have m:=uD (xs:=[A,C]) ⋯ a;unfold di iV qc;dsimp only
 simp_all
abbrev pq(c:Nat)(P:Nat->Pt):Da:=ϓ 9 (Sx c P 0)::[ϑ [Cl.held.D$ P 0,Cl.held.D$ P 1],ϑ [O$ c+3,O$ c+4],ύ [],ύ []]
section
variable{M0:Da}{c:Nat}(h7:M0.length=c)
include h7
theorem UI ρ b f d a r(i:b.contains 9=š)(j:a.length<1000):Ds ρ b f d (O c) (M0++ϓ 9 a::r)=J (ϙ ρ) (M0++ϓ 9 (Mg f d a)::r):=by
 have e:Bw b f d (O c) (M0++ϓ 9 a::r)=J () (M0++ϓ 9 (Mg f d a)::r):=by
  have g:(M0++ϓ 9 a::r)[c]?=W1 (ϓ 9 a):=by rw[Gb ⋯,h7];simp
  have h:(M0++ϓ 9 a::r).set c (ϓ 9$ Mg f d a)=M0++ϓ 9 (Mg f d a)::r:=by rw[Le _ _ ⋯,h7];simp
  unfold Bw;simp[g];rw[ja ⋯,h]
 unfold Ds;rw[e]
theorem mZ{b}{xs} a{r d}(h:xs.length<9):Ei (O$ c+1+r.length) [a] (M0++ϓ 9 b::(r++ϑ xs::d))=J Ϛ (M0++ϓ 9 b::(r++ϑ (xs++[a])::d)):=by
 have f:(M0++ϓ 9 b::r).length=c+1+r.length:=by simp;lia
 have e:df (M0++ϓ 9 b::(r++ϑ xs::d)) (c+1+r.length)=W1 xs:=by
  unfold df;rw[show M0++ϓ 9 b::(r++ϑ xs::d)=(M0++ϓ 9 b::r)++ϑ xs::d by simp,Gb ⋯,f];simp
 have g:(M0++ϓ 9 b::(r++ϑ xs::d)).set (c+1+r.length) (ϑ$ xs++[a])=M0++ϓ 9 b::(r++ϑ (xs++[a])::d):=by
  rw[show M0++ϓ 9 b::(r++ϑ xs::d)=(M0++ϓ 9 b::r)++ϑ xs::d by simp,Le _ _ ⋯,f];simp
 unfold Ei;simp[e];rw[ja (by unfold Yf;lia),g]
theorem xW{A C a b}{fe}{fs}{r r0 r1}(h:fs.lookup ("pots" : Str)=W1 (ώ [A,C]))(e:fe [W1 A,ŋ] (M0++ϓ 9 fs::(r++[ϑ []]))=J a (M0++ϓ 9 fs::(r++ϑ []::r0)))(f:fe [W1 C,ŋ] (M0++ϓ 9 fs::(r++ϑ [a]::r0))=J b (M0++ϓ 9 fs::(r++ϑ [a]::r1))) :
  uk (Oo$ Fh$ Pc (Vb [9,14,16] "pots")$ pa 0) [] (Cc 0) wl fe [W1$ O c,W1$ ώ [A,C]] (M0++ϓ 9 fs::r)=J (O$ c+1+r.length) (M0++ϓ 9 fs::(r++ϑ [a,b]::r1)):=by
 have g:∀ r,Vb [9,14,16] "pots" (O c) _=J _ (M0++ϓ 9 fs::r):=λr=>Sh (c:=9) (fs:=fs) (by unfold qi;dsimp only;rw[Gb ⋯,h7];simp) rfl h;have j:Fh (Pc (Vb [9,14,16] "pots")$ pa 0) [W1$ O c,W1$ ώ [A,C]] (M0++ϓ 9 fs::r)=J (.seq [A,C]) (M0++ϓ 9 fs::r):=by
  have g:=g r;generalize M0++ϓ 9 fs::r=Y at *;simp[g]
 have i:(M0++ϓ 9 fs::r).length=c+1+r.length:=by simp;lia
 show rc (rc _ eN) (pL (Cc 0) wl fe$ Uz [] _) (M0++ϓ 9 fs::r)=_;rw[fj,fj,j,Jc];show rc (Si (cj.seq [A,C]).nx (M0++ϓ 9 fs::r).length (Cc 0) wl fe 1001 0 [ŋ,ŋ]) (λk=>ret$ O (M0++ϓ 9 fs::r).length) (M0++ϓ 9 fs::r++[ϑ []])=_;rw[i,fj,show M0++ϓ 9 fs::r++[ϑ []]=M0++ϓ 9 fs::(r++[ϑ []]) by simp,IQ (d:=A) rfl e (show Ei _ _ _=J Ϛ (M0++ϓ 9 fs::(r++ϑ [a]::r0))from mZ h7 a ⋯),IQ (d:=C) rfl f (show Ei _ _ _=J Ϛ (M0++ϓ 9 fs::(r++ϑ [a,b]::r1))from mZ h7 b ⋯),S8 rfl,Jc];rfl
theorem RX{P}(m:∀ i,i<2->∀ d,pd [(P i).D] d=J (Ϗ š) d):Bj 9 2 Ky [ώ [(P 0).D,(P 1).D]] M0=J (O c) (M0++pq c P)/\bj c P ⟨0,λx=>.held,λx=>[]⟩ (M0++pq c P):=by
 refine⟨?_,?_⟩
 ·have n:=λd=>ń (m 0$ by lia) (m 1$ by lia) (JO _) (JO _) d;have e:∀ (p:Pt) (d:Da),Mi (pp 6 2 Mx$ Ba (we 1 Jf []$ Ba (pa 0) Za) Za) [W1 p.D,ŋ] d=J (Cl.held.D p) d:=λp d=>by
   have u:=zv4 p d;have v:=λd=>iP p d;generalize Cl.held.D p=ϋ,p.D=P at *;simp[v,u,-BL]
  have f:=xW h7 (A:=(P 0).D) (C:=(P 1).D) (fe:=Mi$ pp 6 2 Mx$ Ba (we 1 Jf []$ Ba (pa 0) Za) Za) (fs:=[("pots",ώ [(P 0).D,(P 1).D]),("day",U 0)]) (r:=[]) (r0:=[]) (r1:=[]) rfl (e _ _)$ e _ _;have j:=xW h7 (A:=(P 0).D) (C:=(P 1).D) (fe:=yq) (a:=O$ c+3) (b:=O$ c+4) (fs:=[("pots",ώ [(P 0).D,(P 1).D]),("day",U 0),("claims",O (c+1))]) (r:=[ϑ [Cl.held.D$ P 0,Cl.held.D$ P 1]]) (r0:=[ύ []]) (r1:=[ύ [],ύ []]) rfl (by rw[dL];simp[h7]) (by rw[dL];simp[h7]);rw[BL,h7];have h:Ky [O c,ώ [(P 0).D,(P 1).D]] (M0++[ϓ 9 []])=J Ϛ (M0++ϓ 9 (Sx c P 0)::[ϑ [Cl.held.D$ P 0,Cl.held.D$ P 1],ϑ [O$ c+3,O$ c+4],ύ [],ύ []]):=by
   unfold Ky Sx Ue
   (try dsimp only);rw[Vp,fw]
   show Tn (Lb _ _ [W1$ O c,W1$ ώ [(P 0).D,(P 1).D]]$ M0++ϓ 9 []::[])=_;generalize ώ [(P 0).D,(P 1).D]=L at *;have o:Mg "pots" L []=([("pots",L)]:List (Str × D)):=rfl;have q:Mg "day" (U 0) [("pots",L)]=([("pots",L),("day",U 0)]:List (Str × D)):=rfl;have s:Mg "claims" (O$ c+1) [("pots",L),("day",U 0)]=([("pots",L),("day",U 0),("claims",O (c+1))]:List (Str × D)):=rfl;have t:Mg "shown" (O$ c+2) [("pots",L),("day",U 0),("claims",O (c+1))]=([("pots",L),("day",U 0),("claims",O (c+1)),("shown",O (c+2))]:List (Str × D)):=rfl;rw[Bf];simp only[SC,RK,ED,xC,js,Jc,zG,bC,JE,yl6,n,Qj,TC];rw[UI h7 _ _ _ _ _ _ rfl ⋯,o,Jc,Af,Bf];simp only[SC,WP,js,Qj,TC];rw[UI h7 _ _ _ _ _ _ rfl ⋯,q,Jc,Af,Bf];rw[SC,f,Qj,TC,js,Qj];show Tn ((Ds _ _ "claims" (O$ c+1) (O c)$ M0++ϓ 9 _::[ϑ [Cl.held.D$ P 0,Cl.held.D$ P 1]]).bind _)=_;rw[UI h7 _ _ _ _ _ _ rfl ⋯,s,Jc,Af];rw[SC,j,Qj,TC,js,Qj];show Tn (Ds _ _ "shown" (O$ c+2) (O c)$ M0++ϓ 9 _::[ϑ [Cl.held.D$ P 0,Cl.held.D$ P 1],ϑ [O$ c+3,O$ c+4],ύ [],ύ []])=_;rw[UI h7 _ _ _ _ _ _ rfl ⋯,t,BO]
  rw[h,Zy]
 ·have g:∀ (k:Nat) (l:Da),(M0++l)[c+k]?=l[k]?:=λk l=>by rw[Gb ⋯,h7];congr 1;lia
  refine⟨?_,?_,?_,λi w=>?_⟩
  ·exact g 0 _
  ·rw[g];rfl
  ·rw[g];rfl
  ·rw[show c+3+i=c+(3+i) by lia,g];rcases(show i=0\/i=1 by lia)with rfl|rfl<;>rfl
end
def nh(l m:List$ Int × Int):List$ Int × Int:=m.foldl (λa p=>zp a p.1 p.2) l
theorem Ś l m:DA (Ud l) (Ud m)=Ud (nh l m):=by
 unfold DA nh;induction m generalizing l with
 |nil=>rfl
 |cons p m a=>show List.foldl _ (Df _ _ _) (Ud m)=_;rw[yP,a];rfl
def wE l m:(nh l m).length<=l.length+m.length:=by
 unfold nh;induction m generalizing l with
 |nil=>simp
 |cons p m a=>have b:=a$ zp l p.1 p.2;have c:=iT l p.1 p.2;simp;lia
theorem TU:∀ l:List$ Int × Int,jw (Ud l)=W1 (l.map (·.1))
 |[]=>rfl
 |p::l=>by show (jw$ Ud l).map _=_;rw[TU l];rfl
def rq(l:List$ Int × Int):dd:=ww (l.map (·.1))
section
variable{c:Nat}{P:Nat->Pt}{B:Bs}{σ:Da}(h:bj c P B σ)
include h
theorem θ{i:Nat}(a:i<2):HD [O c,U i] σ=J (O σ.length) (σ++[ύ$ Ud$ B.S i]):=by
 have b:IC [O$ c+3+i] σ=J (O σ.length) (σ++[ύ$ Ud$ B.S i]):=by unfold IC;simp[oP h a]
 unfold HD Ue;simp[(mB h a),(ut h a),b]
theorem Č(j:(B.S 0).length+(B.S 1).length<64):vD [O c] σ=J (ώ$ (rq$ nh (nh []$ B.S 0)$ B.S 1).map U) σ:=by
 have E:c+4<σ.length:=(aa.mp$ h.h3 1$ by omega).1;have p:∀ l:List$ Int × Int,(σ++[ύ$ Ud l])[σ.length]?=W1 (ύ$ Ud l):=λl=>by simp
 have st:∀ (i:Nat) (l:List$ Int × Int),i<2->l.length+(B.S i).length<64->uz [W1$ O c,W1$ O σ.length,W1$ O$ c+3+i] (σ++[ύ$ Ud l])=J (ϙ [W1$ O c,W1$ O σ.length,W1$ O$ c+3+i]) (σ++[ύ$ Ud$ nh l$ B.S i]):=λi l s j=>by
  have g:∀ f,IA rA f (O σ.length) (σ++[ύ$ Ud l])=(f$ σ++[ύ$ Ud l]).bind (rA$ O σ.length):=λf=>by
   have:Rf (σ++[ύ$ Ud l]) (O σ.length)=W1 (Ud l):=by unfold Rf;simp
   unfold IA;rw[this];rfl
  have A:rA (O σ.length) [O$ c+3+i] (σ++[ύ$ Ud l])=J Ϛ (σ++[ύ$ Ud$ nh l$ B.S i]):=by
   have n:=oP (h.app [ύ$ Ud l]) s;have v:apart σ.length (O$ c+3+i)=š:=by
    have:¬ c+3+i=σ.length:=by omega
    simp[apart,this]
   have t:(Ud l).length+(Ud$ B.S i).length<=Yf:=by unfold Ud Yf;simp;omega
   unfold rA;simp only[p,n,v];rw[ja (by simpa using t),Ś];simp
  unfold uz;generalize σ++[ύ$ Ud$ nh l$ B.S i]=k at *;generalize σ++[ύ$ Ud l]=Y at *;simp[g,A]
 have b:∀ l,df (σ++[ύ$ Ud l]) (c+2)=W1 [O$ c+3,O$ c+4]:=λl=>by unfold df;rw[yl h.h2]
 have u:As (Cc 2) uz (c+2) 1001 0 [W1$ O c,W1$ O σ.length,ŋ] (σ++[ύ$ Ud []])=J (ϙ [W1$ O c,W1$ O σ.length,W1$ O$ c+4]) (σ++[ύ$ Ud$ nh (nh []$ B.S 0)$ B.S 1]):=by
  rw[As];simp only[b];show (uz [W1$ O c,W1$ O σ.length,W1$ O$ c+3+0]$ σ++[ύ$ Ud []]).bind _=_;rw[st 0 [] ⋯ (by simp;omega),Jc,Wj,As];simp only[b];show (uz [W1$ O c,W1$ O σ.length,W1$ O$ c+3+1]$ σ++[ύ$ Ud$ nh []$ B.S 0]).bind _=_;rw[st 1 _ ⋯ (by have:=wE []$ B.S 0;simp at this;omega),Jc,Wj,As];simp only[b];rfl
 have y:Kx (O$ c+2) (σ++[ύ$ Ud []])=J (.Ol$ c+2) (σ++[ύ$ Ud []]):=by
  unfold Kx;simp only[b]
 have q:∀ ρ,IF (Cc 2) uz ρ (.Ol$ c+2)=As (Cc 2) uz (c+2) 1001 0 ρ:=λD=>rfl;have w:=(ut (h.app [ύ$ Ud []]) (i:=0)$ by lia).2.2.2.1;have x:∀ l:List$ Int × Int,l.length<64->ig (σ++[ύ$ Ud l]) (bx [O σ.length]$ σ++[ύ$ Ud l])=J (ώ$ (rq l).map U) (σ++[ύ$ Ud l]):=λl j=>by
  have e:wf (σ++[ύ$ Ud l]) (O σ.length)=ŋ:=by unfold wf df;simp
  have d:Rf (σ++[ύ$ Ud l]) (O σ.length)=W1 (Ud l):=by unfold Rf;simp
  have o:bx [O σ.length] (σ++[ύ$ Ud l])=J (O (σ++[ύ$ Ud l]).length) (σ++[ύ$ Ud l]++[ϑ$ (rq l).map U]):=by
   unfold bx;simp only[e];unfold AG;simp only[d,TU];rw[ja (by simpa using j)];rfl
  rw[o];exact xz (zH λD=>by simp)
 have z:=x (nh (nh []$ B.S 0)$ B.S 1) (by have g:=wE []$ B.S 0;have C:=wE (nh []$ B.S 0)$ B.S 1;simp at g;omega);have m:cl (ώ$ (rq$ nh (nh []$ B.S 0)$ B.S 1).map U)=š:=by show zf _=š;exact zH λD=>by simp
 have fz:=iJ (σ:=σ) (a:=ύ$ Ud$ nh (nh []$ B.S 0)$ B.S 1) m;have r:(σ++[ύ []]:Da)=σ++[ύ$ Ud []]:=rfl;unfold vD pU Vd;dsimp only;generalize ώ ((rq$ nh (nh []$ B.S 0)$ B.S 1).map U)=W at *;generalize σ++[ύ$ Ud$ nh (nh []$ B.S 0)$ B.S 1]=k at *;generalize σ++[ύ$ Ud []]=Y at *;simp[r,w,y,q,u,z,fz]
end
@[simp] theorem zwf{e} d x a b c:Vg 4 d x [a,b,c] e=d [x,a,b,c] e:=Tw rfl
theorem w9{b}{r}{xs}(c:b[r]?=W1 (ϑ xs))(d:xs.length<900) a:Ei (O r) [a] b=J Ϛ (b.set r$ ϑ$ xs++[a]):=by
 have e:df b r=W1 xs:=by unfold df;rw[c]
 unfold Ei;simp only[e];rw[ja (by unfold Yf;lia)]
def UL{a}{r}{xs}(c:a[r]?=W1 (ϑ xs)) b:Dt Ei b (O r) a=(b a).bind (Ei$ O r):=by
 have e:df a r=W1 xs:=by unfold df;rw[c]
 unfold Dt wf
 simp_all
def uu(b:Nat)(e y:Int):List$ Str × D:=[("hand",U 0),("every",U e),("last_look",U y),("gave",U 0),("known",O (b+1)),("accounts",O (b+2)),("claims",O (b+3)),("seen",O (b+4)),("asked",O (b+5)),("finishing",O (b+6))]
structure Lk where
 (e y:Int)
 K:dd
 n:Nat->Nat
 a:Nat->Ac
 C:Nat->D
 E:Nat->D
 F:Kv
 xx:Nat->Option Ob
def Lk.A(l:Lk):Kv:=[(.inl 0,O (l.n 0)),(.inl 1,O (l.n 1))]
def Fx(b:Nat)(X:Nat->Option Ob)(a:Da):Prop:=∀ r o,X r=W1 o->(r+9=b\/b<=r+3/\r<b\/r=b+5)/\a[r]?=W1 o
def Fx.app{b}{X}{a}(h:Fx b X a) j:Fx b X$ a++j:=λr o e=>⟨(h r o e).1,yl (h r o e).2⟩
def Fx.set{b}{X}{a}(h:Fx b X a){r}(c:r+9≠b/\(r+3<b\/b<=r)/\r≠b+5) x:Fx b X$ a.set r x:=λn o e=>⟨(h n o e).1,Yd (by have:=(h n o e).1;lia) (h n o e).2⟩
structure KL(b:Nat)(l:Lk)(o:Ob)(σ:Da):Prop where
 h0:σ[b]?=W1 (ϓ 15 (uu b l.e l.y))
 h1:σ[b+1]?=W1 (ύ (zm l.K))
 h2:σ[b+2]?=W1 o
 h3:σ[b+3]?=W1 (ύ [(.inl 0,l.C 0),(.inl 1,l.C 1)])
 h4:σ[b+4]?=W1 (ύ [(.inl 0,l.E 0),(.inl 1,l.E 1)])
 h6:σ[b+6]?=W1 (ύ l.F)
 x:Fx b l.xx σ
 a:∀ j,j<2->Di σ (l.n j) (l.a j)/\(l.a j).Ok
section
variable{b:Nat}{l:Lk}{o:Ob}{σ:Da}(h:KL b l o σ)
include h
theorem KL.app j:KL b l o$ σ++j:=⟨yl h.h0,yl h.h1,yl h.h2,yl h.h3,yl h.h4,yl h.h6,h.x.app j,λi c=>⟨(h.a i c).1.app j,(h.a i c).2⟩⟩
theorem KL.set{r}(f:r+9≠b/\r+3<b\/b+6<r)(d:∀ j,j<2->l.n j≠r) x:KL b l o$ σ.set r x:=⟨Yd ⋯ h.h0,Yd ⋯ h.h1,Yd ⋯ h.h2,Yd ⋯ h.h3,Yd ⋯ h.h4,Yd ⋯ h.h6,h.x.set ⋯ _,λj c=>⟨Yd (λe=>d j c e.symm) (h.a j c).1,(h.a j c).2⟩⟩
theorem mu:qi σ (O b)=W1 (15,uu b l.e l.y):=by unfold qi;simp[h.h0]
theorem QY:Vb [14,15,16] "every" (O b) σ=J (U l.e) σ:=Sh (mu h) rfl rfl
theorem XC:Vb [14,15] "last_look" (O b) σ=J (U l.y) σ:=Sh (mu h) rfl rfl
theorem NO:Vb [14,15] "known" (O b) σ=J (O$ b+1) σ:=Sh (mu h) rfl rfl
theorem Qu:Vb [15] "accounts" (O b) σ=J (O$ b+2) σ:=Sh (mu h) rfl rfl
theorem My:Vb [9,15] "claims" (O b) σ=J (O$ b+3) σ:=Sh (mu h) rfl rfl
theorem UJ:Vb [15] "seen" (O b) σ=J (O$ b+4) σ:=Sh (mu h) rfl rfl
theorem tZ:Vb [15] "finishing" (O b) σ=J (O$ b+6) σ:=Sh (mu h) rfl rfl
theorem mj m n a(d:((uu b l.e l.y).lookup m=ŋ)⁻¹) c:Ci [(15,a)] n m c (O b) σ=(c σ).bind (Vg n a$ O b):=on (mu h) rfl d
theorem PY{c:Nat->D}{n}(hd:σ[n]?=W1 (ύ [(.inl 0,c 0),(.inl 1,c 1)])){j:Nat}(a:j<2):zj (O n) (U j) σ=J (c j) σ:=GJ hd (by rcases(show j=0\/j=1 by lia)with rfl|rfl<;>rfl)
theorem GG{j:Nat}(a:j<2):zj (O$ b+3) (U j) σ=J (l.C j) σ:=PY h h.h3 a
theorem xM{j:Nat}(a:j<2):zj (O$ b+4) (U j) σ=J (l.E j) σ:=PY h h.h4 a
theorem yR{c}{n}(hd:σ[n]?=W1 (ύ [(.inl 0,c 0),(.inl 1,c 1)])){j:Nat}(a:j<2) d ρ:Im ρ d (O n) (U j) σ=J (ϙ ρ) (σ.set n$ ύ [(.inl 0,Qa c j d 0),(.inl 1,Qa c j d 1)]):=by
 rw[Ur hd ⋯];rcases(show j=0\/j=1 by lia)with rfl|rfl<;>rfl
theorem KR{j:Nat}(c:j<2) d(f:∀ j,j<2->l.n j≠b+3):∃ x,(∀ ρ,Im ρ d (O$ b+3) (U j) σ=J (ϙ ρ) (σ.set (b+3) x))/\KL b { l with C:=Qa l.C j d } o (σ.set (b+3) x):=
 ⟨_,yR h h.h3 c d,⟨Yd ⋯ h.h0,Yd ⋯ h.h1,Yd ⋯ h.h2,Ga (aa.mp h.h3).1,Yd ⋯ h.h4,Yd ⋯ h.h6,h.x.set ⋯ _,λj c=>⟨Yd (λe=>f j c e.symm) (h.a j c).1,(h.a j c).2⟩⟩⟩
theorem yql{j:Nat}(c:j<2) d(f:∀ j,j<2->l.n j≠b+4):∃ x,(∀ ρ,Im ρ d (O$ b+4) (U j) σ=J (ϙ ρ) (σ.set (b+4) x))/\KL b { l with E:=Qa l.E j d } o (σ.set (b+4) x):=
 ⟨_,yR h h.h4 c d,⟨Yd ⋯ h.h0,Yd ⋯ h.h1,Yd ⋯ h.h2,Yd ⋯ h.h3,Ga (aa.mp h.h4).1,Yd ⋯ h.h6,h.x.set ⋯ _,λj c=>⟨Yd (λe=>f j c e.symm) (h.a j c).1,(h.a j c).2⟩⟩⟩
end
def m8{σ}{n c}{a}(h:σ[n]?=W1 (ϓ c a)){cs}(b:cs.contains c=š)(g:a.length<1000) ρ f d:Ds ρ cs f d (O n) σ=J (ϙ ρ) (σ.set n$ ϓ c$ Mg f d a):=by
 have e:Bw cs f d (O n) σ=J () (σ.set n$ ϓ c$ Mg f d a):=by
  unfold Bw;simp only[h];rw[ja ⋯]
 unfold Ds;rw[e]
section
variable{b:Nat}{l:Lk}{o:Ob}{σ:Da}(h:KL b l o σ)
include h
theorem fD{j}(g:j<2):l.n j≠b/\l.n j≠b+1/\l.n j≠b+3/\l.n j≠b+4/\l.n j≠b+6:=by
 obtain⟨d,ok⟩:=h.a j g;unfold Di at d;refine⟨λe=>?_,λe=>?_,λe=>?_,λe=>?_,λe=>?_⟩
 ·have f:=h.h0;rw[e,f]at d;injection (Cb d)with e2 _;have:=ok.c;rw[<-e2]at this;simp at this
 ·have f:=h.h1;rw[e,f]at d;cases d
 ·have f:=h.h3;rw[e,f]at d;cases d
 ·have f:=h.h4;rw[e,f]at d;cases d
 ·have f:=h.h6;rw[e,f]at d;cases d
theorem oG{A A':Kv}(g:o=ύ A\/o=ϣ A) c:KL b l c$ σ.set (b+2) c:=⟨Yd ⋯ h.h0,Yd ⋯ h.h1,Ga (aa.mp h.h2).1,Yd ⋯ h.h3,Yd ⋯ h.h4,Yd ⋯ h.h6,h.x.set ⋯ _,λj d=>⟨Yd (λe=>by
 have f:=(h.a j d).1;unfold Di at f;rw[<-e,h.h2]at f;rcases g with rfl|rfl<;>cases f) (h.a j d).1,(h.a j d).2⟩⟩
theorem Ŏ{c}{P}{B}(v:bj c P B σ)(k:c+8=b) i:∃ f,jO [W1$ O b,W1$ O c,i] σ=J (ϙ [W1$ O b,W1$ O c,i]) (σ.set b f)/\KL b { l with y:=B.y } o (σ.set b f)/\bj c P B (σ.set b f):=by
 refine⟨ϓ 15 _,?_,⟨Ga (aa.mp h.h0).1,Yd ⋯ h.h1,Yd ⋯ h.h2,Yd ⋯ h.h3,Yd ⋯ h.h4,Yd ⋯ h.h6,h.x.set ⋯ _,λj d=>⟨Yd (λe=>(fD h d).1 e.symm) (h.a j d).1,(h.a j d).2⟩⟩,v.set (ϕ$ by lia) _⟩;have g:=λm=>m8 h.h0 (cs:=[14,15]) rfl (by simp[uu]) m "last_look"$ U B.y;rw[show Mg "last_look" (U B.y) _=uu b l.e B.y from rfl]at g;simp[(aL v),(wm v "today" 1 Wp),g]
theorem YV{c}{P}{B}(v:bj c P B σ)(H:c+8=b){j:Nat}(g:j<2):∃ a,mO [W1$ O b,W1$ O c,W1$ U j] σ=J (ϙ [W1$ O b,W1$ O c,W1$ U j]) a/\KL b { l with C:=Qa l.C j (B.C j).tl,E:=Qa l.E j (O σ.length) } o a/\bj c P B a/\a.length=σ.length+1/\a[σ.length]?=W1 (ύ$ Ud$ B.S j)/\∀ r,b+4<r->∀ x,σ[r]?=W1 x->a[r]?=W1 x:=by
 obtain⟨x,s1,I⟩:=KR h g (B.C j).tl (λm k=>(fD h k).2.2.1);have N:=K3 v g;have L:=wm v "told" 2 aC;have w:=My h;have s:=v.set (n:=b+3) (ϕ$ by lia) x;have f:(σ.set (b+3) x).length=σ.length:=wg;have D:∀ r,b+4<r->∀ z,σ[r]?=W1 z->(σ.set (b+3) x)[r]?=W1 z:=λr i z e=>Yd ⋯ e;generalize σ.set (b+3) x=d at *;have u:=θ s g;have K:=wm s "shown_for" 2 HD;have p:=I.app [ύ$ Ud$ B.S j];have ϋ:=s.app [ύ$ Ud$ B.S j];have q:(d++[ύ$ Ud$ B.S j]).length=σ.length+1:=by simp[f]
 have G:(d++[ύ$ Ud$ B.S j])[σ.length]?=W1 (ύ$ Ud$ B.S j):=by rw[<-f];simp
 have F:∀ r,b+4<r->∀ x,σ[r]?=W1 x->(d++[ύ$ Ud$ B.S j])[r]?=W1 x:=λr i x e=>yl$ D r i x e;rw[f]at u;generalize d++[ύ$ Ud$ B.S j]=t at *;have A:=UJ p;obtain⟨y,M,ό⟩:=yql p g (O σ.length) (λm k=>(fD p k).2.2.2.1);have bl:b+4<σ.length:=by have:=(aa.mp h.h6).1;omega
 refine⟨_,?_,ό,ϋ.set (ϕ$ by omega) _,by rw[wg,q],Yd ⋯ G,λr i x e=>Yd ⋯$ F r i x e⟩;generalize t.set (b+4) y=Q at *;generalize (B.C j).tl=R at *;simp[N,L,w,s1,u,K,A,M]
end
section
variable{b:Nat}{l:Lk}{σ σ1 σ2:Da}(h:KL b l (ύ l.A) σ){tg:D->Ev->Option Ev}{body:Ev->M Fl}{r:Ev}{ρ1 ρ2 ρ3 ρ4:Ev}
include h
theorem YS:Pc (Vb [15] "accounts") (pa 0) (W1 (O b)::r) σ=J (O$ b+2) σ:=by
 have:=Qu h
 simp_all
theorem E2(g:tg (U 0) (W1 (O b)::r)=W1 ρ1)(d:body ρ1 (σ.set (b+2)$ ϣ l.A)=J (ϙ ρ2) σ1)(i:tg (U 1) ρ2=W1 ρ3)(e:body ρ3 σ1=J (ϙ ρ4) σ2)(c:σ2[b+2]?=W1 (ϣ l.A)):ur (Pc (Vb [15] "accounts")$ pa 0) (Kk (kJ$ Pc (Vb [15] "accounts")$ pa 0) tg body) (W1 (O b)::r) σ=J (ϙ ρ4) (σ2.set (b+2)$ ύ l.A):=by
 have a:=YS h (r:=r);have f:kJ (Pc (Vb [15] "accounts")$ pa 0) (W1 (O b)::r) σ=J (GF l.A) (σ.set (b+2)$ ϣ l.A):=by
  show rc _ XI _=_;rw[fj,a,Jc];unfold XI;simp[h.h2]
 refine zI a h.h2 f ?_ c;rw[mq rfl g,d,Jc,Wj,mq rfl i,e,Jc,Wj];exact Wx rfl
theorem rL(f:tg (ϐ [U 0,O$ l.n 0]) (W1 (O b)::r)=W1 ρ1)(d:body ρ1 (σ.set (b+2)$ ϣ l.A)=J (ϙ ρ2) σ1)(g:tg (ϐ [U 1,O$ l.n 1]) ρ2=W1 ρ3)(e:body ρ3 σ1=J (ϙ ρ4) σ2)(c:σ2[b+2]?=W1 (ϣ l.A)):ur (Pc (Vb [15] "accounts")$ pa 0) (Kk (gq$ Pc (Vb [15] "accounts")$ pa 0) tg body) (W1 (O b)::r) σ=J (ϙ ρ4) (σ2.set (b+2)$ ύ l.A):=by
 have a:=YS h (r:=r);refine zI a h.h2 (mU a h.h2) ?_ c;rw[mq rfl f,d,Jc,Wj,mq rfl g,e,Jc,Wj];exact Wx$ UQ l.A _
theorem yno{c}{P}{B}(v:bj c P B σ)(f:c+8=b):∃ N d,CK [W1$ O b,W1$ O c,ŋ] σ=J (ϙ [W1$ O b,W1$ O c,W1$ U 1]) d/\KL b { l with C:=λj=>(B.C j).tl,E:=λj=>O$ N+j } (ύ l.A) d/\bj c P B d/\(b+6<N/\N=σ.length)/\∀ j,j<2->d[N+j]?=W1 (ύ$ Ud$ B.S j):=by
 have s:=oG h (A:=l.A) (A':=l.A) (ϔ rfl)$ ϣ l.A;have y:=v.set (n:=b+2) (ϕ$ by lia)$ ϣ l.A;have t:(σ.set (b+2)$ ϣ l.A).length=σ.length:=wg;obtain⟨σ1,o,m,u,l1,i,D⟩:=YV s y f (j:=0) ⋯;obtain⟨σ2,p,g,w,l2,k,q⟩:=YV m u f (j:=1) ⋯;have cl:b+6<σ.length:=(aa.mp h.h6).1;rw[t]at l1 i m g;rw[l1]at l2 k g;have e:=oG g (A:=l.A) (A':=l.A) (ϕ rfl)$ ύ l.A;refine⟨σ.length,σ2.set (b+2)$ ύ l.A,?_,?_,w.set (ϕ$ by omega) _,⟨cl,rfl⟩,λj F=>?_⟩
 ·exact E2 h (r:=[W1$ O c,ŋ]) (tg:=Cc 2) (body:=mO) rfl o rfl p g.h2
 ·have z:Qa (Qa l.C 0 (B.C 0).tl) 1 (B.C 1).tl 0=(B.C 0).tl/\Qa (Qa l.C 0 (B.C 0).tl) 1 (B.C 1).tl 1=(B.C 1).tl:=⟨rfl,rfl⟩
  exact⟨e.h0,e.h1,e.h2,e.h3,e.h4,e.h6,e.x,e.a⟩
 ·rcases(show j=0\/j=1 by omega)with rfl|rfl
  ·exact Yd ⋯$ q _ ⋯ _ i
  ·exact Yd ⋯ k
end
structure KB(b c:Nat)(P:Nat->Pt)(B:Bs)(l:Lk)(N:Nat)(S:Nat->List (Int × Int))(o:Ob)(σ:Da):Prop where
 k:KL b l o σ
 v:bj c P B σ
 bc:c+8=b
 cn:b+6<N
 e:∀ j,j<2->l.E j=O (N+j)
 s:∀ j,j<2->σ[N+j]?=W1 (ύ (Ud (S j)))
 n:∀ j,j<2->b+6<l.n j/\l.n j<N
section
variable{b c:Nat}{P:Nat->Pt}{B:Bs}{l:Lk}{N:Nat}{S:Nat->List (Int × Int)}{o:Ob}{σ:Da}(h:KB b c P B l N S o σ)
include h
theorem KB.app j:KB b c P B l N S o$ σ++j:=⟨h.k.app j,h.v.app j,h.bc,h.cn,h.e,λi a=>yl$ h.s i a,h.n⟩
theorem KB.swap{A}(f:o=ύ A\/o=ϣ A) a:KB b c P B l N S a$ σ.set (b+2) a:=by
 have:=h.bc;have:=h.cn;exact⟨oG h.k (A':=A) f a,h.v.set (ϕ$ by lia) a,h.bc,h.cn,h.e,λi d=>Yd ⋯$ h.s i d,h.n⟩
theorem KB.setC{j:Nat}(f:j<2) d:∃ x,(∀ ρ,Im ρ d (O$ b+3) (U j) σ=J (ϙ ρ) (σ.set (b+3) x))/\KB b c P B { l with C:=Qa l.C j d } N S o (σ.set (b+3) x):=by
 obtain⟨x,s1,p⟩:=KR h.k f d (λm g=>(fD h.k g).2.2.1);have:=h.bc;have:=h.cn;exact⟨x,s1,p,h.v.set (ϕ$ by lia) _,h.bc,h.cn,h.e,λi a=>Yd ⋯$ h.s i a,h.n⟩
theorem KB.Au f:KB b c P B { l with K:=f } N S o$ σ.set (b+1)$ ύ$ zm f:=by
 have:=h.bc;have:=h.cn;exact⟨⟨Yd ⋯ h.k.h0,Ga (aa.mp h.k.h1).1,Yd ⋯ h.k.h2,Yd ⋯ h.k.h3,Yd ⋯ h.k.h4,Yd ⋯ h.k.h6,h.k.x.set ⋯ _,λj d=>⟨Yd (λe=>(fD h.k d).2.1 e.symm) (h.k.a j d).1,(h.k.a j d).2⟩⟩,h.v.set (ϕ$ by lia) _,h.bc,h.cn,h.e,λi g=>Yd ⋯$ h.s i g,h.n⟩
theorem KB.book{r}(g:c<=r/\r<=c+4){x}{a}(v:bj c P a$ σ.set r x):KB b c P a l N S o$ σ.set r x:=by
 have:=h.bc;have:=h.cn;exact⟨h.k.set (ϔ$ by lia) (λj f=>by have:=h.n j f;lia) x,v,h.bc,h.cn,h.e,λi d=>Yd ⋯$ h.s i d,h.n⟩
theorem KB.seen{j}(d:j<2) s:KB b c P B l N (Qa S j s) o$ σ.set (N+j)$ ύ$ Ud s:=by
 have:=h.bc;have:=h.cn;refine⟨h.k.set (ϕ$ by lia) (λj d=>by have:=h.n j d;lia) _,h.v.set (ϕ$ by lia) _,h.bc,h.cn,h.e,λi a=>?_,h.n⟩;by_cases e:i=j
 ·subst e;rw[Ga (aa.mp$ h.s i a).1,Dl]
 ·rw[qb ⋯,Cn _ _ e];exact h.s i a
theorem ň{ws:dd}(d:l.K.length+ws.length<900):∃ a,ou [O b,ώ$ ws.map U] σ=J Ϛ a/\KB b c P B { l with K:=ws.foldl Dn l.K } N S o a:=⟨_,cT h.k.h0 rfl h.k.h1 d,h.Au _⟩
theorem O4(j:(B.S 0).length+(B.S 1).length<64)(n:l.K.length<=300) d:∃ a,nO [W1$ O b,W1$ O c,d] σ=J (ϙ [W1$ O b,W1$ O c,d]) a/\KB b c P B { l with K:=(rq$ nh (nh []$ B.S 0)$ B.S 1).foldl Dn l.K } N S o a:=by
 have f:=Č h.v j;have p:(rq$ nh (nh []$ B.S 0)$ B.S 1).length<64:=by
  have g:=wE []$ B.S 0;have m:=wE (nh []$ B.S 0)$ B.S 1;unfold rq;rw[(ez _).length_eq,Ja];simp at g;lia
 obtain⟨a,e,i⟩:=ň h (ws:=rq$ nh (nh []$ B.S 0)$ B.S 1) ⋯;refine⟨a,?_,i⟩;generalize ώ ((rq$ nh _$ B.S 1).map U)=W at *;simp[f,(wm h.v "all_shown" 1 vD),(mj h.k "learn" 2 ou),e]
end
theorem iW(b:Da)(n:Int):∀ a:dd,Ov b (U n) (a.map U)=W1 (a.map λm=>m == n)
 |[]=>rfl
 |m::a=>by
  have c:=iW b n a;simp only[db];unfold Ov;rw[c];rfl
def ö b n(a:dd):nC į (U n) (ώ$ a.map U) b=J (Ϗ$ (a.map λm=>m == n).any id) b:=Û (CV _)$ iW b n a
noncomputable def Cl.gu(q:Int)(a:dd):Cl->Bool
 | .laid s x _=>decide (s≠q) && (a.map λm=>m == x.n).any id
 |_=>į
def N3{b}{n}{a}(h:Di b n a)(o:a.Ok){f}(e:a.L=f.map U)(c:Cl):Zg [O n,c.tl] b=J (Ϗ$ c.gu a.q f) b:=by
 have j:=px h o;have st:=XW h o;rw[e]at st;have k:=λn=>ö b n f;unfold Zg qc;cases c with
 |held=>
  have d:=WN;generalize Cl.held.tl=g at *;simp[d,XH,Cl.gu]
 |taken s=>
  have d:=RU s;generalize (Cl.taken s).tl=g at *;simp[d,XH,Cl.gu]
 |laid s x y=>
  have d:=QN s x y;have l:=λb=>s0 x b;have i:=λb=>AE s a.q b;generalize (Cl.laid s x y).tl=g,x.D=p,ώ _=m at *;by_cases e:s=a.q
  ·subst e;simp[d,j,i,Cl.gu]
  ·simp[d,l,j,st,i,k,Cl.gu,e]
structure KD(b c:Nat)(P:Nat->Pt)(B:Bs)(l:Lk)(N:Nat)(S:Nat->List (Int × Int))(o:Ob)(d:Nat)(ds:gV)(σ:Da):Prop where
 kb:KB b c P B l N S o σ
 hd:N+1<d
 g:σ[d]?=W1 (ϑ ds)
 s:∀ j,j<2->l.C j=(B.C j).tl
 y:l.y=B.y
def Cl.day:Cl->Int
 | .laid _ _ y=>y
 |_=>0
def zr(q:Int)(a:dd)(y w:Int)(c:Cl):Bool:=c.gu q a && decide (y<c.day+w)
def HV f g j(c:Cl)(h:∀ j,j<2->f j=(g j).tl):∀ m,m<2->Qa f j c.tl m=(Qa g j c m).tl:=λm a=>by
 by_cases e:m=j
 ·rw[e,Dl,Dl]
 ·rw[Cn _ _ e,Cn _ _ e,h m a]
section
variable{b c:Nat}{P:Nat->Pt}{B:Bs}{l:Lk}{N:Nat}{S:Nat->List (Int × Int)}{o:Ob}{d:Nat}{ds:gV}{σ:Da}(h:KD b c P B l N S o d ds σ)(hl:ds.length<100){j:Nat}(hj:j<2)
include h hl
theorem KD.add x:Ei (O d) [x] σ=J Ϛ (σ.set d$ ϑ$ ds++[x])/\KD b c P B l N S o d (ds++[x]) (σ.set d$ ϑ$ ds++[x]):=by
 have:=h.kb.bc;have:=h.kb.cn;have:=h.hd;refine⟨w9 h.g ⋯ x,⟨⟨h.kb.k.set (ϕ$ by lia) (λj hj=>by have:=h.kb.n j hj;lia) _,h.kb.v.set (ϕ$ by lia) _,h.kb.bc,h.kb.cn,h.kb.e,λi a=>Yd ⋯$ h.kb.s i a,h.kb.n⟩,h.hd,Ga (aa.mp h.g).1,h.s,h.y⟩⟩
include hj
theorem eX{m}(eL:(l.a j).L=m.map U)(ep:(l.a j).p=j)(I:∀ s x y,B.C j=.laid s x y->s≠(l.a j).q->s=1 - (l.a j).q/\x.Ok ((P j).u+(P j).v)){A E}(hw:∀ σ,Fb (ώ [U A,U E]) (U j) σ=J (U (P j).w) σ) z:∃ B' C' ό z',OM [W1$ O b,W1$ O c,W1$ O d,W1$ ώ [U A,U E],W1$ U j,W1$ O$ l.n j,z] σ=J (ϙ [W1$ O b,W1$ O c,W1$ O d,W1$ ώ [U A,U E],W1$ U j,W1$ O$ l.n j,z']) ό/\KD b c P B' { l with C:=C' } N S o d (ds++if zr (l.a j).q m B.y (P j).w (B.C j)then [ϐ [ϒ "strike",U j]]else []) ό/\B'=(if zr (l.a j).q m B.y (P j).w (B.C j)then { B with C:=Qa B.C j (.taken (l.a j).q) } else B):=by
 obtain⟨R,ok⟩:=h.kb.k.a j hj;have kc:=My h.kb.k;have ϋ:=GG h.kb.k hj;rw[h.s j hj]at ϋ;have Y:=XC h.kb.k;rw[h.y]at Y;have H:=N3 R ok eL$ B.C j;have sd:=px R ok;cases f:(B.C j).gu (l.a j).q m with
 |false=>
  have e:zr (l.a j).q m B.y (P j).w (B.C j)=į:=by unfold zr;rw[f];rfl
  rw[f]at H;refine⟨B,l.C,σ,W1 (B.C j).tl,?_,by rw[e];simpa using h,by rw[e];rfl⟩;generalize (B.C j).tl=TD,ώ [U A,U E]=WD at *;simp[kc,ϋ,H]
 |true=>
  rw[f]at H;obtain⟨x,y,I,V⟩:∃ x y,B.C j=.laid (1 - (l.a j).q) x y/\x.Ok ((P j).u+(P j).v):=by
   cases Q:B.C j with
   |held=>rw[Q]at f;cases f
   |taken s=>rw[Q]at f;cases f
   |laid s x y=>
    rw[Q]at f;unfold Cl.gu at f;simp only[Ca,Bb]at f;obtain⟨e,V⟩:=I s x y Q f.1;exact⟨x,y,by rw[e],V⟩
  ·have W:=QN (1 - (l.a j).q) x y;rw[<-I]at W;have ey:(B.C j).day=y:=by rw[I];rfl
   by_cases F:B.y<y+(P j).w
   ·have e:zr (l.a j).q m B.y (P j).w (B.C j)=š:=by unfold zr;rw[f,ey,ib F];rfl
    rw[e];obtain⟨ob,st,T⟩:=zqk h.kb.v hj (s:=(l.a j).q) ok.q V I F;have ms:=wm h.kb.v "strike" 4 vC;have mk:∀ G,Ci [(10,Jj),(11,Jj),(12,Jj),(13,Jj)] 3 "strike_of" G (O$ l.n j) σ=(G σ).bind (Vg 3 Jj$ O$ l.n j):=λG=>by
     refine on (xr R) ?_ rfl;have:=ok.c;simp at this;rcases this with e|e|e|e<;>rw[e]<;>rfl
    have so:=dW R ok (1 - (l.a j).q) x;rw[ep]at so;have m4:∀ (ϊ:gV->M D) (x a b c:D) σ,Vg 4 ϊ x [a,b,c] σ=ϊ [x,a,b,c] σ:=λϊ x a b c σ=>Tw rfl;have t:=h.kb.book (r:=c+1) ⋯ (x:=ob) T;have g1:(σ.set (c+1) ob)[d]?=W1 (ϑ ds):=by have:=h.hd;have:=h.kb.cn;have:=h.kb.bc;exact Yd ⋯ h.g
    generalize σ.set (c+1) ob=i at *;have a2:=px (t.k.a j hj).1 ok;have a0:=My t.k;obtain⟨X,sC,Z⟩:=t.setC hj (Cl.taken (l.a j).q).tl;have g2:(i.set (b+3) X)[d]?=W1 (ϑ ds):=by have:=h.hd;have:=h.kb.cn;have:=h.kb.bc;exact Yd ⋯ g1
    have sC:∀ ρ,Im ρ (ϐ [ϒ "taken",U (l.a j).q]) (O$ b+3) (U j) i=J (ϙ ρ) (i.set (b+3) X):=sC;generalize i.set (b+3) X=K at *;have kd:KD b c P { B with C:=Qa B.C j (.taken (l.a j).q) } { l with C:=Qa l.C j (Cl.taken (l.a j).q).tl } N S o d ds K:=⟨Z,h.hd,g2,HV _ _ j _ h.s,h.y⟩
    obtain⟨ad,a1⟩:=kd.add hl (ϐ [ϒ "strike",U j]);have am:=λG=>UL g2 G;refine⟨_,_,_,W1 (B.C j).tl,?_,a1,rfl⟩;generalize K.set d (ϑ$ ds++[ϐ [ϒ "strike",U j]])=a3 at *;generalize (B.C j).tl=TD,ώ [U A,U E]=WD,x.D=XD,vm j (1 - (l.a j).q) x.n=SK at *;simp[kc,ϋ,H,Y,W,hw,F,sd,ms,mk,so,m4,st,a2,a0,sC,am,ad]
   ·have e:zr (l.a j).q m B.y (P j).w (B.C j)=į:=by unfold zr;rw[f,ey,pb F];rfl
    refine⟨B,l.C,σ,W1 (B.C j).tl,?_,by rw[e];simpa using h,by rw[e];rfl⟩;generalize (B.C j).tl=TD,ώ [U A,U E]=WD at *;simp[kc,ϋ,H,Y,W,hw,F]
end
def oC(l:Lk)(P:Nat->Pt)(L:Nat->dd)(B:Bs)(j:Nat):Bool:=zr (l.a j).q (L j) B.y (P j).w$ B.C j
def Rr(l:Lk)(P:Nat->Pt)(L:Nat->dd)(B:Bs)(j:Nat):Bs:=if oC l P L B j then { B with C:=Qa B.C j (.taken (l.a j).q) } else B
def xk(l:Lk)(P:Nat->Pt)(L:Nat->dd)(B:Bs)(j:Nat):gV:=if oC l P L B j then [ϐ [ϒ "strike",U j]]else []
section
variable{b c:Nat}{P:Nat->Pt}{B:Bs}{l:Lk}{N:Nat}{S:Nat->List (Int × Int)}{σ:Da}(h:KB b c P B l N S (ύ l.A) σ)(hs:∀ j,j<2->l.C j=(B.C j).tl)(hy:l.y=B.y){L:Nat->dd}(eL:∀ j,j<2->(l.a j).L=(L j).map U)(ep:∀ j,j<2->(l.a j).p=j)(hc:∀ j,j<2->∀ s x y,B.C j=.laid s x y->s≠(l.a j).q->s=1 - (l.a j).q/\x.Ok ((P j).u+(P j).v))
include h hs hy eL ep hc
theorem zgd:∃ ό o,VC [O b,O c] σ=J (O σ.length) o/\KD b c P (Rr l P L (Rr l P L B 0) 1) { l with C:=ό } N S (ύ l.A) σ.length (xk l P L B 0++xk l P L B 1) o:=by
 have I:N+1<σ.length:=(aa.mp$ h.s 1$ by omega).1;have t:=h.app [ϑ []];have md:=jN t.v;have mm:=wm t.v "made_of" 1 Gs;have W:(σ++[ϑ []])[σ.length]?=W1 (ϑ []):=by simp
 have V:=t.swap (A:=l.A) (ϔ rfl)$ ϣ l.A;have X:((σ++[ϑ []]).set (b+2)$ ϣ l.A)[σ.length]?=W1 (ϑ []):=by have:=h.bc;have:=h.cn;exact Yd ⋯ W
 have z:KD b c P B l N S (ϣ l.A) σ.length []$ (σ++[ϑ []]).set (b+2)$ ϣ l.A:=⟨V,I,X,hs,hy⟩
 have H:∀ j:Nat,j<2->∀ σ,Fb (ώ [U (P 0).w,U (P 1).w]) (U j) σ=J (U (P j).w) σ:=λj hj σ=>by
  rcases(show j=0\/j=1 by lia)with rfl|rfl<;>simp
 obtain⟨d,K,E,z1,R,u,e⟩:=eX z ⋯ (j:=0) ⋯ (eL 0$ by omega) (ep 0$ by omega) (hc 0$ by omega) (H 0$ by omega) ŋ;have e:d=Rr l P L B 0:=e;have u:KD b c P d { l with C:=K } N S (ϣ l.A) σ.length ([]++xk l P L B 0) E:=u;rw[ui]at u;have x:d.C 1=B.C 1/\d.y=B.y:=by
  rw[e];unfold Rr;split
  ·exact⟨rfl,rfl⟩
  ·exact⟨rfl,rfl⟩
 have Q:(xk l P L B 0).length<100:=by unfold xk;split<;>simp
 obtain⟨F,G,n,z2,T,m,f⟩:=eX u Q (j:=1) ⋯ (eL 1$ by omega) (ep 1$ by omega) (by rw[x.1];exact hc 1 ⋯) (H 1$ by omega) z1;have sc:zr (l.a 1).q (L 1) d.y (P 1).w (d.C 1)=oC l P L B 1:=by unfold oC;rw[x.1,x.2]
 have f:F=Rr l P L d 1:=f;have ϊ:(if zr (l.a 1).q (L 1) d.y (P 1).w (d.C 1)then [ϐ [ϒ "strike",U 1]]else [])=xk l P L B 1:=by rw[sc];rfl
 have m:KD b c P F { l with C:=G } N S (ϣ l.A) σ.length (xk l P L B 0++if zr (l.a 1).q (L 1) d.y (P 1).w (d.C 1)then [ϐ [ϒ "strike",U 1]]else []) n:=m;rw[ϊ]at m;rw[e]at f;rw[f]at m;have Mf:=m.kb.swap (A:=l.A) (ϕ rfl)$ ύ l.A;have Y:(n.set (b+2)$ ύ l.A)[σ.length]?=W1 (ϑ$ xk l P L B 0++xk l P L B 1):=by have:=h.bc;have:=h.cn;exact Yd ⋯ m.g
 refine⟨G,n.set (b+2)$ ύ l.A,?_,⟨Mf,I,Y,m.s,m.y⟩⟩;have th:=rL t.k (r:=[W1$ O c,W1$ O σ.length,W1$ ώ [U (P 0).w,U (P 1).w],ŋ,ŋ,ŋ]) (tg:=vj 2$ Nf (Cc 4)$ Nf (Cc 5) Lj) (body:=OM) rfl R rfl T m.kb.k.h2;have Z:Mi (uk (Oo$ Fh$ Zd [(9,Gs)] 1 "made_of" (pa 1) Za) [] (Cc 0) wl$ Eb Fb (pa 0)$ eC$ U 4) [W1$ O b,W1$ O c,W1$ O σ.length,ŋ,ŋ,ŋ,ŋ] (σ++[ϑ []])=J (ώ [U (P 0).w,U (P 1).w]) (σ++[ϑ []]):=by
  refine Bt (s:=.seq [(P 0).D,(P 1).D]) (xs:=[P 0,P 1]) Pt.D (λp=>U p.w) (by
   simp[md,mm]) (λi j=>by rcases i with _|_|i<;>rfl) ⋯ (λp _ j=>by
   have:=λσ=>(p.i σ).2.2;generalize p.D=PD at *;simp[this]) (λ_ _=>rfl)
 unfold VC xQ Ue
 (try dsimp only);rw[Vp,fw]
 show Tn (Lb _ _ [W1$ O b,W1$ O c,ŋ,ŋ,ŋ,ŋ,ŋ] σ)=_;have M:Qe 2 (vr Za) [W1$ O b,W1$ O c,ŋ,ŋ,ŋ,ŋ,ŋ] σ=J (ϙ [W1$ O b,W1$ O c,W1$ O σ.length,ŋ,ŋ,ŋ,ŋ]) (σ++[ϑ []]):=by simp
 have ϋ:Qe 3 (Mi$ uk (Oo$ Fh$ Zd [(9,Gs)] 1 "made_of" (pa 1) Za) [] (Cc 0) wl$ Eb Fb (pa 0)$ eC$ U 4) [W1$ O b,W1$ O c,W1$ O σ.length,ŋ,ŋ,ŋ,ŋ] (σ++[ϑ []])=J (ϙ [W1$ O b,W1$ O c,W1$ O σ.length,W1$ ώ [U (P 0).w,U (P 1).w],ŋ,ŋ,ŋ]) (σ++[ϑ []]):=by
  simp[Z,-Bo]
 rw[Bf,M,Jc,Af,Bf,ϋ,Jc,Af,Bf,th,Jc,Af];simp
end
def sa(q d a:Int):Int:=if q=0 then a+d else a
def sb(q d b:Int):Int:=if q=0 then b else b+d
def DG{q}(c:q=0\/q=1) a b d σ:Ck [ϐ [U a,U b],U q,U d] σ=J (ϐ [U$ sa q d a,U$ sb q d b]) σ:=by
 unfold Ck sa sb qc;rcases c with rfl|rfl<;>simp
def Cl.st(a:Ac):Cl->List Sn
 | .held=>a.y
 | .laid _ x _=>[x]
 | .taken s=>[⟨0,sa s (a.m.a+a.m.b+wx a.m.ts) 0,sb s (a.m.a+a.m.b+wx a.m.ts) 0,[]⟩]
def Cl.Ok:Cl->Prop
 | .taken s=>s=0\/s=1
 |_=>True
def yrd{d}{n}{a}(h:Di d n a)(g:a.Ok)(o:a.m.ts.length<=6){c:Cl}(l:c.Ok):ye [O n,c.tl] d=J (ώ$ (c.st a).map Sn.D) d:=by
 have i:=SA h g;unfold ye qc;cases c with
 |held=>
  have e:=WN;show _=J (ώ$ a.y.map Sn.D) d;generalize Cl.held.tl=f at *;simp[e,(RF h g),(BF a.y)]
 |laid s x y=>
  have e:=QN s x y;have j:=Jq x;show _=J (ώ [x.D]) d;generalize (Cl.laid s x y).tl=f,x.D=q at *;simp[e,XH,j]
 |taken s=>
  have e:=RU s;have k:=λd=>KI a.m.n a.m.a a.m.b o d;show _=J (ώ [ϐ [U 0,ϐ [U _,U _],ϐ []]]) d;unfold Sn.D at i;generalize (Cl.taken s).tl=f,Gj a.m.n a.m.a a.m.b a.m.ts=p at *;simp[e,XH,i,k,(λd=>DG (show s=0\/s=1 from l) 0 0 (a.m.a+a.m.b+wx a.m.ts) d)]
def Cl.tt(a:Ac)(c:Cl):List Ti:=(c.st a).flatMap λs=>s.ts.filter λt=>decide$ t.p≠a.q
def yao{σ}{n}{a}(h:Di σ n a)(u:a.Ok)(F:a.m.ts.length<=6){c:Cl}(E:c.Ok)(X:(c.st a).length<=3)(v:∀ s∈c.st a,s.ts.length<=6):Vj [O n,c.tl] σ=J (ώ$ (c.tt a).map Ti.D) σ:=by
 have st:=yrd (h.app [ϑ []]) u F E;have y:∀ (b:List Sn),(∀ s∈b,s.ts.length<=6)->(b.flatMap λs=>s.ts.filter λt=>decide$ t.p≠a.q).length<=6 * b.length:=λb=>by
  induction b with
  |nil=>simp
  |cons s b G=>
   intro r;have T:=G λz k=>r z$ la _ k;have ϊ:=r s ua;have V:=Uf (λt=>decide$ t.p≠a.q) s.ts;rw[de,Kb,Ua];lia
 obtain⟨M,N,f,z,rfl,rfl⟩:=eD (S:=.seq$ (c.st a).map Sn.D) (xs:=(c.st a).map Sn.D) (tg:=Cc 3) (body:=jM) (λi ρ w=>∃ z,ρ=[W1$ O n,W1 c.tl,W1$ O σ.length,z]/\w=σ++[ϑ$ (((c.st a).take i).flatMap λs=>s.ts.filter λt=>decide$ t.p≠a.q).map Ti.D]) (by simp;lia) (ϔ rfl) (λi d ρ w hd B=>by
  obtain⟨z,rfl,rfl⟩:=B;rw[Ta]at hd;obtain⟨s,g,rfl⟩:=Ka.mp hd;have W:=(aa.mp g).1;have sl:=v s$ ya g;have L:=y ((c.st a).take i) λz k=>v z$ Vi k;rw[Tc]at L;generalize C:((c.st a).take i).flatMap (λs=>s.ts.filter λt=>decide$ t.p≠a.q)=Y at *;have e:((c.st a).take$ i+1).flatMap (λs=>s.ts.filter λt=>decide$ t.p≠a.q)=Y++s.ts.filter λt=>decide$ t.p≠a.q:=by rw[Nz,g,List.flatMap_append,C];simp
  rw[e];have A:=Uf (λt=>decide$ t.p≠a.q) s.ts;have ex:=SW (σ:=σ) (ys:=Y.map Ti.D) (zs:=(s.ts.filter λt=>decide$ t.p≠a.q).map Ti.D) (by rw[Ja,Ja];lia);rw[<-Dm]at ex;have I:∀ m,Dt xw m (O σ.length) (σ++[ϑ$ Y.map Ti.D])=(m$ σ++[ϑ$ Y.map Ti.D]).bind (xw$ O σ.length):=λm=>eF (xs:=Y.map Ti.D) (by unfold wf df;simp);have H:=λσ=>s2 s σ;have l:Mi (uk (Oo$ Fh$ Eb Fb (pa 3)$ eC$ U 2) [0] (Cc 0) (eT$ Eb Ki (Eb Fb (pa 0)$ eC$ U 0)$ Pc (Vb [7,8,10,11,12,13] "side")$ pa 2)$ pa 0) [W1$ O n,W1 c.tl,W1$ O σ.length,W1 s.D] (σ++[ϑ$ Y.map Ti.D])=J (ώ$ (s.ts.filter λt=>decide$ t.p≠a.q).map Ti.D) (σ++[ϑ$ Y.map Ti.D]):=by
   refine gF (s:=.seq$ s.ts.map Ti.D) (xs:=s.ts) Ti.D Ti.D (λt=>decide$ t.p≠a.q) ?_ (λi j=>by show W1 ((s.ts.map Ti.D)[i]?)=_;rw[Ta]) ⋯ (λt _ j=>?_) (λt _ _=>LO t)
   ·generalize s.D=x,c.tl=o at *;simp[H]
   ·have ό:=px ((h.app [ϑ$ Y.map Ti.D]).app j) u;have K:∀ σ,Fb t.D (U 0) σ=J (U t.p) σ:=λσ=>by unfold Ti.D;simp
    generalize σ++[ϑ$ Y.map Ti.D]++j=P at *;generalize t.D=TT at *;exact⟨by simp[ό,K,(λσ=>AE t.p a.q σ)],λ_=>by simp⟩
  refine⟨_,[W1$ O n,W1 c.tl,W1$ O σ.length,W1 s.D],_,rfl,?_,W1 s.D,rfl,rfl⟩;generalize σ++[ϑ$ (Y++s.ts.filter λt=>decide$ t.p≠a.q).map Ti.D]=Z at *;generalize (s.ts.filter λt=>decide$ t.p≠a.q).map Ti.D=ϋ at *;generalize σ++[ϑ$ Y.map Ti.D]=R at *;generalize s.D=x,c.tl=o at *;simp[I,l,ex,-Bo]) (ρ:=[W1$ O n,W1 c.tl,W1$ O σ.length,ŋ]) (σ:=σ++[ϑ []]) ⟨ŋ,rfl,rfl⟩
 rw[Ja,Uc]at f;have f:qk (Cc 3) jM ((c.st a).map Sn.D) [W1$ O n,W1 c.tl,W1$ O σ.length,ŋ] (σ++[ϑ []])=J (ϙ [W1$ O n,W1 c.tl,W1$ O σ.length,z]) (σ++[ϑ$ (c.tt a).map Ti.D]):=f;have ct:zf ((c.tt a).map Ti.D)=š:=zH λt=>LO t;have fz:=xz (σ:=σ) ct;unfold Vj sT qc;dsimp only;generalize (c.tt a).map Ti.D=TT,(c.st a).map Sn.D=Q,c.tl=o at *;simp[st,f,fz]
theorem sZ(w:Int):∀ K:dd,Qn (zm K) (.inl w)=if w∈K then W1 (Ϗ š)else ŋ
 |[]=>rfl
 |v::K=>by
  unfold Qn zm at *;rw[db,yc];by_cases e:v=w
  ·simp[e]
  ·have a:¬ (Sum.inl v:jc)=Sum.inl w:=λz=>e$ Dp z;have b:¬ w=v:=λz=>e z.symm;simp only[a,La,b,false_or];exact(sZ w K)
def Kt(l:Lk)(S:List$ Int × Int)(t:Ti):Bool:=decide (t.w∈l.K) && (!(vl S t.w).isSome && (decide (l.y<t.y) && decide (t.y<=l.y+l.e)))
section
variable{b c:Nat}{P:Nat->Pt}{B:Bs}{l:Lk}{N:Nat}{S:Nat->List (Int × Int)}{o:Ob}{d:Nat}{ds:gV}{σ:Da}(h:KD b c P B l N S o d ds σ){j:Nat}(hj:j<2)(t:Ti)
include h hj
theorem Ô:ND [O b,U j,t.D] σ=J (Ϗ$ Kt l (S j) t) σ:=by
 have i:=NO h.kb.k;have ks:=UJ h.kb.k;have f:=xM h.kb.k hj;rw[h.kb.e j hj]at f;have g:∀ σ,Fb t.D (U 2) σ=J (U t.w) σ:=λσ=>by unfold Ti.D;simp
 have p:∀ σ,Fb t.D (U 3) σ=J (U t.y) σ:=λσ=>by unfold Ti.D;simp
 have m:Zo (U t.w) (O$ b+1) σ=J (Ϗ$ !decide (t.w∈l.K)) σ:=by
  have c:Rf σ (O$ b+1)=W1 (zm l.K):=by unfold Rf;simp[h.kb.k.h1]
  unfold Zo;simp[Lq,c,sZ];by_cases e:t.w∈l.K<;>simp[e]
 have a:Gn (U t.w) (O$ N+j) σ=J (Ϗ (vl (S j) t.w).isSome) σ:=by
  have c:Rf σ (O$ N+j)=W1 (Ud$ S j):=by unfold Rf;simp[h.kb.s j hj]
  unfold Gn;simp only[Lq,c,wO];cases vl _ t.w<;>rfl
 unfold ND Kt Vd;dsimp only;generalize t.D=q at *;by_cases d:t.w∈l.K
 ·cases n:(vl _ t.w).isSome with
  |true=>rw[n]at a;simp[i,ks,f,g,m,a,d]
  |false=>
   rw[n]at a;by_cases o:l.y<t.y<;>simp[i,ks,(XC h.kb.k),(QY h.kb.k),f,g,p,m,a,d,o]
 ·simp[i,ks,g,m,d]
end
def sG(j:Nat)(w:Int):D:=ϐ [ϒ "show",U j,U w]
def Kj(l:Lk)(j:Nat):List Ti->List (Int × Int)->gV × List (Int × Int)
 |[],S=>([],S)
 |t::a,S=>if Kt l S t then (sG j t.w::(Kj l j a$ zp S t.w l.y).1,(Kj l j a$ zp S t.w l.y).2)else Kj l j a S
def Fz(N d:Nat)(σ a:Da):Prop:=∀ (r:Nat) (x:Ob),N+1<r->r≠d->σ[r]?=W1 x->a[r]?=W1 x
def Fz.refl N d σ:Fz N d σ σ:=λa a a a e=>e
def Fz.trans{N d}{a e f}(h:Fz N d a e)(g:Fz N d e f):Fz N d a f:=λr x b c z=>g r x b c$ h r x b c z
def Fz.set{N d} a{i}(f:i<=N+1\/i=d) o:Fz N d a$ a.set i o:=λr g b c e=>Yd ⋯ e
structure KS(b c:Nat)(P:Nat->Pt)(B:Bs)(l:Lk)(N:Nat)(S:Nat->List (Int × Int))(o:Ob)(d:Nat)(ds:gV)(σ:Da):Prop where
 kd:KD b c P { B with S:=S } l N S o d ds σ
section
variable{b c:Nat}{P:Nat->Pt}{B:Bs}{l:Lk}{N:Nat}{o:Ob}{d:Nat}
def Ć{S}{p}{f}(h:KS b c P B l N S o d p f){j}(x:j<2){t}(W:0<=t.w/\t.w<=59)(V:p.length<100)(hs:(S j).length<900) n:∃ q,JK [W1$ O b,W1$ O c,W1$ O d,W1$ U j,W1$ O n,W1 t.D] f=J (ϙ [W1$ O b,W1$ O c,W1$ O d,W1$ U j,W1$ O n,W1 t.D]) q/\KS b c P B l N (if Kt l (S j) t then Qa S j (zp (S j) t.w l.y)else S) o d (if Kt l (S j) t then p++[sG j t.w]else p) q/\Fz N d f q:=by
 have C:=Ô h.kd x t;have ϋ:=mj h.kd.kb.k "is_to_show" 3 ND;cases e:Kt l (S j) t with
 |false=>
  rw[e]at C;refine⟨f,?_,h,.refl _ _ _⟩;generalize t.D=Q at *;simp[ϋ,C]
 |true=>
  rw[e]at C;have Z:(vl (S j) t.w).isSome=į:=by
   unfold Kt at e;simp only[Ca]at e;simpa using e.2.1
  obtain⟨s,A,sh,E⟩:=kY h.kd.kb.v x W (show (S j).length<1000 by omega);have A:s=zp (S j) t.w l.y:=by rw[h.kd.y];rw[A];simp[Z]
  have Y:=wm h.kd.kb.v "show" 3 Ez;have a:=h.kd.kb.book (r:=c+3+j) ⋯ E;have ϊ:(f.set (c+3+j)$ ύ$ Ud s)[d]?=W1 (ϑ p):=by have:=h.kd.hd;have:=h.kd.kb.cn;have:=h.kd.kb.bc;exact Yd ⋯ h.kd.g
  have z1:Fz N d f$ f.set (c+3+j)$ ύ$ Ud s:=.set f (by have:=h.kd.kb.cn;have:=h.kd.kb.bc;omega) _;generalize f.set (c+3+j) (ύ$ Ud s)=m at *;have I:=XC a.k;have ό:=UJ a.k;have z:=xM a.k x;rw[a.e j x]at z;have st:∀ K,Im K (U l.y) (O$ N+j) (U t.w) m=J (ϙ K) (m.set (N+j)$ ύ$ Ud s):=λK=>by
   rw[Ur (a.s j x) (by unfold Ud;simp;lia),yP,A]
  have F:=a.seen x s;have M:(m.set (N+j)$ ύ$ Ud s)[d]?=W1 (ϑ p):=by have:=h.kd.hd;exact Yd ⋯ ϊ
  have z2:=z1.trans$ .set m (i:=N+j) ⋯$ ύ$ Ud s;generalize m.set (N+j) (ύ$ Ud s)=u at *;have G:KD b c P { B with S:=Qa S j s } l N (Qa S j s) o d p u:=⟨F,h.kd.hd,M,h.kd.s,h.kd.y⟩
  obtain⟨L,H⟩:=G.add V (sG j t.w);have R:=λT=>UL M T;have X:∀ f,Fb t.D (U 2) f=J (U t.w) f:=λf=>by unfold Ti.D;simp
  refine⟨_,?_,⟨by rw[<-A];exact H⟩,z2.trans$ .set u (ϕ rfl) _⟩;unfold sG at L ⊢;generalize u.set d (ϑ$ p++[ϐ [ϒ "show",U j,U t.w]])=a0 at *;generalize t.D=Q at *;simp[ϋ,C,Y,X,sh,I,ό,z,st,R,L]
def Ł{j}(H:j<2) n:∀ f {S} {g} {i} x,KS b c P B l N S o d g i->(∀ t∈f,0<=t.w/\t.w<=59)->g.length+f.length<100->(S j).length+f.length<900->∃ r a,qk (Cc 5) JK (f.map Ti.D) [W1$ O b,W1$ O c,W1$ O d,W1$ U j,W1$ O n,x] i=J (ϙ [W1$ O b,W1$ O c,W1$ O d,W1$ U j,W1$ O n,r]) a/\KS b c P B l N (Qa S j (Kj l j f$ S j).2) o d (g++(Kj l j f$ S j).1) a/\Fz N d i a:=by
 intro f;induction f with
 |nil=>
  intro S g i x h _ _ _;refine⟨x,i,by simp,?_,.refl _ _ _⟩;have e:Qa S j (S j)=S:=by funext m;unfold Qa;split<;>simp[*]
  show KS b c P B l N (Qa S j$ S j) o d (g++[]) i;rw[e,be];exact h
 |cons t f E=>
  intro S g i x h C I ό;rw[Ua]at I ό;obtain⟨z,A,k,F⟩:=Ć h H (C t ua) ⋯ ⋯ n;have p:∀ u∈f,0<=u.w/\u.w<=59:=λu K=>C u$ la _ K;have tg:Cc 5 t.D [W1$ O b,W1 _,W1$ O d,W1$ U j,W1$ O n,x]=W1 [W1$ O b,W1$ O c,W1$ O d,W1$ U j,W1$ O n,W1 t.D]:=rfl;cases e:Kt l (S j) t with
  |false=>
   rw[e]at k;obtain⟨r,a,s,q,v⟩:=E (W1 t.D) k p (show g.length+f.length<100 by omega) (show (S j).length+f.length<900 by omega);refine⟨r,a,by rw[db,FH tg,A,Jc,Wj,s],?_,F.trans v⟩;unfold Kj;rw[e];exact q
  |true=>
   rw[e]at k;have k:KS b c P B l N (Qa S j$ zp (S j) t.w l.y) o d (g++[sG j t.w]) z:=k;have pl:=iT (S j) t.w l.y;obtain⟨r,a,s,q,v⟩:=E (W1 t.D) k p (by simp;omega) (by rw[Dl];omega);refine⟨r,a,by rw[db,FH tg,A,Jc,Wj,s],?_,F.trans v⟩;rw[Dl]at q;have G:Qa (Qa S j$ zp (S j) t.w l.y) j (Kj l j f$ zp (S j) t.w l.y).2=Qa S j (Kj l j f$ zp (S j) t.w l.y).2:=by funext m;unfold Qa;split<;>rfl
   rw[G,wv]at q;unfold Kj;rw[e];exact q
end
structure Tk(l:Lk)(B:Bs)(j:Nat):Prop where
 m:(l.a j).m.ts.length<=6
 c:(B.C j).Ok
 n:((B.C j).st (l.a j)).length<=3
 t:∀ s∈(B.C j).st (l.a j),s.ts.length<=6/\∀ t∈s.ts,0<=t.w/\t.w<=59
def gJ{l}{B}{j}(h:Tk l B j):((B.C j).tt$ l.a j).length<=18/\∀ t∈(B.C j).tt (l.a j),0<=t.w/\t.w<=59:=by
 have u:=h.n;have f:=h.t;unfold Cl.tt;generalize (B.C j).st (l.a j)=b at *;constructor
 ·have g:∀ (b:List Sn),(∀ s∈b,s.ts.length<=6)->(b.flatMap λs=>s.ts.filter λt=>decide$ t.p≠(l.a j).q).length<=6 * b.length:=λb=>by
   induction b with
   |nil=>simp
   |cons s b k=>
    intro e;have m:=k λz i=>e z$ la _ i;have o:=e s ua;have r:=Uf (λt=>decide$ t.p≠(l.a j).q) s.ts;rw[de,Kb,Ua];omega
  have:=g b λs d=>(f s d).1;omega
 ·intro t c;obtain⟨s,d,c⟩:=Nw.mp c;exact(f s d).2 t (ri.mp c).1
theorem DF(l:Lk)(j:Nat):∀ (a:List Ti) (S:List$ Int × Int),(Kj l j a S).1.length<=a.length
 |[],S=>by simp[Kj]
 |t::a,S=>by
  have b:=DF l j a S;have c:=DF l j a$ zp S t.w l.y;unfold Kj;split<;>simp<;>omega
section
variable{b c:Nat}{P:Nat->Pt}{B:Bs}{l:Lk}{N:Nat}{d:Nat}
def gY{o}{S}{i}{q}(h:KS b c P B l N S o d i q){j}(g:j<2)(f:Tk l B j)(F:i.length<=50)(u:(S j).length<=100) x:∃ p e,wK [W1$ O b,W1$ O c,W1$ O d,W1$ U j,W1$ O$ l.n j,x] q=J (ϙ [W1$ O b,W1$ O c,W1$ O d,W1$ U j,W1$ O$ l.n j,p]) e/\KS b c P B l N (Qa S j (Kj l j ((B.C j).tt$ l.a j)$ S j).2) o d (i++(Kj l j ((B.C j).tt$ l.a j)$ S j).1) e/\Fz N d q e:=by
 obtain⟨G,A⟩:=gJ f;obtain⟨v,ok⟩:=h.kd.kb.k.a j g;have r:=GG h.kd.kb.k g;rw[h.kd.s j g]at r;have z:=yao v ok f.m f.c f.n λs u=>(f.t s u).1;obtain⟨p,e,y,w,E⟩:=Ł g (l.n j) ((B.C j).tt _) x h A ⋯ ⋯;refine⟨p,e,?_,w,E⟩;simp[(My h.kd.kb.k),r,z,y]
def ÿ{S}{d}(h:KB b c P { B with S:=S } l N S (ύ l.A) d)(q:∀ j,j<2->l.C j=(B.C j).tl)(t:l.y=B.y)(n:∀ j,j<2->Tk l B j)(p:∀ j,j<2->(S j).length<=100):∃ f,RB [O b,O c] d=J (O d.length) f/\KS b c P B l N (Qa (Qa S 0 (Kj l 0 ((B.C 0).tt$ l.a 0)$ S 0).2) 1 (Kj l 1 ((B.C 1).tt$ l.a 1)$ S 1).2) (ύ l.A) d.length ((Kj l 0 ((B.C 0).tt$ l.a 0)$ S 0).1++(Kj l 1 ((B.C 1).tt$ l.a 1)$ S 1).1) f/\Fz N d.length d f:=by
 have v:N+1<d.length:=(aa.mp$ h.s 1$ by omega).1;have o:=h.app [ϑ []];have G:(d++[ϑ []])[d.length]?=W1 (ϑ []):=by simp
 have F:=o.swap (A:=l.A) (ϔ rfl)$ ϣ l.A;have H:((d++[ϑ []]).set (b+2)$ ϣ l.A)[d.length]?=W1 (ϑ []):=by have:=h.bc;have:=h.cn;exact Yd ⋯ G
 have k0:KS b c P B l N S (ϣ l.A) d.length []$ (d++[ϑ []]).set (b+2)$ ϣ l.A:=⟨⟨F,v,H,q,t⟩⟩
 obtain⟨K,ϋ,D,u,L⟩:=gY k0 (j:=0) ⋯ (n 0$ by omega) ⋯ (p 0$ by omega) ŋ;rw[ui]at u;have Q:=DF l 0 ((B.C 0).tt$ l.a 0)$ S 0;have R:=(gJ$ n 0$ by omega).1;obtain⟨T,m,E,i,M⟩:=gY u (j:=1) ⋯ (n 1$ by omega) ⋯ (p 1$ by omega) K;have i:KS b c P B l N (Qa (Qa S 0 (Kj l 0 ((B.C 0).tt$ l.a 0)$ S 0).2) 1 (Kj l 1 ((B.C 1).tt$ l.a 1)$ S 1).2) (ϣ l.A) d.length ((Kj l 0 ((B.C 0).tt$ l.a 0)$ S 0).1++(Kj l 1 ((B.C 1).tt$ l.a 1)$ S 1).1) m:=i;have Mf:=i.kd.kb.swap (A:=l.A) (ϕ rfl)$ ύ l.A;have I:=Yd (r:=b+2) (x:=ύ l.A) (by have:=h.bc;have:=h.cn;omega) i.kd.g;refine⟨m.set (b+2)$ ύ l.A,?_,⟨⟨Mf,v,I,q,t⟩⟩,?_⟩
 rotate_left
 ·have w:Fz N d.length d$ d++[ϑ []]:=λr x U U e=>yl e;have:=h.bc;have:=h.cn;exact((w.trans$ .set _ ⋯ _).trans$ L.trans M).trans$ .set _ ⋯ _
 have ό:=rL o.k (r:=[W1$ O c,W1$ O d.length,ŋ,ŋ,ŋ]) (tg:=vj 2$ Nf (Cc 3)$ Nf (Cc 4) Lj) (body:=wK) rfl D rfl E i.kd.kb.k.h2;unfold RB tV Ue
 (try dsimp only);rw[Vp,fw]
 show Tn (Lb _ _ [W1$ O b,W1$ O c,ŋ,ŋ,ŋ,ŋ] d)=_;have z:Qe 2 (vr Za) [W1$ O b,W1$ O c,ŋ,ŋ,ŋ,ŋ] d=J (ϙ [W1$ O b,W1$ O c,W1$ O d.length,ŋ,ŋ,ŋ]) (d++[ϑ []]):=by simp
 rw[Bf,z,Jc,Af,Bf,ό,Jc,Af];simp
end
noncomputable def Cl.hd:Cl->Bool
 | .held=>š
 |_=>į
theorem qR(c:Cl) a:OJ c.tl (.gt ["held"]) a=J (Ϗ c.hd) a:=by
 cases c with
 |held=>exact nr rfl
 |laid s x y=>exact nr rfl
 |taken s=>exact nr rfl
def Mf(l:Lk)(j:Nat):Bool:=(Qn l.F$ .inl j).isSome
def yp(l:Lk)(B:Bs)(j:Nat):Bool:=Mf l j && (B.C j).hd
section
variable{b c:Nat}{P:Nat->Pt}{B:Bs}{l:Lk}{N:Nat}{S:Nat->List (Int × Int)}{o:Ob}{d:Nat}{ds:gV}{σ:Da}(h:KD b c P B l N S o d ds σ)(ho:o=ύ l.A\/o=ϣ l.A)(hl:ds.length<100){j:Nat}(hj:j<2)
include h ho hj
theorem T5:cr [O b,U j] σ=J (Ϗ (B.C j).hd) σ:=by
 have a:=GG h.kb.k hj;rw[h.s j hj]at a;have i:Gn (U j) (O$ b+2) σ=J (Ϗ š) σ:=by
  have c:Rf σ (O$ b+2)=W1 l.A:=by
   have:=h.kb.k.h2;unfold Rf;rcases ho with rfl|rfl<;>simp[this]
  unfold Gn;simp[Lq,c];rcases(show j=0\/j=1 by lia)with rfl|rfl<;>rfl
 have e:=λσ=>qR (B.C j) σ;unfold cr Vd;dsimp only;simp[(Qu h.kb.k),(My h.kb.k),a,i,e]
include hl
theorem MT(hP:(P j).Ok)(hm:(l.a j).m.Ok$ (P j).u+(P j).v)(hG:(l.a j).m.D=Gj 0 (P j).u (P j).v []\/(l.a j).G=kh j (1 - (l.a j).q) (l.a j).m.D):∃ Z C' t,yM [W1$ O b,W1$ O c,W1$ O d,W1$ U j,W1$ O$ l.n j] σ=J (ϙ [W1$ O b,W1$ O c,W1$ O d,W1$ U j,W1$ O$ l.n j]) t/\KD b c P Z { l with C:=C' } N S o d (ds++if yp l B j then [ϐ [ϒ "lay",U j]]else []) t/\Z=(if yp l B j then { B with C:=Qa B.C j (.laid (l.a j).q (l.a j).m B.y) } else B)/\Fz N d σ t:=by
 have ϊ:=tZ h.kb.k;have E:Gn (U j) (O$ b+6) σ=J (Ϗ$ Mf l j) σ:=by
  have dc:Rf σ (O$ b+6)=W1 l.F:=by unfold Rf;simp[h.kb.k.h6]
  unfold Gn Mf;simp only[Lq,dc]
 have I:=T5 h ho hj;have mh:=mj h.kb.k "holds" 2 cr;cases A:Mf l j with
 |false=>
  rw[A]at E;have e:yp l B j=į:=by unfold yp;rw[A];rfl
  refine⟨B,l.C,σ,?_,by rw[e];simpa using h,by rw[e];rfl,.refl _ _ _⟩;simp[ϊ,E]
 |true=>
  rw[A]at E;cases z:(B.C j).hd with
  |false=>
   rw[z]at I;have e:yp l B j=į:=by unfold yp;rw[A,z];rfl
   refine⟨B,l.C,σ,?_,by rw[e];simpa using h,by rw[e];rfl,.refl _ _ _⟩;simp[ϊ,E,mh,I]
  |true=>
   rw[z]at I;have e:yp l B j=š:=by unfold yp;rw[A,z];rfl
   rw[e];have hc:B.C j=.held:=by
    cases hB:B.C j with
    |held=>rfl
    |_=>rw[hB]at z;cases z
   obtain⟨ϋ,ok⟩:=h.kb.k.a j hj;have sd:=px ϋ ok;have mi:=SA ϋ ok;have gr:=oU ϋ ok;obtain⟨ό,ly,K⟩:=SU h.kb.v hj ok.q hm hP hc hG;have ml:=wm h.kb.v "lay" 5 ae;have m5:∀ (L:gV->M D) (x a b c d:D) σ,Vg 5 L x [a,b,c,d] σ=L [x,a,b,c,d] σ:=λL x a b c d σ=>Tw rfl;have f:=h.kb.book (r:=c+1) ⋯ (x:=ό) K;have g1:(σ.set (c+1) ό)[d]?=W1 (ϑ ds):=by have:=h.hd;have:=h.kb.cn;have:=h.kb.bc;exact Yd ⋯ h.g
   have z1:Fz N d σ$ σ.set (c+1) ό:=.set σ (by have:=h.kb.cn;have:=h.kb.bc;omega) _;generalize σ.set (c+1) ό=p at *;have Y:=px (f.k.a j hj).1 ok;have V:=SA (f.k.a j hj).1 ok;have R:=My f.k;have H:=XC f.k;rw[h.y]at H;obtain⟨X,W,Q⟩:=f.setC hj (Cl.laid (l.a j).q (l.a j).m B.y).tl;have g2:(p.set (b+3) X)[d]?=W1 (ϑ ds):=by have:=h.hd;have:=h.kb.cn;have:=h.kb.bc;exact Yd ⋯ g1
   have W:∀ ρ,Im ρ (ϐ [ϒ "laid",U (l.a j).q,(l.a j).m.D,U B.y]) (O$ b+3) (U j) p=J (ϙ ρ) (p.set (b+3) X):=W;have z2:=z1.trans$ .set p (i:=b+3) (by have:=h.kb.cn;have:=h.kb.bc;omega) X;generalize p.set (b+3) X=w at *;have kd:KD b c P { B with C:=Qa B.C j (.laid (l.a j).q (l.a j).m B.y) } { l with C:=Qa l.C j (Cl.laid (l.a j).q (l.a j).m B.y).tl } N S o d ds w:=⟨Q,h.hd,g2,HV _ _ j _ h.s,h.y⟩
   obtain⟨ad,T⟩:=kd.add hl (ϐ [ϒ "lay",U j]);have am:=λfs=>UL g2 fs;refine⟨_,_,_,?_,T,rfl,z2.trans$ .set w (ϕ rfl) _⟩;generalize w.set d (ϑ$ ds++[ϐ [ϒ "lay",U j]])=a0 at *;generalize (l.a j).m.D=MD,(l.a j).G=GD at *;simp[ϊ,E,mh,I,sd,mi,gr,ml,m5,ly,Y,V,R,H,W,am,ad]
end
def gw(l:Lk)(B:Bs)(j:Nat):Bs:=if yp l B j then { B with C:=Qa B.C j (.laid (l.a j).q (l.a j).m B.y) } else B
def sm(l:Lk)(B:Bs)(j:Nat):gV:=if yp l B j then [ϐ [ϒ "lay",U j]]else []
section
variable{b c:Nat}{P:Nat->Pt}{B:Bs}{l:Lk}{N:Nat}{S:Nat->List (Int × Int)}{σ:Da}(h:KB b c P B l N S (ύ l.A) σ)(hs:∀ j,j<2->l.C j=(B.C j).tl)(hy:l.y=B.y)(hP:∀ j,j<2->(P j).Ok/\(l.a j).m.Ok ((P j).u+(P j).v)/\((l.a j).m.D=Gj 0 (P j).u (P j).v []\/(l.a j).G=kh j (1 - (l.a j).q) (l.a j).m.D))
include h hs hy hP
theorem y1:∃ E m,EC [O b,O c] σ=J (O σ.length) m/\KD b c P (gw l (gw l B 0) 1) { l with C:=E } N S (ύ l.A) σ.length (sm l B 0++sm l B 1) m/\Fz N σ.length σ m:=by
 have z:N+1<σ.length:=(aa.mp$ h.s 1$ by omega).1;have w:=h.app [ϑ []];have M:(σ++[ϑ []])[σ.length]?=W1 (ϑ []):=by simp
 have ϋ:((σ++[ϑ []]).set (b+2)$ ϣ l.A)[σ.length]?=W1 (ϑ []):=by have:=h.bc;have:=h.cn;exact Yd ⋯ M
 have q:KD b c P B l N S (ϣ l.A) σ.length []$ (σ++[ϑ []]).set (b+2)$ ϣ l.A:=⟨(w.swap (A:=l.A) (ϔ rfl)$ ϣ l.A),z,ϋ,hs,hy⟩
 obtain⟨R,T,ϊ⟩:=hP 0 ⋯;obtain⟨V,W,X⟩:=hP 1 ⋯;obtain⟨i,o,t,ό,p,a,Z⟩:=MT q (ϕ rfl) ⋯ (j:=0) ⋯ R T ϊ;have a:i=gw l B 0:=a;have p:KD b c P i { l with C:=o } N S (ϣ l.A) σ.length ([]++sm l B 0) t:=p;rw[ui]at p;have H:i.C 1=B.C 1/\i.y=B.y:=by
  rw[a];unfold gw;split
  ·exact⟨rfl,rfl⟩
  ·exact⟨rfl,rfl⟩
 have I:(sm l B 0).length<100:=by unfold sm;split<;>simp
 obtain⟨u,v,n,K,f,d,z2⟩:=MT p (ϕ rfl) I (j:=1) ⋯ V W X;have sc:yp { l with C:=o } i 1=yp l B 1:=by unfold yp Mf;rw[H.1]
 have d:u=gw l i 1:=d;have L:(if yp { l with C:=o } i 1 then [ϐ [ϒ "lay",U 1]]else [])=sm l B 1:=by rw[sc];rfl
 have f:KD b c P u { l with C:=v } N S (ϣ l.A) σ.length (sm l B 0++if yp { l with C:=o } i 1 then [ϐ [ϒ "lay",U 1]]else []) n:=f;rw[L]at f;rw[a]at d;rw[d]at f;have Mf:=f.kb.swap (A:=l.A) (ϕ rfl)$ ύ l.A;have Q:(n.set (b+2)$ ύ l.A)[σ.length]?=W1 (ϑ$ sm l B 0++sm l B 1):=by have:=h.bc;have:=h.cn;exact Yd ⋯ f.g
 refine⟨v,n.set (b+2)$ ύ l.A,?_,⟨Mf,z,Q,f.s,f.y⟩,?_⟩
 rotate_left
 ·have F:Fz N σ.length σ$ σ++[ϑ []]:=λr x D D e=>yl e;have:=h.bc;have:=h.cn;exact((F.trans$ .set _ ⋯ _).trans$ Z.trans z2).trans$ .set _ ⋯ _
 have Y:=rL w.k (r:=[W1$ O c,W1$ O σ.length,ŋ,ŋ]) (tg:=vj 2$ Nf (Cc 3)$ Nf (Cc 4) Lj) (body:=yM) rfl ό rfl K f.kb.k.h2;unfold EC PU Ue
 (try dsimp only);rw[Vp,fw]
 show Tn (Lb _ _ [W1$ O b,W1$ O c,ŋ,ŋ,ŋ] σ)=_;have G:Qe 2 (vr Za) [W1$ O b,W1$ O c,ŋ,ŋ,ŋ] σ=J (ϙ [W1$ O b,W1$ O c,W1$ O σ.length,ŋ,ŋ]) (σ++[ϑ []]):=by simp
 rw[Bf,G,Jc,Af,Bf,Y,Jc,Af];simp
end
def L9{a}{m n}{xs b}(e:a[m]?=W1 (ϑ xs))(f:a[n]?=W1 (ϑ b))(g:xs.length+b.length<=1000):Ji (O m) (O n) a=J (ώ$ xs++b) a:=by
 have c:df a m=W1 xs:=by unfold df;rw[e]
 have d:df a n=W1 b:=by unfold df;rw[f]
 show AF _ _ a=_;unfold AF;simp[show wf a (O m)=W1 xs from c,show wf a (O n)=W1 b from d,Yf,g]
theorem n6{a}{n}{xs b}(d:a[n]?=W1 (ϑ b))(e:xs.length+b.length<=1000):EF (ώ xs) (O n) a=J (O a.length) (a++[ϑ$ xs++b]):=by
 have c:df a n=W1 b:=by unfold df;rw[d]
 unfold EF;simp[show wf a (ώ xs)=W1 xs from rfl,show wf a (O n)=W1 b from c];rw[ja (by trivial)];rfl
theorem WM(l:Lk)(C:Nat->D)(j:Nat):∀ (a:List Ti) (S:List$ Int × Int),Kj { l with C:=C } j a S=Kj l j a S
 |[],S=>rfl
 |t::a,S=>by
  unfold Kj;rw[show Kt { l with C:=C } S t=Kt l S t from rfl];rw[(WM l C j a S),(WM l C j a _)]
def VJ l P L B j:(Rr l P L B j).S=B.S/\(Rr l P L B j).y=B.y:=by unfold Rr;split<;>exact⟨rfl,rfl⟩
def tj(l:Lk)(B:Bs)(N:Nat):Lk:={ l with y:=B.y,C:=λj=>(B.C j).tl,E:=λj=>O$ N+j,K:=(rq$ nh (nh []$ B.S 0)$ B.S 1).foldl Dn l.K }
def kg(l:Lk)(P:Nat->Pt)(L:Nat->dd)(B:Bs):Bs:=Rr l P L (Rr l P L B 0) 1
def xl(l:Lk)(B:Bs)(j:Nat):gV × List (Int × Int):=Kj l j ((B.C j).tt$ l.a j)$ B.S j
def um(l:Lk)(B:Bs):Bs:={ B with S:=Qa (Qa B.S 0 (xl l B 0).2) 1 (xl l B 1).2 }
def SJ(l:Lk)(B:Bs):Bs:=gw l (gw l B 0) 1
section
variable{b c:Nat}{P:Nat->Pt}{B:Bs}{l:Lk}{σ:Da}(h:KL b l (ύ l.A) σ)(v:bj c P B σ)(hbc:c+8=b)(hn:∀ j,j<2->b+6<l.n j/\l.n j<σ.length){L:Nat->dd}(eL:∀ j,j<2->(l.a j).L=(L j).map U)(ep:∀ j,j<2->(l.a j).p=j)(hc:∀ j,j<2->∀ s x y,B.C j=.laid s x y->s≠(l.a j).q->s=1 - (l.a j).q/\x.Ok ((P j).u+(P j).v))(hS:∀ j,j<2->(B.S j).length<=30)(hz:l.K.length<=300)(hk:∀ N j,j<2->Tk (tj l B N) (kg (tj l B N) P L B) j)(hP:∀ j,j<2->(P j).Ok/\(l.a j).m.Ok ((P j).u+(P j).v)/\((l.a j).m.D=Gj 0 (P j).u (P j).v []\/(l.a j).G=kh j (1 - (l.a j).q) (l.a j).m.D))
include h v hbc hn eL ep hc hS hz hk hP
theorem zvi:∃ N ϋ n F,rz [O b,O c] σ=J (O n) F/\KD b c P (SJ (tj l B N)$ um (tj l B N)$ kg (tj l B N) P L B) { tj l B N with C:=ϋ } N (um (tj l B N)$ kg (tj l B N) P L B).S (ύ l.A) n (xk (tj l B N) P L B 0++xk (tj l B N) P L B 1++((xl (tj l B N) (kg (tj l B N) P L B) 0).1++(xl (tj l B N) (kg (tj l B N) P L B) 1).1)++(sm (tj l B N) (um (tj l B N)$ kg (tj l B N) P L B) 0++sm (tj l B N) (um (tj l B N)$ kg (tj l B N) P L B) 1)) F:=by
 obtain⟨ob,R,k1,v1⟩:=Ŏ h v hbc ŋ;obtain⟨N,I,T,k2,v2,M,Z⟩:=yno k1 v1 hbc;have G:KB b c P B { l with y:=B.y,C:=λj=>(B.C j).tl,E:=λj=>O$ N+j } N B.S (ύ l.A) I:=⟨k2,v2,hbc,M.1,λj p=>rfl,Z,λj p=>⟨(hn j p).1,by rw[M.2,wg];exact(hn j p).2⟩⟩
 have s0:=hS 0 ⋯;have s1:=hS 1 ⋯;obtain⟨o,ϊ,q⟩:=O4 G ⋯ hz (W1$ U 1);have q:KB b c P B (tj l B N) N B.S (ύ (tj l B N).A) o:=q;have hk:=hk N;generalize w:tj l B N=l1 at *;have z:l1.a=l.a/\l1.y=B.y/\l1.A=l.A/\l1.n=l.n:=by rw[<-w];exact⟨rfl,rfl,rfl,rfl⟩
 have lC:∀ j,j<2->l1.C j=(B.C j).tl:=λj _=>by rw[<-w];rfl
 obtain⟨x,r,V,d⟩:=zgd q lC z.2.1 (L:=L) (by rw[z.1];exact eL) (by rw[z.1];exact ep) (by rw[z.1];exact hc);have d:KD b c P (kg l1 P L B) { l1 with C:=x } N B.S (ύ l1.A) o.length (xk l1 P L B 0++xk l1 P L B 1) r:=d;have K:(kg l1 P L B).S=B.S/\(kg l1 P L B).y=B.y:=⟨(VJ ..).1.trans (VJ ..).1,(VJ ..).2.trans (VJ ..).2⟩
 have H:KB b c P { kg l1 P L B with S:=B.S } { l1 with C:=x } N B.S (ύ l1.A) r:=by
  have:({ kg l1 P L B with S:=B.S }:Bs)=kg l1 P L B:=by rw[<-K.1]
  rw[this];exact d.kb
 have tk:∀ j,j<2->Tk { l1 with C:=x } (kg l1 P L B) j:=λj p=>⟨(hk j p).m,(hk j p).c,(hk j p).n,(hk j p).t⟩
 obtain⟨u,W,f,z5⟩:=ÿ H d.s d.y tk (λj p=>by have:=hS j p;omega);simp only[WM]at f;have f:KS b c P (kg l1 P L B) { l1 with C:=x } N (um l1$ kg l1 P L B).S (ύ l1.A) r.length ((xl l1 (kg l1 P L B) 0).1++(xl l1 (kg l1 P L B) 1).1) u:=by
  unfold um xl;rw[K.1];exact f
 have D:KB b c P (um l1$ kg l1 P L B) { l1 with C:=x } N (um l1$ kg l1 P L B).S (ύ l1.A) u:=f.kd.kb;obtain⟨ό,i,X,e,z6⟩:=y1 D f.kd.s f.kd.y (by rw[show ({ l1 with C:=x }:Lk).a=l.a from z.1];exact hP);have e:KD b c P (SJ l1$ um l1$ kg l1 P L B) { l1 with C:=ό } N (um l1$ kg l1 P L B).S (ύ l1.A) u.length (sm l1 (um l1$ kg l1 P L B) 0++sm l1 (um l1$ kg l1 P L B) 1) i:=e;have a0:o.length<r.length:=(aa.mp d.g).1;have g5:=z5 o.length _ d.hd ⋯ d.g;have n1:(xk l1 P L B 0++xk l1 P L B 1).length<=2:=by unfold xk;split<;>split<;>simp
 have t0:=(gJ$ hk 0$ by omega).1;have t1:=(gJ$ hk 1$ by omega).1;have n2:((xl l1 (kg l1 P L B) 0).1++(xl l1 (kg l1 P L B) 1).1).length<=36:=by
  have h0:=DF l1 0 (((kg l1 P L B).C 0).tt$ l1.a 0)$ (kg l1 P L B).S 0;have h1:=DF l1 1 (((kg l1 P L B).C 1).tt$ l1.a 1)$ (kg l1 P L B).S 1;rw[Kb];unfold xl;omega
 have n3:(sm l1 (um l1$ kg l1 P L B) 0++sm l1 (um l1$ kg l1 P L B) 1).length<=2:=by unfold sm;split<;>split<;>simp
 have Q:=L9 g5 f.kd.g ⋯;have ct:=n6 (xs:=xk l1 P L B 0++xk l1 P L B 1++((xl l1 (kg l1 P L B) 0).1++(xl l1 (kg l1 P L B) 1).1)) e.g (by rw[Kb];omega);have Mf:=e.kb.app [ϑ$ xk l1 P L B 0++xk l1 P L B 1++((xl l1 (kg l1 P L B) 0).1++(xl l1 (kg l1 P L B) 1).1)++(sm l1 (um l1$ kg l1 P L B) 0++sm l1 (um l1$ kg l1 P L B) 1)];have a1:u.length<i.length:=(aa.mp e.g).1;refine⟨N,ό,i.length,_,?_,by rw[w,<-z.2.2.1];exact⟨Mf,by have:=e.hd;omega,by simp,e.s,e.y⟩⟩;have m4:=mj q.k "strike_all" 2 VC;have m5:=mj d.kb.k "show_all" 2 RB;have m6:=mj D.k "lay_all" 2 EC;have Y:BM [W1$ O b,W1$ O c,W1$ U 1] o=J (.rt$ O i.length) (i++[ϑ$ xk l1 P L B 0++xk l1 P L B 1++((xl l1 (kg l1 P L B) 0).1++(xl l1 (kg l1 P L B) 1).1)++(sm l1 (um l1$ kg l1 P L B) 0++sm l1 (um l1$ kg l1 P L B) 1)]):=by
  generalize i++[ϑ$ xk l1 P L B 0++xk l1 P L B 1++((xl l1 (kg l1 P L B) 0).1++(xl l1 (kg l1 P L B) 1).1)++(sm l1 (um l1$ kg l1 P L B) 0++sm l1 (um l1$ kg l1 P L B) 1)]=a2 at *;generalize xk l1 P L B 0++xk l1 P L B 1++((xl l1 (kg l1 P L B) 0).1++(xl l1 (kg l1 P L B) 1).1)=XS at *;simp[m4,V,m5,W,Q,m6,X,ct]
 unfold rz gZ Ue
 (try dsimp only);rw[Vp,fw]
 show Tn (Lb jO (Lb CK$ Lb nO BM) [W1$ O b,W1$ O c,ŋ] σ)=_;rw[Bf,R,Jc,Af,Bf,T,Jc,Af,Bf,ϊ,Jc,Af,Y,jV]
end
def zq6{b}{l}{o}{σ}(h:KL b l o σ)(c:l.K.length<=60):wA [O b] σ=J (ώ$ (ks l.K).map U) σ:=by
 have o:bx [O$ b+1] σ=J (O σ.length) (σ++[ϑ$ (ks l.K).map U]):=by
  have e:wf σ (O$ b+1)=ŋ:=by unfold wf df;simp[h.h1]
  have d:Rf σ (O$ b+1)=W1 (zm l.K):=by unfold Rf;simp[h.h1]
  unfold bx;simp only[e];unfold AG;simp[d,GX];rw[ja ⋯];rfl
 have a:ig σ (bx [O$ b+1] σ)=J (ώ$ (ks l.K).map U) σ:=by rw[o];exact xz$ Ī _
 unfold wA Vd;simp[(NO h),a]
def dY{b}{l}{o}{a}(h:KL b l o a):iy [O b] a=J (U l.y) a:=by
 unfold iy Vd;simp[(XC h)]
def qS{b}{l}{c}(h:KL b l (ύ l.A) c){j:Nat}(e:j<2):eo [O b,U j] c=J (O$ l.n j) c:=by
 have d:Rf c (O$ b+2)=W1 l.A:=by unfold Rf;simp[h.h2]
 have i:Zo (U j) (O$ b+2) c=J (Ϗ į) c:=by
  unfold Zo;simp only[Lq,d];rcases(show j=0\/j=1 by lia)with rfl|rfl<;>rfl
 have g:zj _ (U j) c=J (O$ l.n j) c:=GJ h.h2 (by rcases(show j=0\/j=1 by lia)with rfl|rfl<;>rfl);have fr:ig c (J (O$ l.n j) c)=J (O$ l.n j) c:=by
  unfold ig;dsimp only;rw[ja Uc];have:fz c.length c 6 (O$ l.n j)=W1 (O$ l.n j):=by
   unfold fz;rw[ra ⋯];dsimp only;rw[ja$ (aa.mp (h.a j e).1).1]
  rw[this]
 unfold eo Vd;simp[(Qu h),i,g,fr]
def ON{a}{n}{xs}(h:df a n=W1 xs) j:df (a++j) n=W1 xs:=by
 unfold df;rw[yl$ SI h]
def DI(d:D):Prop:=d=.gt ["held"]\/d=Cl.held.tl
def Ð{d}(h:DI d) σ:Fb d (U 0) σ=J (ϒ "held") σ:=by
 rcases h with rfl|rfl
 ·exact nr rfl
 ·exact WN σ
def n8{d}(h:DI d) σ:OJ d (.gt ["held"]) σ=J (Ϗ š) σ:=by
 rcases h with rfl|rfl
 ·exact nr rfl
 ·exact qR .held σ
def R3{b}{n}{a}{c}(h:Di b n a)(d:a.Ok)(e:DI c):ye [O n,c] b=J (ώ$ a.y.map Sn.D) b:=by
 unfold ye qc;simp[(Ð e),(RF h d),(BF a.y)]
def Jt(σ:Da)(d:D):Prop:=d=Ϩ [] []\/∃ r,15<r/\d=O r/\σ[r]?=W1 (ύ [])
def Jt.app{σ}{d}(h:Jt σ d) j:Jt (σ++j) d:=h.imp id λ⟨r,a,b,c⟩=>⟨r,a,b,yl c⟩
def Jt.set{σ}{d}(h:Jt σ d){n}(f:d≠ O n) o:Jt (σ.set n o) d:=h.imp id λ⟨r,a,b,c⟩=>⟨r,a,b,Yd (λe=>f ⋯) c⟩
def Jt.ne{σ}{d}(h:Jt σ d){n}(f:n<=15\/σ.length<=n):d≠ O n:=λe=>by
 rcases h with h|⟨r,c,a,b⟩
 ·rw[h]at e;cases e
 ·rw[a]at e;cases e;have:=(aa.mp b).1
  lia
theorem Jt.V0{σ}{d}(h:Jt σ d):WB [d] σ=J (Ϩ [] []) σ:=by
 rcases h with rfl|⟨r,_,rfl,e⟩
 ·exact nr rfl
 ·have:Rf σ (O r)=W1 []:=by unfold Rf;simp[e]
  unfold WB;simp only[this];rfl
theorem aO c f a b d e σ:Bj c 5 f [a,b,d,e] σ=Xx σ.length (f [O σ.length,a,b,d,e]$ σ++[ϓ c []]):=rE rfl
abbrev Av:=Ac × D
def il(x:Av):D:=ϐ [U x.1.q,ώ$ x.1.y.map Sn.D,x.2]
def pw(x:Av):Pw:=⟨x.1.q,x.1.y⟩
def G6 σ(v:Vw){n}{ps:List Av}(E:ps.length<=3)(t:∀ x∈ps,Jt σ x.2)(k:df σ n=W1 (ps.map il)):oA [O σ.length,U v.e,U v.L,ώ [],O n] (σ++[ϓ 14 []])=J Ϛ (σ++[ϓ 14 [("every",U v.e),("last_look",U v.L),("known",ώ []),("pots",ώ ((ps.map pw).map Qg))]]):=by
 have m:∀ g,ig (σ++[ϓ 14 g]) (Br [ώ []]$ σ++[ϓ 14 g])=J (ώ []) (σ++[ϓ 14 g]):=λg=>uD rfl _;have z:∀ g,Mi (uk (Oo$ Fh$ pa 4) [] (Cc 0) wl$ ah$ Ba (Eb Fb (pa 0)$ eC$ U 0)$ Ba (Mi$ Pl Br$ Ba (Eb Fb (pa 0)$ eC$ U 1) Za)$ Ba (Pl WB$ Ba (Eb Fb (pa 0)$ eC$ U 2) Za) Za) [W1$ O σ.length,W1$ U v.e,W1$ U v.L,W1$ ώ [],W1$ O n] (σ++[ϓ 14 g])=J (ώ$ (ps.map pw).map Qg) (σ++[ϓ 14 g]):=λg=>by
  have s1:Kx (O n) (σ++[ϓ 14 g])=J (.Ol n) (σ++[ϓ 14 g]):=by
   show (match df (σ++[ϓ 14 g]) n with|some _=>_|none=>_)=_;rw[ON k]
  rw[Bc];exact Bt (ix:=[]) (src:=Fh$ pa 4) (s:=.Ol n) (xs:=ps) (ρ:=[W1$ O σ.length,W1$ U v.e,W1$ U v.L,W1$ ώ [],W1$ O n]) (σ:=σ++[ϓ 14 g]) (fe:=ah$ Ba (Eb Fb (pa 0)$ eC$ U 0)$ Ba (Mi$ Pl Br$ Ba (Eb Fb (pa 0)$ eC$ U 1) Za)$ Ba (Pl WB$ Ba (Eb Fb (pa 0)$ eC$ U 2) Za) Za) il (Qg ∘ pw) (by simp[s1]) (λi j=>by
    show (df (σ++[ϓ 14 g]++j) n).map _=_;rw[ON$ ON k _,<-dr];rfl) ⋯
   (λx u j=>by
    have l:=((t x u).app$ ϓ 14 g::j).V0;show _=J (ϐ [U x.1.q,ώ$ x.1.y.map Sn.D,Ϩ [] []]) _;unfold il;simp[(uD$ BF x.1.y),l]) (λx i=>ZH$ pw x)
 have A:Mg "every" (U v.e) ([]:List (Str × D))=([("every",U v.e)]:List (Str × D)):=rfl;have B:∀ a b:D,Mg "last_look" b ([("every",a)]:List (Str × D))=([("every",a),("last_look",b)]:List (Str × D)):=λi i=>rfl;have C:∀ a b c:D,Mg "known" c ([("every",a),("last_look",b)]:List (Str × D))=([("every",a),("last_look",b),("known",c)]:List (Str × D)):=λi i i=>rfl;have p4:∀ a b c d:D,Mg "pots" d ([("every",a),("last_look",b),("known",c)]:List (Str × D))=([("every",a),("last_look",b),("known",c),("pots",d)]:List (Str × D)):=λi i i i=>rfl;have o:∀ ρ σ,Mi (Pl Br$ Ba (pa 3) Za) ρ σ=ig σ (Pl Br (Ba (pa 3) Za) ρ σ):=λi i=>rfl;unfold oA Ue;simp[(λ(h:dl) (p:h.contains 14=š) (f:Str) (w:D) (g:List (Str × D)) (r:g.length<1000)=>mD (ρ:=[W1$ O σ.length,W1$ U v.e,W1$ U v.L,W1$ ώ [],W1$ O n]) (σ:=σ) (cs:=h) (f:=f) (d:=w) (c:=14) (fs:=g) p r),A,B,C,p4,m,z,o,-Bo]
def Wa(e y:Int)(a:Nat->Ac):Int:=Ex e$ Vl ⟨e,y⟩ [⟨(a 0).q,(a 0).y⟩,⟨(a 1).q,(a 1).y⟩]
def PA(a:Nat->Ac):Prop:=cy [⟨(a 0).q,(a 0).y⟩,⟨(a 1).q,(a 1).y⟩]
structure Ws(l:Lk)(σ:Da):Prop where
 c:∀ j,j<2->DI (l.C j)
 e:∀ j,j<2->Jt σ (l.E j)
 K:l.K=[]
def A2(m:Nat->Nat):Kv:=[(.inl 0,O (m 0)),(.inl 1,O (m 1))]
def vO(e y:Int)(a:Nat->Ac):D:=Xj ⟨e,y⟩ [Qg ⟨(a 0).q,(a 0).y⟩,Qg ⟨(a 1).q,(a 1).y⟩]
def YQ e y a:cl (vO e y a)=š:=T6 _ (by simp[zf,ZH])
def gm{j}(h:j<2):j=0\/j=1:=by lia
section
variable{l:Lk}{o:Ob}{σ:Da}(h:KL 9 l o σ)(w:Ws l σ){m:Nat->Nat}{a:Nat->Ac}(ia:∀ j,j<2->Di σ (m j) (a j)/\(a j).Ok){r:Nat}(hg:σ[r]?=W1 (ύ$ A2 m))(hr:r=11\/15<r)(he:∀ j,j<2->l.E j≠ O r)
include h w ia hg hr he
theorem nU:ZC [O 9,O r] σ=J (vO l.e l.y a) σ:=by
 have u:∃ F,KL 9 l F (σ.set r$ ϣ$ A2 m):=by
  rcases hr with rfl|hr
  ·exact⟨_,oG h (A:=A2 m) (A':=A2 m) (ϔ$ by have e:=h.h2;rw[hg]at e;injection e with e;exact e.symm) _⟩
  ·exact⟨_,h.set (ϕ$ by lia) (λj b e=>by have i:=(h.a j b).1;unfold Di at i;rw[e,hg]at i;cases i) _⟩
 obtain⟨F,u⟩:=u;have g:=(aa.mp hg).1;have p:∀ j,j<2->Di (σ.set r$ ϣ$ A2 m) (m j) (a j):=λj b=>Yd (λe=>by have i:=(ia j b).1;unfold Di at i;rw[<-e,hg]at i;cases i) (ia j b).1;have z:(σ.set r$ ϣ$ A2 m).length=σ.length:=wg;have st:∀ (j:Nat) (xs:gV),j<2->xs.length<=2->∀ X y4:Option D,zF [W1$ O 9,W1$ O r,W1$ O σ.length,W1$ U j,W1$ O$ m j] (σ.set r (ϣ$ A2 m)++[ϑ xs])=J (ϙ [W1$ O 9,W1$ O r,W1$ O σ.length,W1$ U j,W1$ O$ m j]) (σ.set r (ϣ$ A2 m)++[ϑ$ xs++[il (a j,l.E j)]]):=λj xs b W x x=>by
  have B:=PM (σ:=σ.set r$ ϣ$ A2 m) (xs:=xs) (d:=il (a j,l.E j)) ⋯;rw[z]at B;have P:∀ k,Dt Ei k (O σ.length) (σ.set r (ϣ$ A2 m)++[ϑ xs])=(k$ σ.set r (ϣ$ A2 m)++[ϑ xs]).bind (Ei$ O σ.length):=λk=>eF (xs:=xs) (by unfold wf df;rw[<-z];simp);have v:=u.app [ϑ xs];have st:=R3 ((p j b).app [ϑ xs]) (ia j b).2$ w.c j b;have R:=px ((p j b).app [ϑ xs]) (ia j b).2;have H:=UJ v;have I:=GG v b;have ό:=xM v b;have S:ϐ [U (a j).q,ώ$ (a j).y.map Sn.D,l.E j]=il (a j,l.E j):=rfl;generalize σ.set r (ϣ$ A2 m)++[ϑ xs]=Y,σ.set r (ϣ$ A2 m)++[ϑ$ xs++[il (a j,l.E j)]]=Z at *;simp[(My v),H,I,ό,st,R,P,S,B]
 have o:=yl (j:=[ϑ []]) hg;have ϋ:Do (Kq$ A2 m) (vj 2$ Nf (Cc 3)$ Nf (Cc 4) Lj) zF 1001 0 [W1$ O 9,W1$ O r,W1$ O σ.length,ŋ,ŋ] ((σ++[ϑ []]).set r$ ϣ$ A2 m)=J (ϙ [W1$ O 9,W1$ O r,W1$ O σ.length,W1$ U 1,W1$ O$ m 1]) (σ.set r (ϣ$ A2 m)++[ϑ [il (a 0,l.E 0),il (a 1,l.E 1)]]):=by
  rw[Lr _ _ g,mq (k:=1000) (d:=ϐ [U 0,O$ m 0]) rfl rfl];show (zF [W1$ O 9,W1$ O r,W1$ O σ.length,W1$ U (0:Nat),W1$ O$ m 0] _).bind _=_;rw[st 0 [] ⋯ ⋯ ŋ ŋ,Jc,Wj,mq (k:=999) (d:=ϐ [U 1,O$ m 1]) rfl rfl];show (zF [W1$ O 9,W1$ O r,W1$ O σ.length,W1$ U (1:Nat),W1$ O$ m 1] _).bind _=_;rw[st 1 ([]++[_]) ⋯ ⋯ ŋ ŋ,Jc,Wj];exact Wx$ UQ (A2 m) _
 have G:=zI (f:=pa 1) (src:=gq$ pa 1) (ρ:=[W1$ O 9,W1$ O r,W1$ O σ.length,ŋ,ŋ]) (σ:=σ++[ϑ []]) (n:=r) ⋯ o (mU ⋯ o) ϋ (A':=A2 m)$ yl (by rw[Ga g]);rw[Lr _ _ (by rw[z];exact g),bq,bF hg]at G;have s:=h.app [ϑ [il (a 0,l.E 0),il (a 1,l.E 1)]];have t:=zq6 s (by rw[w.K];simp);rw[w.K,show ks []=[]from(ez []).eq_nil]at t;have t:wA [O 9] _=J (ώ []) _:=t;have Q:=mj s "words" 1 wA;have L:=QY s;have N:=XC s;have M:=YQ l.e l.y a;have mk:ig (σ++[ϑ [il (a 0,l.E 0),il (a 1,l.E 1)]]) (Bj 14 5 oA [U l.e,U l.y,ώ [],O σ.length]$ σ++[ϑ [il (a 0,l.E 0),il (a 1,l.E 1)]])=J (vO l.e l.y a) (σ++[ϑ [il (a 0,l.E 0),il (a 1,l.E 1)]]):=by
  rw[aO,show oA [_,U l.e,U l.y,ώ [],O σ.length] _=_ from G6 _ ⟨l.e,l.y⟩ (n:=σ.length) (ps:=[(a 0,l.E 0),(a 1,l.E 1)]) ⋯ (λx C=>by
   have T:=(w.e 0$ by lia).app [ϑ [il (a 0,l.E 0),il (a 1,l.E 1)]];have ϊ:=(w.e 1$ by lia).app [ϑ [il (a 0,l.E 0),il (a 1,l.E 1)]];simp at C;rcases C with rfl|rfl<;>assumption) (by unfold df;simp),Zy,lJ (by
    have:=ZH$ pw (a 0,l.E 0);have:=ZH$ pw (a 1,l.E 1);simp[*])]
  rfl
 have fz:ig σ (J (vO l.e l.y a)$ σ++[ϑ [il (a 0,l.E 0),il (a 1,l.E 1)]])=J (vO l.e l.y a) σ:=iJ M;unfold ZC ZY Vd;dsimp only;generalize σ++[ϑ [il (a 0,l.E 0),il (a 1,l.E 1)]]=Z,vO l.e l.y a=V at *;simp[-wt,G,L,N,t,Q,mk,fz]
end
section
variable{l:Lk}{σ:Da}(h:KL 9 l (ύ l.A) σ)(w:Ws l σ)(k:PA l.a)
include h w k
theorem oZ:Gu [O 9] σ=J (U$ Wa l.e l.y l.a) σ:=by
 have v:=nU h w h.a (r:=11) h.h2 (ϔ rfl) (λj d=>(w.e j d).ne$ ϔ ⋯);have g:∀ σ,Fi [vO l.e l.y l.a] σ=J (U$ Wa l.e l.y l.a) σ:=λσ=>gU k σ;have c:=YQ l.e l.y l.a;have b:Vb [15] "accounts" (O 9) σ=J _ σ:=Qu h;generalize vO l.e l.y l.a=V at *;have f:fG [O 9] σ=J V σ:=by
  unfold fG Vd;simp[(mj h "view_by" 2 ZC),b,v,c]
 unfold Gu Vd;simp[(mj h "view" 1 fG),f,g]
theorem BV{n j:Nat}(f:j<2){d}(t:Di σ n d)(q:d.Ok)(C:d.p=j)(D:PA$ Qa l.a j d):qz [O 9,O n,U 0] σ=J (Ϗ$ decide$ Wa l.e l.y (Qa l.a j d) ≥ Wa l.e l.y l.a) σ:=by
 have B:IC [O 11] σ=J (O σ.length) (σ++[ύ l.A]):=by
  have:Rf σ (O 11)=W1 l.A:=by
   have e:σ[11]?=_:=h.h2;unfold Rf;simp[e]
  unfold IC;simp only[this]
 have st:∀ o,Im o (O n) (O σ.length) (U j) (σ++[ύ l.A])=J (ϙ o) (σ++[ύ$ A2$ Qa l.n j n]):=λo=>by
  rw[Ur (kvs:=l.A) ⋯ (by simp[Lk.A]),QA];rcases gm f with rfl|rfl<;>rfl
 have u:=oF (t.app [ύ l.A]) q;rw[C]at u;have g:=h.app [ύ$ A2$ Qa l.n j n];have x:Ws l$ σ++[ύ$ A2$ Qa l.n j n]:=⟨w.c,λj f=>(w.e j f).app _,w.K⟩
 have ό:=(aa.mp (h.a 0$ by lia).1).1;have I:=(aa.mp h.h6).1;have v:=nU g x (m:=Qa l.n j n) (a:=Qa l.a j d) (λi s=>by
  by_cases e:i=j
  ·rw[e,Dl,Dl];exact⟨t.app _,q⟩
  ·rw[Cn _ _ e,Cn _ _ e];exact⟨(h.a i s).1.app _,(h.a i s).2⟩) (r:=σ.length) ⋯ (ϕ$ by lia) (λj f=>(w.e j f).ne$ ϕ ⋯)
 have F:∀ σ,Fi [vO l.e l.y$ Qa l.a j d] σ=J (U$ Wa l.e l.y$ Qa l.a j d) σ:=λσ=>gU (v:=⟨l.e,l.y⟩) D σ;have E:=oZ g x k;have z:Vb [15] "accounts" (O 9) σ=J (O 11) σ:=Qu h;have fz:∀ b:Bool,ig σ (J (Ϗ b)$ σ++[ύ$ A2$ Qa l.n j n])=J (Ϗ b) σ:=λb=>iJ ⋯;generalize vO l.e l.y (Qa l.a j d)=V,Wa l.e l.y (Qa l.a j d)=H,Wa l.e l.y l.a=G,σ++[ύ$ A2$ Qa l.n j n]=Z,σ++[ύ l.A]=Y at *;unfold qz Vd;simp[z,B,st,u,v,F,E,(mj g "view_by" 2 ZC),(mj g "worth" 1 Gu),fz]
end
structure Pm where
 e:Int
 P:Nat->Pt
 t:Nat->Ti
noncomputable def Pm.x(m:Pm)(j:Nat):Sn:=⟨0,(m.P j).u,(m.P j).v,[]⟩
def Pm.z(m:Pm)(j:Nat):Sn:=⟨1,(m.P j).u - (m.t j).a,(m.P j).v,[m.t j]⟩
structure Pm.Ok(m:Pm):Prop where
 e:1<=m.e/\m.e<=4
 u:∀ j,j<2->1<=(m.P j).u/\(m.P j).u<=1000000000000
 v:∀ j,j<2->1<=(m.P j).v/\(m.P j).v<=1000000000000
 t:∀ j,j<2->(m.t j).Ok/\(m.t j).p=0/\(m.t j).w=0/\(m.t j).a<=(m.P j).u
 h:(m.P 0).l=1/\(m.P 0).r=0/\(m.P 1).l=0/\(m.P 1).r=2
 w:∀ j,j<2->m.e+1<=(m.P j).w/\(m.P j).w<=m.e+3
def Pm.c(m:Pm):Nat->Nat->Ac
 |0,0=>Fd 0 1 (m.x 0) Ϛ []
 |0,1=>gz 0 1 (m.x 0) (m.z 0) (kh 0 0 (m.z 0).D) []
 |0,_=>Fd 0 1 (m.z 0) (kh 0 0 (m.z 0).D) [U 0]
 |_,0=>Fd 1 0 (m.x 1) Ϛ []
 |_,1=>kn 1 0 (m.x 1) (m.z 1) Ϛ []
 |_,_=>Fd 1 0 (m.z 1) (kh 1 1 (m.z 1).D) [U 0]
def yy(m:Pm)(j:Nat):Nat->List Sn
 |0=>[m.x j]
 |1=>[m.x j,m.z j]
 |_=>[m.z j]
section
variable{m:Pm}(mo:m.Ok){j:Nat}(hj:j<2)
include mo hj
theorem yA:(m.x j).Ok$ (m.P j).u+(m.P j).v:=by
 have a:=mo.u j hj;have b:=mo.v j hj;exact⟨⟨by simp[Pm.x],by simp[Pm.x];lia,by simp[Pm.x];lia,by simp[Pm.x],by simp[Pm.x],by simp[Pm.x]⟩,by simp[Pm.x,wx]⟩
theorem qw:(m.z j).Ok$ (m.P j).u+(m.P j).v:=by
 have c:=mo.u j hj;have d:=mo.v j hj;obtain⟨b,_,_,e⟩:=mo.t j hj;have f:=b.a;exact⟨⟨by simp[Pm.z],by simp[Pm.z];lia,by simp[Pm.z];lia,by simpa [Pm.z]using b,by simp[Pm.z],by simp[Pm.z]⟩,by simp[Pm.z,wx];lia⟩
omit mo in
theorem al i:(m.c j i).p=j/\(m.c j i).q=1 - j /\(m.c j i).y=yy m j i:=by
 rcases gm hj with rfl|rfl<;>match i with
 |0=>exact⟨rfl,rfl,rfl⟩
 |1=>exact⟨rfl,rfl,rfl⟩
 |i+2=>exact⟨rfl,rfl,rfl⟩
omit mo in
theorem fx i:(m.c j i).Ok:=by
 rcases gm hj with rfl|rfl<;>match i with
 |0=>exact⟨ve rfl,ve rfl,rfl,rfl,rfl⟩
 |1=>exact⟨ve rfl,ve rfl,rfl,by first|rfl|exact YE _,rfl⟩
 |i+2=>exact⟨ve rfl,ve rfl,rfl,YE$ Jq _,rfl⟩
end
def Wm(m:Pm)(y:Int)(i:Nat->Nat):Int:=Wa m.e y λj=>m.c j$ i j
def D3{m:Pm}(l:m.Ok)(i:Nat->Nat):PA λj=>m.c j$ i j:=by
 have a:∀ j,j<2->((m.c j$ i j).q=0\/(m.c j$ i j).q=1)/\(0<(m.c j$ i j).y.length/\(m.c j$ i j).y.length<=2)/\∀ s∈(m.c j$ i j).y,s.ts=[]\/∃ t,s.ts=[t]/\t.w=0:=λj f=>by
  obtain⟨_,h,k⟩:=al (m:=m) f (i j);have g:=(l.t j f).2.2.1;refine⟨by rw[h];lia,?_,?_⟩<;>rw[k]<;>generalize i j=n<;>match n with
  |0=>simp[yy,Pm.x]
  |1=>simp[yy,Pm.x,Pm.z,g]
  |n+2=>simp[yy,Pm.z,g]
 have d:=a 0 ⋯;have e:=a 1 ⋯;refine⟨by simp,λp b=>?_,λp b=>?_,λp b=>?_⟩<;>simp at b<;>rcases b with rfl|rfl
 ·exact d.1
 ·exact e.1
 ·exact d.2.1
 ·exact e.2.1
 ·exact d.2.2
 ·exact e.2.2
structure Kw(m:Pm)(i:Nat->Nat)(l:Lk)(σ:Da):Prop where
 k:KL 9 l (ύ l.A) σ
 w:Ws l σ
 e:l.e=m.e
 a:∀ j,j<2->l.a j=m.c j (i j)
 n:∀ j,j<2->15<l.n j
 q:l.xx 14=W1 (ύ [])
def OG{m}{y}{i}{a}(h:∀ j,j<2->a j=m.c j (i j)):Wa m.e y a=Wm m y i:=by
 unfold Wm Wa;rw[h 0 ⋯,h 1 ⋯]
def vF{m:Pm}(b:m.Ok){i:Nat->Nat}{a}(h:∀ j,j<2->a j=m.c j (i j)):PA a:=by
 have:=D3 b i;unfold PA at *;rw[h 0 ⋯,h 1 ⋯];exact this
def YF{m:Pm}{i}{a}(h:∀ j,j<2->a j=m.c j (i j)){j n}:∀ k,k<2->Qa a j (m.c j n) k=m.c k (Qa i j n k):=λk b=>by
 by_cases e:k=j
 ·rw[e,Dl,Dl]
 ·rw[Cn _ _ e,Cn _ _ e,h k b]
theorem Ø k a b:Ki (ϒ k) (ϒ a) b=J (Ϗ$ !(k == a)) b:=aI (by rfl)
def B6{l}{e}{a fr}{g b}{ρ}{σ}{x y}{c d}{f gs}(h:a ρ σ=J x σ)(i:fr ρ σ=J y σ)(k:qi σ x=W1 (c,f))(m:qi σ y=W1 (d,gs))(j:(c,d)∈l):VF l e a fr g b ρ σ=b ρ σ:=by
 unfold VF;rw[Bl,h,Qj,Bl,i,Qj];unfold zM
 simp_all
def cO{a}{b}{n}{fn}{l}{m}(h:Di b n a)(e:cp l a.c=W1 fn)(f:a.fs.lookup m=ŋ) k d:Ci l k m d (O n) b=(d b).bind (Vg k fn$ O n):=on (xr h) e f
section
variable{m:Pm}{i:Nat->Nat}{l:Lk}{σ:Da}(h:Kw m i l σ){j:Nat}(hj:j<2)
include h
theorem Kw.app ό:Kw m i l$ σ++ό:=⟨h.k.app ό,⟨h.w.c,λj hj=>(h.w.e j hj).app ό,h.w.K⟩,h.e,h.a,h.n,h.q⟩
theorem ð:Rf σ (O 11)=W1 l.A:=by
 have e:=h.k.h2;unfold Rf;simp[e]
theorem Kw.put(hj:j<2){n}(o:15<n){s}(b:Di σ n$ m.c j s):(∀ f,Im f (O n) (O 11) (U j) σ=J (ϙ f) (σ.set 11$ ύ$ A2$ Qa l.n j n))/\Kw m (Qa i j s) { l with n:=Qa l.n j n,a:=Qa l.a j (m.c j s) } (σ.set 11$ ύ$ A2$ Qa l.n j n):=by
 have e:σ[11]?=_:=h.k.h2;refine⟨λf=>?_,⟨?_,⟨h.w.c,λj hj=>(h.w.e j hj).set ((h.w.e j hj).ne$ ϔ$ by lia) _,h.w.K⟩,h.e,YF h.a,λg d=>?_,h.q⟩⟩
 ·rw[Ur e (by simp[Lk.A])];rcases gm hj with rfl|rfl<;>rfl
 ·have k:=oG h.k (A:=l.A) (A':=l.A) (ϔ rfl)$ ύ$ A2$ Qa l.n j n;refine⟨k.h0,k.h1,k.h2,k.h3,k.h4,k.h6,k.x,λg d=>?_⟩;show Di _ (Qa l.n j n g) (Qa l.a j _ g)/\(Qa l.a j _ g).Ok;by_cases c:g=j
  ·rw[c,Dl,Dl];exact⟨Yd (λc=>by unfold Di at b;rw[<-c,e]at b;cases b) b,fx hj s⟩
  ·rw[Cn _ _ c,Cn _ _ c];exact k.a g d
 ·show 15<Qa l.n j n g;by_cases c:g=j
  ·rw[c,Dl];exact o
  ·rw[Cn _ _ c];exact h.n g d
theorem SN(hj:j<2):zj (O 11) (U j) σ=J (O$ l.n j) σ:=GJ (h.k.h2) (by rcases gm hj with rfl|rfl<;>rfl)
theorem kN(hj:j<2):cr [O 9,U j] σ=J (Ϗ š) σ:=by
 have b:=GG h.k hj;have i:Gn (U j) (O 11) σ=J (Ϗ š) σ:=by
  unfold Gn;simp[Lq,ð h];rcases gm hj with rfl|rfl<;>rfl
 have a:=Qu h.k;have c:=My h.k;unfold cr Vd;dsimp only;simp[a,c,b,i,(n8$ h.w.c j hj)]
theorem K9{X}{kd}(hj:j<2)(a:∀ σ,Fb X (U 0) σ=J (ϒ kd) σ)(b:∀ σ,Fb X (U 1) σ=J (U j) σ):dD [O 9,X] σ=J (Ϗ į) σ:=by
 have q:Vb [15] "asked" (O 9) σ=J _ σ:=Sh (mu h.k) rfl rfl;have n:Zo (U j) (O 14) σ=J (Ϗ š) σ:=by
  have:Rf σ (O 14)=W1 []:=by have:=(h.k.x 14 _ h.q).2;unfold Rf;simp[this]
  unfold Zo;simp only[Lq,this];rfl
 unfold dD Vd;cases e:kd == "offer"<;>simp[a,b,(Ø kd "offer" σ),q,n,e]
theorem lP(A:m.Ok)(hj:j<2){s}(ϋ:i j=s)(K:((m.c j$ s+1).c,(m.c j s).c)∈[(13,11),(11,13),(11,12)]){X R}{rb}{kd}(S:Td [X] σ=J (Ϗ š) σ)(z:∀ σ,Fb X (U 0) σ=J (ϒ kd) σ)(o:∀ σ,Fb X (U 1) σ=J (U j) σ)(Q:(kd == ("word" : Str))=į)(P:(kd == ("ask" : Str))=į)(g:Wm m l.y (Qa i j$ s+1) ≥ Wm m l.y i){u}(L:cp [(11,iD),(12,zD),(13,CC)] (m.c j s).c=W1 u)(tk:u [O$ l.n j,X] σ=J (ϐ [O σ.length,R]) (σ++[ϓ (m.c j$ s+1).c (m.c j$ s+1).fs]))(V:∀ σ,Zr R Ϛ σ=J (Ϗ rb) σ):∃ B C,Mv [O 9,X] σ=J (ώ$ if rb then []else [R]) ((σ++[B]).set 11 C)/\Kw m (Qa i j$ s+1) { l with n:=Qa l.n j σ.length,a:=Qa l.a j (m.c j$ s+1) } ((σ++[B]).set 11 C):=by
 have b:=h.app [ϓ (m.c j$ s+1).c (m.c j$ s+1).fs];have p:Di (σ++[ϓ (m.c j$ s+1).c (m.c j$ s+1).fs]) σ.length$ m.c j$ s+1:=by unfold Di;simp
 obtain⟨W,ό⟩:=b.put hj (aa.mp h.k.h6).1 p;refine⟨_,_,?_,ό⟩;have d:=h.a j hj;rw[ϋ]at d;have mk:=cO (m:="taken") (h.k.a j hj).1 (by rw[d];exact L) rfl 2;have v:=BV b.k b.w (vF A h.a) hj p (fx hj _) (al hj _).1$ vF A$ YF h.a;rw[h.e,OG h.a,OG$ YF h.a,ib g]at v;have G:∀ (r t:Option D) (f:Ev->M Fl),VF [(13,11),(11,13),(11,12)] [11,12,13] (Eb Fb (pa 3)$ eC$ U 0) (Eb zj (Pc (Vb [15] "accounts")$ pa 0)$ pa 2) km f [W1$ O 9,W1 X,W1$ U j,W1$ ϐ [O σ.length,R],r,t] (σ++[ϓ (m.c j$ s+1).c (m.c j$ s+1).fs])=f [W1$ O 9,W1 X,W1$ U j,W1$ ϐ [O σ.length,R],r,t] (σ++[ϓ (m.c j$ s+1).c (m.c j$ s+1).fs]):=λr t f=>by
  have a:Vb [15] "accounts" (O 9) (σ++[ϓ (m.c j$ s+1).c (m.c j$ s+1).fs])=J (O 11) _:=Qu b.k;have I:=SN b hj;refine B6 (x:=O σ.length) (y:=O$ l.n j) ?_ ?_ (xr p) (xr (b.k.a j hj).1) (by rw[d];exact K)
  ·simp
  ·simp[a,I]
 have E:Vb [15] "accounts" (O 9) σ=J (O 11) σ:=Qu h.k;have H:=SN h hj;have F:Vb [15] "accounts" (O 9) (σ++[ϓ (m.c j$ s+1).c (m.c j$ s+1).fs])=J (O 11) _:=Qu b.k;have T:=mj b.k "is_good" 3 qz;have ϊ:=mj b.k "is_as_asked" 2 dD;have N:=K9 b hj z o;have q:jC [O 9,X] σ=J (ώ$ if rb then []else [R]) ((σ++[ϓ (m.c j$ s+1).c (m.c j$ s+1).fs]).set 11$ ύ$ A2$ Qa l.n j σ.length):=by
  generalize (σ++[ϓ (m.c j$ s+1).c (m.c j$ s+1).fs]).set 11 (ύ$ A2$ Qa l.n j σ.length)=Z at *;generalize σ++[ϓ (m.c j$ s+1).c (m.c j$ s+1).fs]=Y at *;unfold jC sR ZX pW sY IR YR SR CW AR Ue;cases rb<;>simp[E,H,F,o,mk,tk,G,v,T,ϊ,N,W,V]
 unfold Mv jY IS Ue;simp[S,z,o,Q,P,(kN h hj),(mj h.k "holds" 2 cr),(mj h.k "take_step" 2 jC),q]
end
def uW p q s a:Fb (Ik p q s) (U 0) a=J (ϒ "offer") a:=by unfold Ik;simp
def zU p q s a:Fb (Ik p q s) (U 1) a=J (U p) a:=by unfold Ik;simp
def bU p m s a:Fb (Np p m s) (U 0) a=J (ϒ "accept") a:=by unfold Np;simp
def BR p m s a:Fb (Np p m s) (U 1) a=J (U p) a:=by unfold Np;simp
def ES p q n a:Fb (Xp p q n) (U 0) a=J (ϒ "struck") a:=by unfold Xp;simp
def DS p q n a:Fb (Xp p q n) (U 1) a=J (U p) a:=by unfold Xp;simp
def Yl(m:Pm):D:=ϐ [ϒ "pass",U 1,U (m.t 1).a,U (m.t 1).w,U (m.t 1).y]
def yw(j:Nat):D:=ϐ [ϒ "finish",U j]
def ġ{m:Pm}(i:m.Ok){j}(g:j<2) c:Eu [(m.x j).D,U 0,U (m.t j).a,U (m.t j).w,U (m.t j).y] c=J (m.z j).D c:=by
 obtain⟨e,k,_,_⟩:=i.t j g;have e:=qW e;unfold Ti.D at e;rw[k]at e;have h:=DG (q:=0) (ϔ rfl) (m.P j).u (m.P j).v$ -(m.t j).a;rw[show sa 0 _ (m.P j).u=(m.P j).u - (m.t j).a by simp[sa];lia,show sb 0 _ (m.P j).v=(m.P j).v by simp[sb]]at h;have st:=cC (qw i g).st;unfold Gj at st;have f:=Jq$ m.z j;have p:∀ c,Fb (m.x j).D _ c=J (U 0) c:=s0 _;have r:∀ c,Fb (m.x j).D _ c=J (ϐ [U (m.P j).u,U (m.P j).v]) c:=s1 _;have s:∀ c,Fb (m.x j).D _ c=J (ϐ []) c:=s2 _;unfold Sn.D Gj Pm.z at *;simp only[db,Hg,Ti.D,k]at *;generalize (m.P j).u - (m.t j).a=A,ϐ [U (m.x j).n,ϐ [U (m.x j).a,U (m.x j).b],ϐ _]=l at *;generalize E:ϐ [U 0,U (m.t j).a,U (m.t j).w,U (m.t j).y]=d at *;have o:∀ c,Ji (ϐ []) (ϐ [d]) c=J (ϐ [d]) c:=λc=>by rw[zn7 (by unfold Yf;simp)];rfl
 have B:∀ c,Eh [U 1,ϐ [U A,U (m.P j).v],ϐ [d]] c=J (ϐ [U 1,ϐ [U A,U (m.P j).v],ϐ [d]]) c:=λc=>by
  unfold Eh QP;simp[st,f]
 have C:∀ c,Bk [l,ϐ [U A,U (m.P j).v],ϐ [d]] c=J (ϐ [U 1,ϐ [U A,U (m.P j).v],ϐ [d]]) c:=λc=>by
  unfold Bk qc;simp[p,B,f]
 unfold Eu qc;simp[E,e,h,r,s,C,o,f]
section
variable{m:Pm}{i:Nat->Nat}{l:Lk}{σ:Da}(h:Kw m i l σ)(mo:m.Ok)
include h mo
theorem Y2(b:i 0=0)(g:Wm m l.y (Qa i 0 1) ≥ Wm m l.y i):∃ d e,Mv [O 9,Ik 0 0$ m.z 0] σ=J (ώ [Np 0 (m.x 0)$ m.z 0]) ((σ++[d]).set 11 e)/\Kw m (Qa i 0 1) { l with n:=Qa l.n 0 σ.length,a:=Qa l.a 0 (m.c 0 1) } ((σ++[d]).set 11 e):=
 lP (rb:=į) h mo (j:=0) ⋯ b (.head _) (LM (p:=0) ⋯ σ (ϔ rfl) (qw mo (j:=0)$ by lia).st) (uW _ _ _) (zU _ _ _) ⋯ ⋯ g (by rfl) (x4 (p:=0) ⋯ (yA mo (j:=0)$ by lia) (qw mo (j:=0)$ by lia) rfl rfl rfl$ by have:=(h.k.a 0$ by lia).1;rw[h.a 0 ⋯,b]at this;exact this) (λσ=>rfl)
theorem C6(b:i 0=1)(g:Wm m l.y (Qa i 0 2) ≥ Wm m l.y i):∃ d e,Mv [O 9,Xp 0 0 0] σ=J (ώ []) ((σ++[d]).set 11 e)/\Kw m (Qa i 0 2) { l with n:=Qa l.n 0 σ.length,a:=Qa l.a 0 (m.c 0 2) } ((σ++[d]).set 11 e):=
 lP (rb:=š) h mo ⋯ b (.tail _$ .head _) (eM (p:=0) ⋯ σ (ϔ rfl)$ by lia) (ES _ _ _) (DS _ _ _) ⋯ ⋯ g (by rfl) (G5 (p:=0) ⋯ (yA mo (j:=0)$ by lia) (qw mo (j:=0)$ by lia) (YE$ Jq _) rfl (L:=[]) (show 0<=100 by lia)$ by have:=(h.k.a 0$ by lia).1;rw[h.a 0 ⋯,b]at this;exact this) (λσ=>rfl)
theorem W6(b:i 1=1)(g:Wm m l.y (Qa i 1 2) ≥ Wm m l.y i):∃ d e,Mv [O 9,Np 1 (m.x 1)$ m.z 1] σ=J (ώ [Xp 1 0 0]) ((σ++[d]).set 11 e)/\Kw m (Qa i 1 2) { l with n:=Qa l.n 1 σ.length,a:=Qa l.a 1 (m.c 1 2) } ((σ++[d]).set 11 e):=
 lP h mo ⋯ b (.tail _$ .tail _$ .head _) (LK (p:=1) ⋯ σ (qw mo$ by lia).st$ by simp[Pm.x]) (bU _ _ _) (BR _ _ _) ⋯ ⋯ g (by rfl) (Y1 ⋯ (yA mo$ by lia) (qw mo (j:=1)$ by lia) rfl rfl (L:=[]) (show 0<=100 by lia)$ by have:=(h.k.a 1$ by lia).1;rw[h.a 1 ⋯,b]at this;exact this) (λσ=>rfl)
omit mo in
theorem ĭ:dB [O 9] σ=J (U 0) σ:=by
 have g:Vb [15] "gave" (O 9) σ=J _ σ:=Sh (mu h.k) rfl rfl;unfold dB Vd;simp[g]
omit mo in
theorem GT{j}(b:j<2)(r:l.F.length<=9):Qv [O 9,yw j] σ=J (ϐ [Ϗ š,ώ []]) (σ.set 15$ ύ$ Df l.F (.inl j)$ Ϗ š)/\Kw m i { l with F:=Df l.F (.inl j) (Ϗ š) } (σ.set 15$ ύ$ Df l.F (.inl j)$ Ϗ š):=by
 have e:σ[15]?=_:=h.k.h6;refine⟨?_,⟨⟨Yd ⋯ h.k.h0,Yd ⋯ h.k.h1,Yd ⋯ h.k.h2,Yd ⋯ h.k.h3,Yd ⋯ h.k.h4,Ga (aa.mp e).1,h.k.x.set ⋯ _,λk d=>⟨Yd (λc=>(fD h.k d).2.2.2.2 c.symm) (h.k.a k d).1,(h.k.a k d).2⟩⟩,⟨h.w.c,λj b=>(h.w.e j b).set ((h.w.e j b).ne$ ϔ$ by lia) _,h.w.K⟩,h.e,h.a,h.n,h.q⟩⟩;have st:∀ g,Im g _ _ _ σ=J (ϙ g) (σ.set 15$ ύ$ Df l.F (.inl j)$ Ϗ š):=λg=>Ur e ⋯;have f:Vb [15] "finishing" (O 9) σ=J (O 15) σ:=tZ h.k;have o:∀ σ,Fb (yw j) (U 0) σ=J (ϒ "finish") σ:=λσ=>by unfold yw;simp
 have p:∀ σ,Fb (yw j) (U 1) σ=J (U j) σ:=λσ=>by unfold yw;simp
 unfold Qv iL sK Ue;generalize σ.set 15 _=s at *;simp[(kN h b),(mj h.k "holds" 2 cr),o,p,f,st]
theorem Δ(ii:i 1=0):∃ P X,(Wm m l.y (Qa i 1 1) ≥ Wm m l.y i->Qv [O 9,Yl m] σ=J (ϐ [Ϗ š,ώ [Ik 1 0$ m.z 1]]) ((σ++[P]).set 11 X)/\Kw m (Qa i 1 1) { l with n:=Qa l.n 1 σ.length,a:=Qa l.a 1 (m.c 1 1) } ((σ++[P]).set 11 X))/\(¬ Wm m l.y (Qa i 1 1) ≥ Wm m l.y i->Qv [O 9,Yl m] σ=J (ϐ [Ϗ į,ώ []]) (σ++[P])):=by
 have d:1<2:=by lia
 have p:=h.app [ϓ 12 (kn 1 0 (m.x 1) (m.z 1) Ϛ []).fs];have V:Di (σ++[ϓ 12 (kn 1 0 (m.x 1) (m.z 1) Ϛ []).fs]) σ.length$ m.c 1 1:=by unfold Di;simp;exact⟨rfl,rfl⟩
 obtain⟨Q,N⟩:=p.put d (aa.mp h.k.h6).1 V;have Q:∀ ρ,Im ρ (O σ.length) (O 11) (U 1) (σ++[ϓ 12 (kn 1 0 (m.x 1) (m.z 1) Ϛ []).fs])=_:=Q;have q:∀ σ,Fb (Yl m) (U 0) σ=J (ϒ "pass") σ:=λσ=>by unfold Yl;simp
 have ϋ:∀ σ,Fb (Yl m) (U 1) σ=J (U 1) σ:=λσ=>by unfold Yl;simp
 have i2:∀ σ,Fb (Yl m) (U 2) σ=J (U (m.t 1).a) σ:=λσ=>by unfold Yl;simp
 have i3:∀ σ,Fb (Yl m) (U 3) σ=J (U (m.t 1).w) σ:=λσ=>by unfold Yl;simp
 have i4:∀ σ,Fb (Yl m) (U 4) σ=J (U (m.t 1).y) σ:=λσ=>jL ..;have S:=h.a 1 d;rw[ii]at S;have u:Di σ (l.n 1)$ Fd 1 0 (m.x 1) Ϛ []:=by have:=(h.k.a 1 d).1;rw[S]at this;exact this
 have o:(Fd 1 0 (m.x 1) Ϛ []).Ok:=fx (m:=m) d 0;have ό:Vb [15] "accounts" (O 9) σ=J (O 11) σ:=Qu h.k;have M:zj (O 11) (U 1) σ=J (O$ l.n 1) σ:=SN h d;have a1:Vb [15] "accounts" (O 9) (σ++[ϓ 12 (kn 1 0 (m.x 1) (m.z 1) Ϛ []).fs])=J (O 11) _:=Qu p.k;have v:Vb [7,8,10,11,12,13] "side" (O$ l.n 1) σ=J (U 0) σ:=px u o;have mi:Vb [10,11,12,13] "mine" (O$ l.n 1) σ=J (m.x 1).D σ:=SA u o;have kk:Vb [14,15] "known" (O 9) σ=J (O 10) σ:=NO h.k;have td:=ġ mo d;have hz:=Jq$ m.z 1;have wd:Ag [O$ l.n 1,Yl m,O 10] σ=J (m.z 1).D σ:=by
  have K:(("pass" : Str) == "give")=į:=by decide
  have L:(("pass" : Str) == "pay")=į:=by decide
  unfold Ag qc;dsimp only;generalize Yl m=s,(m.x 1).D=S0,(m.z 1).D=I at *;simp[q,i2,i3,i4,v,mi,K,L,td,hz]
 have of:Hf [O$ l.n 1,ϐ [U (m.z 1).a,U (m.z 1).b],ϐ$ (m.z 1).ts.map Ti.D] σ=J (ϐ [O σ.length,Ik 1 0$ m.z 1]) (σ++[ϓ 12 (kn 1 0 (m.x 1) (m.z 1) Ϛ []).fs]):=ř ⋯ (yA mo d) (qw mo d) rfl rfl rfl u;have j1:=s1$ m.z 1;have j2:=s2$ m.z 1;have r:og [O$ l.n 1,(m.z 1).D] σ=J (ϐ [O σ.length,Ik 1 0$ m.z 1]) (σ++[ϓ 12 (kn 1 0 (m.x 1) (m.z 1) Ϛ []).fs]):=by
  generalize σ++[ϓ 12 _]=Y at *;generalize Ik 1 0 (m.z 1)=OL at *;unfold og bZ;simp[v,j1,j2,of]
 have j:=BV p.k p.w (vF mo h.a) d V (fx d _) (al d _).1$ vF mo$ YF h.a;rw[h.e,OG h.a,OG$ YF h.a]at j;have T:zg [Yl m] σ=J (U 0) σ:=by
  have K:(("pass" : Str) == "give")=į:=by decide
  have L:(("pass" : Str) == "pay")=į:=by decide
  unfold zg qc;dsimp only;generalize Yl m=s at *;simp[q,K,L]
 have W:=mj p.k "is_good" 3 qz;have mw:=cO (l:=[(11,Rp),(12,Vy),(13,KA)]) (m:="word") u rfl rfl 1;have cw:∀ x σ,Rp [x] σ=J (ϒ "calm") σ:=λx σ=>by unfold Rp Vd;simp
 have nc:Ki (ϒ "calm") (ϒ "calm") σ=J (Ϗ į) σ:=nw rfl;have b3:(("pass" : Str) == "finish")=į:=by decide
 have b4:(("pass" : Str) == "settle")=į:=by decide
 have hw:cr [O 9,U 1] σ=J (Ϗ š) σ:=kN h d;have mh:=mj h.k "holds" 2 cr;have mf:=mj h.k "wish_for" 3 Wz;have ph:∀ (R:D) (f:Da),Wz [O 9,(m.z 1).D,Yl m] σ=J R f->Qv [O 9,Yl m] σ=J R f:=λR f e=>by
  unfold Qv iL sK PR KQ QQ yY Ue;dsimp only;generalize Yl m=s,(m.z 1).D=I at *;simp[hw,mh,q,ϋ,b3,ό,M,mw,cw,nc,kk,wd,mf,e]
 refine⟨ϓ 12 (kn 1 0 (m.x 1) (m.z 1) Ϛ []).fs,_,λg=>⟨ph _ _ ?_,N⟩,λg=>ph _ _ ?_⟩
 ·rw[ib g]at j;have ϊ:((σ++[ϓ 12 (kn 1 0 (m.x 1) (m.z 1) Ϛ []).fs]).set 11$ ύ$ A2$ Qa l.n 1 σ.length)[9]?=W1 (ϓ 15$ uu 9 l.e l.y):=N.k.h0;have k9:qi ((σ++[ϓ 12 (kn 1 0 (m.x 1) (m.z 1) Ϛ []).fs]).set 11$ ύ$ A2$ Qa l.n 1 σ.length) (O 9)=W1 (15,uu 9 l.e l.y):=by have:=mu N.k;exact this
  generalize (σ++[ϓ 12 (kn 1 0 (m.x 1) (m.z 1) Ϛ []).fs]).set 11 (ύ$ A2$ Qa l.n 1 σ.length)=H at *;generalize σ++[ϓ 12 (kn 1 0 (m.x 1) (m.z 1) Ϛ []).fs]=Y at *;have ag:∀ (A B C E F G:Option D),OA [A,B,C,E,F,W1$ U 0,G] [15] "gave" (pa 5) (O 9) H=J (ϙ [A,B,C,E,F,W1$ U 0,G]) H:=λA B C E F G=>by
   have lk:List.lookup ("gave" : Str) (uu 9 l.e l.y)=W1 (U 0):=rfl;unfold OA;rw[k9];simp only[lk];rw[Bl,show pa 5 [A,B,C,E,F,W1$ U 0,G] H=J (U 0) H by simp,Qj];unfold oH;simp only[ϊ];exact eb _$ bF ϊ
  unfold Wz UP iN hL mN NN LL mW zS WY Ue;dsimp only;generalize Yl m=s,(m.z 1).D=I,Ik 1 0 (m.z 1)=Z at *;simp[ό,M,a1,v,q,ϋ,b4,T,r,j,W,Q,ag]
 ·rw[pb g]at j;generalize σ++[ϓ 12 (kn 1 0 (m.x 1) (m.z 1) Ϛ []).fs]=Y at *;unfold Wz UP iN hL mN NN LL Ue;dsimp only;generalize Yl m=s,(m.z 1).D=I,Ik 1 0 (m.z 1)=Z at *;simp[ό,M,v,q,ϋ,T,r,j,W]
end
theorem ć e r a s:Ex e [[r,a],[s]]=if val e [a,s]<val e [r,s]then val e [a,s]else val e [r,s]:=by
 show vc e (if val e [a,s]<val e [r,s]then [(a,1),_]else [(r,0),_])=_;split<;>rfl
theorem yrp e r s a:Ex e [[r],[s,a]]=if val e [r,a]<val e [r,s]then val e [r,a]else val e [r,s]:=by
 show vc e (if val e [r,a]<val e [r,s]then [(r,0),_]else [(r,0),_])=_;split<;>rfl
def FL e r s:val e [r,s]=r.f+s.f+gs e (g7$ r.x++s.x):=by
 unfold val Xv;simp
def ď e{l}(a:ar l=į):gs e (g7 [l])=0:=by
 show An [l] (mf [l] e) e+0=0;have:mf [l] e=ŋ:=by unfold mf Rs;simp[a,zt]
 rw[this];unfold An cm;simp[a]
def ĳ e{l k}(b:ar l=į)(a:ar k=į):gs e (g7 [l,k])=0:=by
 show An [l,k] (mf [l,k] e) e+0=0;have:mf [l,k] e=ŋ:=by unfold mf Rs;simp[b,a,zt]
 rw[this];unfold An cm;simp[b,a]
def F7 e{l k}(b:ar l=į)(a:ar k=š):gs e (g7 [l,k])=if (if (l.k == ("hangs" : Str)) && decide (k.d - 1+e<l.d)then l.v else 0)<k.v then (if (l.k == ("hangs" : Str)) && decide (k.d - 1+e<l.d)then l.v else 0)else k.v:=by
 have s0:An [l,k] ŋ e=k.v:=by unfold An cm;simp[b,a]
 have s1:An [l,k] (W1 k.d) e=if (l.k == ("hangs" : Str)) && decide (k.d - 1+e<l.d)then l.v else 0:=by
  have cl:cm (W1 k.d) e l=((l.k == ("hangs" : Str)) && decide (k.d - 1+e<l.d)):=by unfold cm;rw[b];rfl
  have g:cm (W1 k.d) e k=į:=by unfold cm;simp[a]
  unfold An;rw[Th,Th,cl,g];cases (l.k == ("hangs" : Str)) && decide (k.d - 1+e<l.d)<;>simp
 have f:mf [l,k] e=if An [l,k] (W1 k.d) e<An [l,k] ŋ e then W1 k.d else ŋ:=by
  unfold mf Rs;simp[b,a,zt]
 show An [l,k] (mf [l,k] e) e+0=_;rw[f,<-s1];by_cases c:An [l,k] (W1 k.d) e<An [l,k] ŋ e
 ·rw[ja c,ja (by rw[<-s0];exact c)];lia
 ·rw[ra c,ra (by rw[<-s0];exact c),s0];lia
def Due(m:Pm)(y:Int):Prop:=(m.t 1).y<=y\/(m.t 1).y+m.e<=(m.t 0).y/\(m.t 1).a<=(m.t 0).a
def Co(m:Pm):Int:=(m.P 0).v+(m.P 1).u
section
variable{m:Pm}(mo:m.Ok)(y:Int)
include mo
theorem vU:∃ l,rd ⟨m.e,y⟩ 1 (m.z 0)=⟨(m.P 0).v,[l]⟩/\ar l=į/\l.v=(m.t 0).a/\l.d=(m.t 0).y/\((l.k == ("hangs" : Str))=decide (y<(m.t 0).y)):=by
 have b:=(mo.t 0$ by lia).2.1;have k:Ao ⟨m.e,y⟩ 1 (m.t 0)=if (m.t 0).y<=y then ("gone" : Str)else "hangs":=by unfold Ao;rw[ra ⋯]
 refine⟨lo ⟨m.e,y⟩ 1$ m.t 0,?_,?_,rfl,rfl,?_⟩
 ·have f:fa ⟨m.e,y⟩ 1 (m.t 0)=0:=by unfold fa;rw[k];split<;>exact ra ⋯
  unfold rd qC ow;simp[Pm.z,f]
 ·show (Ao ⟨m.e,y⟩ 1 (m.t 0) == ("open" : Str))=į;rw[k];split<;>decide
 ·show (Ao ⟨m.e,y⟩ 1 (m.t 0) == ("hangs" : Str))=_;rw[k];by_cases c:(m.t 0).y<=y
  ·rw[ja c,pb ⋯];decide
  ·rw[ra c,ib ⋯];decide
theorem K2:∃ l,(rd ⟨m.e,y⟩ 0$ m.z 1).x=[l]/\l.v=(m.t 1).a/\l.d=(m.t 1).y/\ar l=decide (y<(m.t 1).y)/\(rd ⟨m.e,y⟩ 0$ m.z 1).f=if y<(m.t 1).y then (m.P 1).u - (m.t 1).a else (m.P 1).u:=by
 have b:=(mo.t 1$ by lia).2.1;have k:Ao ⟨m.e,y⟩ 0 (m.t 1)=if (m.t 1).y<=y then ("back" : Str)else "open":=by unfold Ao;rw[ja b]
 refine⟨lo ⟨m.e,y⟩ 0$ m.t 1,rfl,rfl,rfl,?_,?_⟩
 ·show (Ao ⟨m.e,y⟩ 0 (m.t 1) == ("open" : Str))=_;rw[k];by_cases c:(m.t 1).y<=y
  ·rw[ja c,pb ⋯];decide
  ·rw[ra c,ib ⋯];decide
 ·show ow 0 (m.z 1)+qC ⟨m.e,y⟩ 0 [m.t 1]=_;have f:qC ⟨m.e,y⟩ 0 [m.t 1]=if y<(m.t 1).y then 0 else (m.t 1).a:=by
   show fa ⟨m.e,y⟩ 0 (m.t 1)+0=_;unfold fa;rw[k];by_cases c:(m.t 1).y<=y
   ·rw[ja c,ja ⋯,ra ⋯];lia
   ·rw[ra c,ra ⋯,ja ⋯];lia
  rw[f];show (m.P 1).u - (m.t 1).a+_=_;split<;>lia
omit mo in
theorem rx q j:rd ⟨m.e,y⟩ q (m.x j)=⟨ow q$ m.x j,[]⟩:=by unfold rd qC;simp[Pm.x]
theorem Q3:val m.e [rd ⟨m.e,y⟩ 1$ m.x 0,rd ⟨m.e,y⟩ 0$ m.x 1]=Co m:=by
 rw[FL,rx,rx];show (m.P 0).v+(m.P 1).u+0=_;unfold Co;lia
theorem JR:val m.e [rd ⟨m.e,y⟩ 1$ m.z 0,rd ⟨m.e,y⟩ 0$ m.x 1]=Co m:=by
 obtain⟨l,e,a,_⟩:=vU mo y;rw[FL,rx,e];show (m.P 0).v+(m.P 1).u+gs m.e (g7 [l])=_;rw[ď _ a];unfold Co;lia
theorem DV:(Due m y->val m.e [rd ⟨m.e,y⟩ 1$ m.z 0,rd ⟨m.e,y⟩ 0$ m.z 1]=Co m)/\(¬ Due m y->val m.e [rd ⟨m.e,y⟩ 1$ m.z 0,rd ⟨m.e,y⟩ 0$ m.z 1]<Co m):=by
 obtain⟨l,e,d,j,ld,i⟩:=vU mo y;obtain⟨k,f,h,kd,ok,g⟩:=K2 mo y;have n:=(mo.t 0$ by lia).1.a;have o:=(mo.t 1$ by lia).1.a;have p:=mo.e;rw[FL,e,f,g];show (Due m y->(m.P 0).v+_+gs m.e (g7 [l,k])=_)/\(¬ Due m y->(m.P 0).v+_+gs m.e (g7 [l,k])<_);unfold Due Co;by_cases c:y<(m.t 1).y
 ·rw[ib c]at ok;rw[F7 _ d ok,j,h,kd,ld,i,ja c];by_cases b:y<(m.t 0).y/\(m.t 1).y - 1+m.e<(m.t 0).y
  ·rw[ib b.1,ib b.2];simp only[BB,sg];split<;>lia
  ·rw[show (decide (y<(m.t 0).y) && decide ((m.t 1).y - 1+m.e<(m.t 0).y))=į by rw[<-qe,Ca,Bb,Bb];exact b];simp only[sf,oj];split<;>lia
 ·rw[pb c]at ok;rw[ĳ _ d ok,ra c]
  lia
theorem LG c{i}(h:i 0=c)(d:i 1=0):Wm m y i=Co m:=by
 unfold Wm Wa;rw[(al ⋯ _).2.1,(al ⋯ _).2.2,(al ⋯ _).2.1,(al ⋯ _).2.2,h,d];have a:=Q3 mo y;have b:=JR mo y
 match c with
 |0=>exact a
 |1=>
  show Ex m.e [[rd ⟨m.e,y⟩ 1$ m.x 0,rd ⟨m.e,y⟩ 1$ m.z 0],[rd ⟨m.e,y⟩ 0$ m.x 1]]=_;rw[ć,a,b,ra ⋯]
 |n+2=>exact b
theorem kM{i}(h:i 0=2)(a:i 1=1):(Due m y->Wm m y i=Co m)/\(¬ Due m y->Wm m y i<Co m):=by
 unfold Wm Wa;rw[(al ⋯ _).2.1,(al ⋯ _).2.2,(al ⋯ _).2.1,(al ⋯ _).2.2,h,a];have b:=JR mo y;have c:=DV mo y;show (_->Ex m.e [[rd ⟨m.e,y⟩ 1$ m.z 0],[rd ⟨m.e,y⟩ 0$ m.x 1,rd ⟨m.e,y⟩ 0$ m.z 1]]=_)/\(_->Ex m.e [[rd ⟨m.e,y⟩ 1$ m.z 0],[rd ⟨m.e,y⟩ 0$ m.x 1,rd ⟨m.e,y⟩ 0$ m.z 1]]<_);rw[yrp,b];refine⟨λd=>?_,λd=>?_⟩
 ·rw[c.1 d,ra ⋯]
 ·have:=c.2 d;rw[ja this];exact this
theorem x8{i}(h:i 0=2)(a:i 1=2)(d:Due m y):Wm m y i=Co m:=by
 unfold Wm Wa;rw[(al ⋯ _).2.1,(al ⋯ _).2.2,(al ⋯ _).2.1,(al ⋯ _).2.2,h,a];exact(DV mo y).1 d
end
def zx{b}{n c}{a}(h:b[n]?=W1 (ϓ c a)):qi b (O n)=W1 (c,a):=by unfold qi;simp[h]
def Zf{a}{n}{o}(h:a[n]?=W1 o):ig a (J (O n) a)=J (O n) a:=by
 unfold ig;dsimp only;rw[ja ⋯];have:fz a.length a 6 (O n)=W1 (O n):=by
  unfold fz;dsimp only;rw[ja$ (aa.mp h).1]
  simp_all
 rw[this]
def PL(m:Pm):D:=ώ [(m.P 0).D,(m.P 1).D]
def rJ(m:Pm):List$ Str × D:=[("public",O 1),("pots",PL m),("every",U m.e),("keepers",O 6),("under_way",O 7),("things",O 8)]
def k0:Kv:=[(.inl 0,O 9)]
def XX(m:Pm)(T:List TK)(fz:Bool)(r:Nat):Option Ob:=if r=0 then W1 (ϓ 16$ rJ m)else if r=6 then W1 (if fz then ϣ k0 else ύ k0)else if r=8 then W1 (.Ie T)else if r=14 then W1 (ύ [])else ŋ
structure HA(m:Pm)(T:List TK)(fz:Bool)(σ:Da):Prop where
 h0:σ[0]?=W1 (ϓ 16 (rJ m))
 h6:σ[6]?=W1 (if fz then ϣ k0 else ύ k0)
 h8:σ[8]?=W1 (.Ie T)
def Fx.ha{m}{T}{fz}{a}(h:Fx 9 (XX m T fz) a):HA m T fz a:=⟨(h 0 _ rfl).2,(h 6 _ rfl).2,(h 8 _ rfl).2⟩
section
variable{m:Pm}{T:List TK}{fz:Bool}{σ:Da}(H:HA m T fz σ)
include H
theorem HA.app j:HA m T fz$ σ++j:=⟨yl H.h0,yl H.h6,yl H.h8⟩
theorem HA.SF ϊ:HA m ϊ fz$ σ.set 8$ .Ie ϊ:=⟨Yd ⋯ H.h0,Yd ⋯ H.h6,Ga (aa.mp H.h8).1⟩
theorem vG:Vb [9,14,16] "pots" (O 0) σ=J (PL m) σ:=Sh (zx H.h0) rfl rfl
theorem AA:Vb [16] "keepers" (O 0) σ=J (O 6) σ:=Sh (zx H.h0) rfl rfl
theorem PN:Vb [16] "things" (O 0) σ=J (O 8) σ:=Sh (zx H.h0) rfl rfl
theorem Vz:Vb [16] "public" (O 0) σ=J (O 1) σ:=Sh (zx H.h0) rfl rfl
theorem M7:Vb [14,15,16] "every" (O 0) σ=J (U m.e) σ:=Sh (zx H.h0) rfl rfl
theorem Xi x k a(c:((rJ m).lookup x=ŋ)⁻¹) b:Ci [(16,a)] k x b (O 0) σ=(b σ).bind (Vg k a$ O 0):=on (zx H.h0) rfl c
theorem cW:Rf σ (O 6)=W1 k0:=by
 have:=H.h6;unfold Rf;cases fz<;>simp[this]
theorem HU:zj (O 6) (U 0) σ=J (O 9) σ:=by
 unfold zj;simp[cW H];rfl
theorem LD:Gn (U 0) (O 6) σ=J (Ϗ š) σ/\Zo (U 0) (O 6) σ=J (Ϗ į) σ/\Gn (U 1) (O 6) σ=J (Ϗ į) σ/\Gn (U 2) (O 6) σ=J (Ϗ į) σ/\Zo (U 1) (O 6) σ=J (Ϗ š) σ/\Zo (U 2) (O 6) σ=J (Ϗ š) σ:=by
 unfold Gn Zo;simp only[Lq,cW H];exact⟨rfl,rfl,rfl,rfl,rfl,rfl⟩
theorem HJ{o}(e:σ[9]?=W1 o):np [O 0,U 0] σ=J (O 9) σ:=by
 unfold np Vd;simp[(AA H),((LD H).2.1),(HU H),(Zf e)]
end
def fF{m}{j:Nat}(b:j<2) a:Fb (PL m) (U j) a=J (m.P j).D a:=by unfold PL;rcases gm b with rfl|rfl<;>simp
theorem tM(p:Pt) a:JA p.D ŋ (W1 2) a=J (ϐ [U p.l,U p.r]) a:=by unfold Pt.D;rw[BG];rfl
def Cw(p:Pt) a:Fb p.D (U 0) a=J (U p.l) a/\Fb p.D (U 1) a=J (U p.r) a:=by unfold Pt.D;simp
@[simp] theorem zpn f c b a d:kH f c b a d=zk a (MP a c b) (f a d):=Bl ..
@[simp] theorem zpx b a d ρ σ:MP ρ b a d σ=zk ρ (UO ρ a) (b ρ σ):=Bl ..
@[simp] theorem zpy b x a c:UO a b x c=zk a (LA a x) (b a c):=Bl ..
theorem mE{c:Type}{f:D->Option c}:∀ {a:gV},(∀ d∈a,∃ k,f d=W1 k)->∃ ks,cx f a=W1 ks
 |[],_=>⟨_,rfl⟩
 |d::a,h=>by
  obtain⟨k,e⟩:=h d ua;obtain⟨ks,g⟩:=mE λx b=>h x$ la _ b;unfold cx
  simp_all
def lA n i:∃ k,Lv n (U i)=W1 k:=by cases n<;>exact⟨_,rfl⟩
def gO n x:∃ k,Lv n (ϒ x)=W1 k:=by cases n<;>exact⟨_,rfl⟩
def JI{n}{a}(h:∀ d∈a,∃ k,Lv n d=W1 k):∃ k,Lv (n+1) (ϐ a)=W1 k:=by
 obtain⟨ks,e⟩:=mE h;exact⟨.inr ks,by show (cx _ a).map Sum.inr=_;rw[e];rfl⟩
def Λ(s:Sn):∃ k,Lv 4 s.D=W1 k:=JI λd hd=>by
 simp at hd;rcases hd with rfl|rfl|rfl
 ·exact lA ..
 ·exact JI λd hd=>by
   simp at hd;rcases hd with rfl|rfl<;>exact lA ..
 ·exact JI λd hd=>by
   obtain⟨t,_,rfl⟩:=Ya.mp hd;exact JI λd hd=>by
    simp at hd;rcases hd with rfl|rfl|rfl|rfl<;>exact lA ..
def AN p q(s:Sn):∃ k,Qp [ϒ "agree",U p,U q,s.D]=W1 k:=mE λd hd=>by
 simp at hd;rcases hd with rfl|rfl|rfl|rfl
 ·exact gO ..
 ·exact lA ..
 ·exact lA ..
 ·exact Λ s
def yW p q n:∃ k,Qp [ϒ "strike",U p,U q,U n]=W1 k:=mE λd hd=>by
 simp at hd;rcases hd with rfl|rfl|rfl|rfl
 ·exact gO ..
 all_goals exact lA ..
def GV{T}{k a}:a∈yn T k ↔ a∈T\/a=k:=by
 unfold yn
 grind
def Bu(a:List$ gV)(T:List TK):List TK:=a.foldl (λT y=>yn T$ (Qp y).getD []) T
theorem LR:∀ {tl:List$ gV} {T:List TK} {k:TK},k∈T->k∈Bu tl T
 |[],T,k,h=>h
 |y::tl,T,k,h=>LR (tl:=tl) (GV.mpr$ ϔ h)
theorem uY:∀ (a:List$ gV) (T:List TK),(Bu a T).length<=T.length+a.length
 |[],T=>by simp[Bu]
 |y::a,T=>by
  have:=uY a$ yn T$ (Qp y).getD [];have:(yn T$ (Qp y).getD []).length<=T.length+1:=by unfold yn;split<;>simp
  show (Bu a _).length<=_;simp;lia
structure Lt(j:Nat)(Y:D)(tl:List (gV)):Prop where
 i1:∀ σ,Fb Y (U 1) σ=J (U j) σ
 t:∀ σ,Tf [Y] σ=J (ώ (tl.map ϐ)) σ
 k:∀ y∈tl,∃ k,Qp y=W1 k
 l:tl.length<=2
section
variable{m:Pm}(o:m.Ok){fz:Bool}{j:Nat}(hj:j<2)
theorem MX(Y:Option D):∀ (a:List$ gV) (T:List TK) (σ:Da) (c:Option D),(∀ y∈a,∃ k,Qp y=W1 k)->T.length+a.length<900->HA m T fz σ->∃ d,qk (Cc 2) LP (a.map ϐ) [W1$ O 0,Y,c] σ=J (ϙ [W1$ O 0,Y,d]) (σ.set 8$ .Ie$ Bu a T)
 |[],T,σ,c,_,_,H=>⟨c,by rw[Hg,VO];show _=J _ (σ.set 8$ .Ie T);rw[bF H.h8]⟩
 |y::a,T,σ,c,h,g,H=>by
  obtain⟨k,f⟩:=h y ua;have st:∀ e,LA e (O 8) (ϐ y) σ=J (ϙ e) (σ.set 8$ .Ie$ yn T k):=λe=>by
   unfold LA;simp[f,H.h8];show T.length<1000;simp at g;lia
  have:(yn T k).length<=T.length+1:=by unfold yn;split<;>simp
  obtain⟨d,i⟩:=MX Y a (yn T k) _ _ (λy j=>h y$ la _ j) (by simp at g ⊢;lia) (H.SF _);rw[bq]at i;refine⟨d,?_⟩;rw[show Bu (y::a) T=Bu a (yn T k) by show Bu a (yn T$ (Qp y).getD [])=_;rw[f];rfl,db,tz];simp only[Be,uf];have b:LP [W1$ O 0,Y,W1$ ϐ y] σ=J (ϙ [W1$ O 0,Y,W1$ ϐ y]) (σ.set 8$ .Ie$ yn T k):=by simp[(PN H),st]
  rw[b,Jc,Wj,i]
def yak{T}{a}(H:HA m T fz a){Y}{c}(b:Lt j Y c)(f:T.length<=800):jD [O 0,Y] a=J Ϛ (a.set 8$ .Ie$ Bu c T):=by
 have d:=b.l;obtain⟨g,e⟩:=MX (W1 Y) c T a ŋ b.k ⋯ H;unfold jD qT Ue;simp[b.t,e]
def QJ{a}:No [O 0,U 0,ώ []] a=J Ϛ a:=by
 unfold No YN Ue;simp
theorem zz(o:m.Ok)(hj:j<2):(m.P j).l=1/\(m.P j).r=0/\j=0\/(m.P j).l=0/\(m.P j).r=2/\j=1:=by
 obtain⟨a,b,c,d⟩:=o.h;all_goals grind
include o hj
theorem K4{T:List TK}{c:Da}(H:HA m T fz c){Y:D}{f:List$ gV}(d:Lt j Y f)(g:T.length<=800):No [O 0,U 0,ώ [Y]] c=J Ϛ (c.set 8$ .Ie$ Bu f T):=by
 have e:=tM$ m.P j;unfold No YN Ue;dsimp only;rcases zz o hj with⟨a,b,_⟩|⟨a,b,_⟩<;>rw[a,b]at e<;>simp[d.i1,(vG H),(AA H),((LD H).2.2.1),((LD H).2.2.2.1),(yak H d g),(Xi H "tell_band" 2 jD),(fF hj),e]
omit o in
theorem uL{T}{a}(H:HA m T fz a):pB [O 0,U j] a=J (Ϗ š) a:=by
 have c:=vG H;have d:tq [PL m] a=J _ a:=TN _;have b:xf [U j,U 0,U 1] a=J _ a:=bt ⋯ a;unfold pB Vd;dsimp only
 simp_all
theorem n5{T:List TK}{c:Da}(H:HA m T fz c):kG [O 0,U j] c=J (ώ [U 0]) c:=by
 have p:=vG H;have n:=fF (m:=m) hj;have q:=tM$ m.P j;have h:=zz o hj;have l1:=gF (xs:=[(m.P j).l,(m.P j).r]) (s:=.seq [U (m.P j).l,U (m.P j).r]) (ix:=[0]) (fi:=eT$ Eb Gn (pa 0)$ Pc (Vb [16] "keepers")$ pa 2) (fe:=pa 0) (src:=Fh$ rC (Eb Fb (Pc (Vb [9,14,16] "pots")$ pa 0)$ pa 1) ŋ$ W1$ eC$ U 2) (ρ:=[W1$ O 0,W1$ U j]) (σ:=c) U U (λw=>decide$ w=0) (by
  simp[p,n,q]) (λi t=>eb W1$ dr [(m.P j).l,(m.P j).r] U i) ⋯ (λw d k=>by
  have f:=LD$ H.app k;have g:=AA$ H.app k;have d:w=0\/w=1\/w=2:=by rcases h with⟨a,b,_⟩|⟨a,b,_⟩<;>rw[a,b]at d<;>simp at d<;>lia
  rcases d with rfl|rfl|rfl
  ·exact⟨by simp[g,f.1],λt=>by simp⟩
  ·exact⟨by simp[g,f.2.2.1],λt=>by simp⟩
  ·exact⟨by simp[g,f.2.2.2.1],λt=>by simp⟩) (λw t t=>rfl)
 have e:([(m.P j).l,(m.P j).r].filter λw=>decide$ w=0).map U=[U 0]:=by
  rcases h with⟨a,b,_⟩|⟨a,b,_⟩<;>rw[a,b]<;>rfl
 rw[e]at l1;unfold kG Vd;simp[(uL hj H),(Xi H "has_pot" 2 pB),l1,-Bo]
theorem BQ{T:List TK}{d:Da}(H:HA m T fz d){s:Int}(f:s=j):Yv [O 0,U j,U s] d=J (Ϗ š) d:=by
 have e:∃ h,(h=1\/h=2)/\∀ d,Fb (m.P j).D (U s) d=J (U h) d:=by
  rcases zz o hj with⟨a,b,c⟩|⟨a,b,c⟩<;>rw[c]at f a b ⊢<;>rw[f]
  ·exact⟨1,ϔ rfl,λd=>by rw[<-a];exact(Cw _ d).1⟩
  ·exact⟨2,ϕ rfl,λd=>by rw[<-b];exact(Cw _ d).2⟩
 obtain⟨h,g,e⟩:=e;have i:=fF (m:=m) hj;have l:=vG H;have k:=AA H;obtain⟨_,_,_,_,n,p⟩:=LD H;unfold Yv Vd;dsimp only;rcases g with rfl|rfl<;>simp[(uL hj H),(Xi H "has_pot" 2 pB),l,i,(EE (s:=s) ⋯ d),e,k,n,p]
theorem N2{T:List TK}{d:Da}(H:HA m T fz d){s:Int}(e:s=1 - (j:Int)):Yv [O 0,U j,U s] d=J (Ϗ į) d:=by
 have g:∀ d,Fb (m.P j).D (U s) d=J (U 0) d:=by
  rcases zz o hj with⟨a,b,c⟩|⟨a,b,c⟩<;>rw[c]at e a b ⊢<;>rw[e]
  ·exact λd=>by rw[<-b];exact(Cw _ d).2
  ·exact λd=>by rw[<-a];exact(Cw _ d).1
 have f:=fF (m:=m) hj;have i:=EE (s:=s) ⋯ d;have h:=vG H;unfold Yv Vd;dsimp only;simp[(uL hj H),(Xi H "has_pot" 2 pB),h,f,i,g,(AA H),((LD H).2.1)]
omit o hj in
theorem UW{T}{a}(H:HA m T fz a){x}{p s}{r}{k}(c:Qp (ϒ x::U p::U s::r)=W1 k)(d:(x == ("word" : Str))=į){b}(i:Yv [O 0,U p,U s] a=J (Ϗ b) a):Ou [O 0,ϐ$ ϒ x::U p::U s::r] a=J (Ϗ$ decide (k∈T) || b) a:=by
 have h:nD (ϐ$ ϒ x::U p::U s::r) (O 8) a=J (Ϗ$ decide$ k∈T) a:=by
  unfold nD;simp[c,H.h8]
 have e:Fb (ϐ$ ϒ x::U p::U s::r) (U 0) a=J _ a:=Ly$ kq rfl;have f:Fb (ϐ$ ϒ x::U p::U s::r) (U 1) a=J _ a:=Ly$ kq rfl;have g:Fb (ϐ$ ϒ x::U p::U s::r) (U 2) a=J _ a:=Ly$ kq rfl;unfold Ou Vd;dsimp only;generalize ϐ _=L,decide (k∈T)=B at *;cases B<;>simp[(PN H),h,e,d,f,g,(Xi H "is_side_of_band" 3 Yv),i]
theorem w8{T}{a}(H:HA m T fz a){l}{E}(V:KL 9 l E a){L}{c}(z:Td [L] a=J (Ϗ š) a)(d:Lt j L c)(v:∀ y∈c,∃ x r,y=ϒ x::U j::U j::r/\(x == ("word" : Str))=į){R}{p b}(tk:Mv [O 9,L] a=J (ώ R) p)(F:No [O 0,U 0,ώ R] p=J Ϛ b)(B:∀ h,Ci [(16,No)] 3 "send" h (O 0) a=(h a).bind (Vg 3 No$ O 0)):Zt [O 0,L] a=J Ϛ b:=by
 have l:=Bt (xs:=c) (s:=.seq _) (src:=Fh$ we 1 Tf []$ Ba (pa 1) Za) (ix:=[0]) (ρ:=[W1$ O 0,W1 L,W1$ ώ [U 0]]) (σ:=a) (fe:=Zd [(16,Ou)] 2 "band_can" (pa 2)$ Ba (pa 0) Za) ϐ (λD=>Ϗ š) (by simp[d.t]) (λi D=>eb W1$ dr _ _ i) (by have:=d.l;lia) (λy n k=>by
  obtain⟨t,q⟩:=d.k y n;obtain⟨x,r,rfl,w⟩:=v y n;have g:=UW (H.app k) q w$ BQ o hj (H.app k) rfl;rw[Bool.or_true]at g;generalize ϐ _=Y at *;simp[(Xi (H.app k) "band_can" 2 Ou),g]) (λD D=>rfl)
 have e:GC [ώ _] a=J (Ϗ$ c.all λD=>š) a:=OP (σ:=a) (f:=λD=>š) (l:=c);rw[Xa.mpr ⋯]at e;have A:tq [ώ [U 0]] a=J (U 1) a:=TN _;have C:Ki (U 1) (U 1) a=J (Ϗ į) a:=by simp
 have u:IE [O 0,U 0,L] a=J Ϛ b:=by
  unfold IE Ue;dsimp only;simp[(AA H),(HU H),(mj V "take" 2 Mv),tk,B,F]
 unfold Zt Ue;dsimp only;generalize c.map (λD=>Ϗ š)=Z at *;simp[z,d.i1,(n5 o hj H),(Xi H "keeping_hands" 2 kG),A,C,l,e,(Xi H "hand_over" 3 IE),u,-Bo]
omit o hj in
theorem pH{T}{b}(H:HA m T fz b){l}{g}(V:KL 9 l g b){Y}{t}{R}{c a}(e:Qv [O 9,Y] b=J (ϐ [Ϗ t,ώ R]) c)(f:∀ d,Ci [(16,No)] 3 "send" d (O 0) c=(d c).bind (Vg 3 No$ O 0))(s:No [O 0,U 0,ώ R] c=J Ϛ a):Ct [O 0,U 0,Y] b=J (Ϗ t) a:=by
 unfold Ct Ue;simp[(Xi H "keeper" 2 np),(HJ H V.h0),(mj V "wish" 2 Qv),e,f,s]
end
def Sub(T ϊ:List TK)(n:Nat):Prop:=(∀ k∈T,k∈ϊ)/\ϊ.length<=T.length+n
def Sub.trans{T ϊ V}{n k}(h:Sub T ϊ n)(a:Sub ϊ V k):Sub T V$ n+k:=⟨λt b=>a.1 t$ h.1 t b,by have:=h.2;have:=a.2;lia⟩
@[simp] theorem Ŀ:(("offer" : Str) == "ask")=į:=by decide
@[simp] theorem ytc:(("offer" : Str) == "word")=į:=by decide
@[simp] theorem D9:(("accept" : Str) == "ask")=į:=by decide
@[simp] theorem O0:(("accept" : Str) == "word")=į:=by decide
@[simp] theorem L7:(("struck" : Str) == "ask")=į:=by decide
@[simp] theorem S7:(("struck" : Str) == "word")=į:=by decide
theorem wM{Y}{k}{xs}(d:∀ a,Fb Y (U 0) a=J (ϒ k) a)(e:(k == ("ask" : Str))=į)(f:(k == ("word" : Str))=į)(g:∀ a,JA Y (W1 2) ŋ a=J (ϐ xs) a)(b:zf xs=š) a:Tf [Y] a=J (ώ xs) a:=by
 have c:∀ a,ig a _=J _ a:=λa=>FY (zjk _) b;unfold Tf qc;simp[d,e,f,g,c,b]
section
variable(j:Nat)(m s:Sn)(n q:Int)
def HX:Lt j (Ik j q s) [[ϒ "agree",U j,U q,s.D]]:=⟨zU _ _ _,wM (uW _ _ _) Ŀ ytc (λb=>by unfold Ik;rw[BG];rfl) (by simp[Jq]),λy a=>by
 obtain rfl:=Qb.mp a;exact AN ..,by simp⟩
def pV:Lt j (Xp j q n) [[ϒ "strike",U j,U q,U n]]:=⟨DS _ _ _,wM (ES _ _ _) L7 S7 (λb=>by unfold Xp;rw[BG];rfl) ⋯,λy a=>by
 obtain rfl:=Qb.mp a;exact yW ..,by simp⟩
def eS:Lt j (Np j m s) [[ϒ "agree",U j,U 1,s.D],[ϒ "strike",U j,U 1,U m.n]]:=⟨BR _ _ _,wM (bU _ _ _) D9 O0 (λb=>by unfold Np;rw[BG];rfl) (by simp[Jq]),λy a=>by
 rcases La.mp a with rfl|a
 ·exact AN ..
 ·obtain rfl:=Qb.mp a;exact yW ..,by simp⟩
end
def Fx.SF{m}{T}{fz}{σ}(h:Fx 9 (XX m T fz) σ) ϊ:Fx 9 (XX m ϊ fz)$ σ.set 8$ .Ie ϊ:=λr o e=>by
 by_cases c:r=8
 ·rw[c]at e ⊢;exact⟨by lia,by rw[Ga (aa.mp (h 8 _ rfl).2).1];exact e⟩
 ·have:=h r o (by unfold XX at e ⊢;simpa [c]using e);exact⟨this.1,Yd (λd=>c d.symm) this.2⟩
def KL.dF{l}{o}{σ}(h:KL 9 l o σ){r}(s:r<9){p}(e:σ[r]?=W1 p)(k:∀ c g,p≠ ϓ c g){q}{f}(m:Fx 9 f$ σ.set r q):KL 9 { l with xx:=f } o$ σ.set r q:=⟨Yd ⋯ h.h0,Yd ⋯ h.h1,Yd ⋯ h.h2,Yd ⋯ h.h3,Yd ⋯ h.h4,Yd ⋯ h.h6,m,λj b=>⟨Yd (λd=>by
 have i:=(h.a j b).1;unfold Di at i;rw[<-show r=l.n j from d,e]at i;exact k _ _$ Cb i) (h.a j b).1,(h.a j b).2⟩⟩
structure St(m:Pm)(i:Nat->Nat)(T:List TK)(l:Lk)(B:Bs)(σ:Da):Prop where
 k:Kw m i l σ
 b:bj 1 m.P B σ
 x:l.xx=XX m T į
section
variable{m:Pm}{i:Nat->Nat}{T:List TK}{l:Lk}{B:Bs}{σ:Da}(S:St m i T l B σ)
include S
theorem St.H:HA m T į σ:=by
 have h:=S.k.k.x;rw[S.x]at h;exact h.ha
theorem St.SF ϊ:St m i ϊ { l with xx:=XX m ϊ į } B$ σ.set 8$ .Ie ϊ:=by
 have h:=S.k.k.x;rw[S.x]at h;exact⟨⟨S.k.k.dF ⋯ S.H.h8 (λf f e=>by cases e)$ h.SF ϊ,⟨S.k.w.c,λj d=>(S.k.w.e j d).set ((S.k.w.e j d).ne$ ϔ$ by lia) _,S.k.w.K⟩,S.k.e,S.k.a,S.k.n,rfl⟩,S.b.set (ϕ$ by lia) _,rfl⟩
variable(mo:m.Ok)
include mo
theorem dZ{j}(g:j<2)(n:T.length<=700){R}(f:R=[]\/∃ Y b,R=[Y]/\Lt j Y b):∃ c e a,No [O 0,U 0,ώ R] σ=J Ϛ a/\St m i c { l with xx:=e } B a/\Sub T c 2:=by
 rcases f with rfl|⟨Y,b,rfl,d⟩
 ·exact⟨T,l.xx,σ,QJ,S,λk h=>h,by lia⟩
 ·exact⟨Bu b T,_,_,K4 mo g S.H d ⋯,S.SF _,λk h=>LR h,by have:=uY b T;have:=d.l;lia⟩
theorem NM{j}(i:j<2)(u:T.length<=700){L}{o}(z:Td [L] σ=J (Ϗ š) σ)(s:Lt j L o)(v:∀ y∈o,∃ x r,y=ϒ x::U j::U j::r/\(x == ("word" : Str))=į){R}{h n}{g}{d}(tk:Mv [O 9,L] σ=J (ώ R) ((σ++[h]).set 11 n))(k:Kw m g d$ (σ++[h]).set 11 n)(w:d.xx=l.xx)(t:R=[]\/∃ Y A,R=[Y]/\Lt j Y A):∃ c f a,Zt [O 0,L] σ=J Ϛ a/\St m g c { d with xx:=f } B a/\Sub T c 2:=by
 have p:St m g T d B _:=⟨k,(S.b.app [h]).set (ϕ$ by lia) _,w.trans S.x⟩
 obtain⟨c,f,a,e,q,sb⟩:=dZ p mo i u t;exact⟨c,f,a,w8 mo i S.H S.k.k z s v tk e$ Xi S.H "send" 3 No,q,sb⟩
theorem U9(r:i 0=0):li [O 0,U 0,U 0,U (m.t 0).a,U (m.t 0).y] σ=J (m.z 0).D σ:=by
 have b:0<2:=by lia
 have B:=HJ S.H S.k.k.h0;have mk:=Xi S.H "keeper" 2 np;have c:eo [O 9,U 0] σ=J (O$ l.n 0) σ:=qS S.k.k b;have C:=mj S.k.k "account" 2 eo;have q:Di σ (l.n 0)$ Fd 0 1 (m.x 0) Ϛ []:=by have:=(S.k.k.a 0 b).1;rw[S.k.a 0 b,r]at this;exact this
 have E:Vb [10,11,12,13] "mine" (O$ l.n 0) σ=J (m.x 0).D σ:=SA q$ fx (m:=m) b 0;have A:∀ σ,Fb (m.x 0).D (U 1) σ=J (ϐ [U (m.P 0).u,U (m.P 0).v]) σ:=s1$ m.x 0;have s:∀ σ,Fb (m.x 0).D (U 0) σ=J (U 0) σ:=s0$ m.x 0;have F:Br [ϐ [U (m.P 0).u,U (m.P 0).v]] σ=J (O σ.length) (σ++[ϑ [U (m.P 0).u,U (m.P 0).v]]):=nr rfl;have g:∀ (xs:gV) (k:Nat) (d:D),xs[k]?=W1 d->Fb (O σ.length) (U k) (σ++[ϑ xs])=J d (σ++[ϑ xs]):=λxs k d e=>ZO ⋯ e;have h:Fb (O σ.length) (U 0) (σ++[ϑ [U (m.P 0).u,U (m.P 0).v]])=J (U (m.P 0).u) _:=g _ 0 _ rfl;have st:∀ ρ,eB ρ (U$ (m.P 0).u - (m.t 0).a) (O σ.length) (U 0) (σ++[ϑ [U (m.P 0).u,U (m.P 0).v]])=J (ϙ ρ) (σ++[ϑ [U$ (m.P 0).u - (m.t 0).a,U (m.P 0).v]]):=λρ=>by
  have:=lT (ρ:=ρ) (d:=U$ (m.P 0).u - (m.t 0).a) (n:=σ.length) (i:=0) (σ:=σ++[ϑ [U (m.P 0).u,U (m.P 0).v]]) (xs:=[U (m.P 0).u,U (m.P 0).v]) ⋯ ⋯;rw[QA]at this;exact this
 have j:Fb (O σ.length) (U 0) (σ++[ϑ [U$ (m.P 0).u - (m.t 0).a,U (m.P 0).v]])=J (U$ (m.P 0).u - (m.t 0).a) _:=g _ 0 _ rfl;have o:Fb (O σ.length) (U 1) (σ++[ϑ [U$ (m.P 0).u - (m.t 0).a,U (m.P 0).v]])=J (U (m.P 0).v) _:=g _ 1 _ rfl;have f:ϐ [U 1,ϐ [U$ (m.P 0).u - (m.t 0).a,U (m.P 0).v],ϐ [ϐ [U 0,U (m.t 0).a,U 0,U (m.t 0).y]]]=(m.z 0).D:=by
  obtain⟨_,p,w,_⟩:=mo.t 0 b;show _=ϐ [U 1,ϐ [U$ (m.P 0).u - (m.t 0).a,U (m.P 0).v],ϐ [ϐ [U (m.t 0).p,U (m.t 0).a,U (m.t 0).w,U (m.t 0).y]]];rw[p,w]
 have fz:ig σ (J (m.z 0).D$ σ++[ϑ [U$ (m.P 0).u - (m.t 0).a,U (m.P 0).v]])=J (m.z 0).D σ:=iJ$ Jq _;unfold li qZ XT mV wX RW qc;dsimp only;generalize (m.x 0).D=X,(m.z 0).D=Z,σ++[ϑ [U (m.P 0).u,U (m.P 0).v]]=G,σ++[ϑ [U$ (m.P 0).u - (m.t 0).a,U (m.P 0).v]]=I at *;simp[B,mk,c,C,E,A,s,F,h,st,j,o,f,fz]
end
section
variable{m:Pm}(mo:m.Ok){i:Nat->Nat}{T:List TK}{l:Lk}{B:Bs}{σ:Da}(S:St m i T l B σ)
include S
theorem mC{j:Nat}(b:j<2):np [O 0,U 0] σ=J (O 9) σ/\(∀ a,Ci [(16,np)] 2 "keeper" a (O 0) σ=(a σ).bind (Vg 2 np$ O 0))/\eo [O 9,U j] σ=J (O$ l.n j) σ/\(∀ a,Ci [(15,eo)] 2 "account" a (O 9) σ=(a σ).bind (Vg 2 eo$ O 9))/\(∀ a,Ci [(16,Zt)] 2 "band" a (O 0) σ=(a σ).bind (Vg 2 Zt$ O 0)):=
 ⟨HJ S.H S.k.k.h0,Xi S.H "keeper" 2 np,qS S.k.k b,mj S.k.k "account" 2 eo,Xi S.H "band" 2 Zt⟩
theorem LH{j}(b:j<2){s}(e:i j=s):Di σ (l.n j) (m.c j s)/\(m.c j s).Ok:=by
 have:=(S.k.k.a j b).1;rw[S.k.a j b,e]at this;exact⟨this,fx b s⟩
include mo
theorem É(u:i 0=0)(g:i 1=0)(hT:T.length<=100):∃ K Y P N j,Gc [O 0,U (m.t 0).a,U (m.t 0).y] σ=J (Ϗ š) j/\St m (Qa (Qa i 0 1) 0 2) K { l with n:=Y,a:=P,xx:=N } B j/\Sub T K 4:=by
 have td:=U9 S mo u;have d:0<2:=by lia
 have w:∀ k,Wm m l.y (Qa i 0 k)=Co m:=λk=>LG mo l.y k (Dl _ _ _) (by rw[Cn _ _ ⋯];exact g);obtain⟨o1,o2,t1,W⟩:=Y2 S.k mo u (by rw[w,LG mo l.y 0 u g];lia);obtain⟨T1,X1,b,Q,o,h⟩:=NM S mo d ⋯ (LM ⋯ σ (ϔ rfl) (qw mo d).st) (HX 0 (m.z 0) 0) (λy s=>by
  obtain rfl:=Qb.mp s;exact⟨_,_,rfl,by decide⟩) t1 W rfl (ϕ ⟨_,_,rfl,eS 0 (m.x 0)$ m.z 0⟩)
 have V:=h.2;obtain⟨o3,o4,t2,X⟩:=C6 o.k mo (Dl _ _ _) (by
  show Wm m l.y (Qa (Qa i 0 1) 0 2) ≥ Wm m l.y (Qa i 0 1);rw[w,LG mo l.y 2 (Dl _ _ _) (by rw[Cn _ _ ⋯,Cn _ _ ⋯];exact g)];lia)
 obtain⟨M,ϋ,c,R,p,ό⟩:=NM o mo d ⋯ (eM ⋯ b (ϔ rfl)$ by lia) (pV 0 0 0) (λy s=>by
  obtain rfl:=Qb.mp s;exact⟨_,_,rfl,by decide⟩) t2 X rfl (ϔ rfl)
 refine⟨M,_,_,ϋ,c,?_,p,h.trans ό⟩;obtain⟨_,_,_,_,F⟩:=mC S d;obtain⟨v,H,e,C,G⟩:=mC o d;obtain⟨A,I,f,E,_⟩:=mC p d;have g:=LH o d$ Dl _ _ _;have L:=LH p d$ Dl _ _ _;have q:=SA g.1 g.2;have r:=RF L.1 L.2;have q:Vb [10,11,12,13] "mine" _ b=J (m.z 0).D b:=q;have r:Vb [10,11,12,13] "may" _ c=J (ώ [(m.z 0).D]) c:=r;have ne:Ki (m.z 0).D (m.z 0).D b=J (Ϗ į) b:=nw$ UF 5 _;have ϊ:Zi (ώ [(m.z 0).D]) (ώ [(m.z 0).D]) c=J (Ϗ š) c:=BH (by show List.all [_] (pl 7)=š;simp[UF 4$ m.z 0]);have x1:ϐ [ϒ "offer",U 0,ϐ [ϒ "agree",U 0,U 0,(m.z 0).D]]=Ik 0 0 (m.z 0):=rfl;have x2:ϐ [ϒ "struck",U 0,ϐ [ϒ "strike",U 0,U 0,U 0]]=Xp 0 0 0:=rfl;have e:eo [O 9,U 0] b=_:=e;have f:eo [O 9,U 0] c=_:=f;unfold Gc yT JT bS EX US jZ;generalize (m.z 0).D=Z,Ik 0 0 (m.z 0)=OL,Xp 0 0 0=SL at *;simp[td,F,x1,Q,v,H,e,C,q,ne,G,x2,R,A,I,f,E,r,ϊ]
theorem à(v:i 0=2)(o:i 1=1)(d:Due m l.y)(R:T.length<=200):∃ t N E A e,Nd [O 0] σ=J (Ϗ š) e/\St m (Qa i 1 2) t { l with n:=N,a:=E,xx:=A } B e/\Sub T t 2:=by
 have c:1<2:=by lia
 obtain⟨ϊ,V,ϋ,ό⟩:=W6 S.k mo o (by rw[x8 mo l.y (by rw[Cn _ _ ⋯];exact v) (Dl _ _ _) d,(kM mo l.y v o).1 d];lia);obtain⟨w,C,f,F,g,s⟩:=NM S mo c ⋯ (LK ⋯ σ (m:=m.x 1) (qw mo c).st$ by simp[Pm.x]) (eS 1 (m.x 1)$ m.z 1) (λy j=>by
  rcases La.mp j with rfl|j
  ·exact⟨_,_,rfl,by decide⟩
  ·obtain rfl:=Qb.mp j;exact⟨_,_,rfl,by decide⟩) ϋ ό rfl (ϕ ⟨_,_,rfl,pV 1 0 0⟩)
 refine⟨w,_,_,C,f,?_,g,s⟩;obtain⟨K,mk,h,L,M⟩:=mC S c;obtain⟨p,r,b,q,_⟩:=mC g c;have u:=LH S c o;have H:Vb [10,11,12,13] "may" _ σ=J (ώ [(m.x 1).D,(m.z 1).D]) σ:=RF u.1 u.2;have I:∀ σ,Fb (ώ [(m.x 1).D,(m.z 1).D]) (U 1) σ=J (m.z 1).D σ:=λσ=>by simp
 have G:∀ x σ,Rp [x] σ=J (ϒ "calm") σ:=λx σ=>by unfold Rp Vd;simp
 have P:ϐ [ϒ "accept",U 1,ϐ [ϒ "agree",U 1,U 1,(m.z 1).D],ϐ [ϒ "strike",U 1,U 1,U 0]]=Np 1 (m.x 1) (m.z 1):=rfl;have h:eo [O 9,U 1] σ=_:=h;have b:eo [O 9,U 1] f=_:=b;unfold Nd FU DU vX tQ;generalize (m.x 1).D=X,(m.z 1).D=Z,Np 1 (m.x 1) (m.z 1)=Q at *;simp[K,mk,h,L,M,H,I,P,F,p,r,b,q,(cO (l:=[(11,Rp),(12,Vy),_]) (fn:=Rp) (m:="word") (LH g c$ Dl _ _ _).1 rfl rfl 1),G]
end
inductive Cq where
 |hd
 |bl (y:Int)
 |tk
 |ml (y:Int)
def Cq.cl(a:Ac)(x:Sn):Cq->Cl
 | .hd=>.held
 | .bl y=>.laid 0 x y
 | .tk=>.taken 1
 | .ml y=>.laid 1 a.m y
def Cr(a:Ac):Option Int->Cl
 |none=>.held
 |some y=>.laid 0 a.m y
def sL:Option Int->List (Int × Int)
 |none=>[]
 |some y=>[(0,y)]
def kl(b:Bool):dd:=if b then [0]else []
structure Rq where
 (y L:Int)
 K:Bool
 c:Cq
 (d s t:Option Int)
 F:Bool
def pk{d:Type}(a b c:d):Nat->d
 |0=>a
 |1=>b
 |_=>c
theorem VH{d}(a b c x:d):Qa (pk a b c) 0 x=pk x b c:=by
 funext k;match k with
 |0=>rfl
 |1=>rfl
 |k+2=>rfl
theorem pN{d}(a b c x:d):Qa (pk a b c) 1 x=pk a x c:=by
 funext k;match k with
 |0=>rfl
 |1=>rfl
 |k+2=>rfl
def Rq.B(m:Pm)(i:Nat->Nat)(R:Rq):Bs:=⟨R.y,pk (R.c.cl (m.c 0$ i 0)$ m.x 0) (Cr (m.c 1$ i 1) R.d) .held,pk (sL R.s) (sL R.t) []⟩
def Cq.sk:Cq->Cq
 | .bl _=>.tk
 |c=>c
def Cq.nu:Cq->Bool
 | .hd=>š
 | .ml _=>š
 |_=>į
def Cq.ly(y:Int):Cq->Cq
 | .hd=>.ml y
 |c=>c
noncomputable def Rq.k(R:Rq):Bool:=R.K || (R.s.isSome || R.t.isSome)
def Rq.sh(m:Pm)(R:Rq):Bool:=R.c.sk.nu && (R.k && (!R.s.isSome && (decide (R.y<(m.t 0).y) && decide ((m.t 0).y<=R.y+m.e))))
def Rq.look(m:Pm)(R:Rq):Rq:=⟨R.y,R.y,R.k,if R.F then R.c.sk.ly R.y else R.c.sk,if R.F && !R.d.isSome then W1 R.y else R.d,if R.sh m then W1 R.y else R.s,R.t,R.F⟩
def Rq.st(R:Rq)(i:Nat->Nat):Prop:=i 0=2/\(i 1=0\/i 1=2)\/i 0=0/\i 1=0/\R.k=į/\R.c=.hd
def Rq.st.i{R:Rq}{i}(h:R.st i):∀ j,j<2->i j=0\/i j=2:=λj c=>by
 rcases h with⟨a,b⟩|⟨a,b,_⟩<;>rcases gm c with rfl|rfl<;>lia
def j0:ww [0]=[0]:=jt.mp$ ez [0]
def ċ(R:Rq):(rq$ nh (nh []$ sL R.s)$ sL R.t).foldl Dn (kl R.K)=kl R.k:=by
 have a:∀ d,rq [(0,d)]=[0]:=λd=>j0;have b:∀ d:Int,nh [] [(0,d)]=[(0,d)]:=λd=>rfl;have c:∀ d e:Int,nh [(0,d)] [(0,e)]=[(0,e)]:=λd e=>by unfold nh zp;simp
 have f:∀ l,nh l []=l:=λl=>rfl;have g:rq []=[]:=(ez []).eq_nil;unfold Rq.k;cases R.s<;>cases R.t<;>cases R.K<;>simp[sL,kl,a,b,c,f,g,Dn]
def Lf(i:Nat->Nat)(j:Nat):dd:=if i j=2 then [0]else []
def NF{m:Pm}(e:m.Ok){j}(d:j<2){s}(f:s=0\/s=2):(m.c j s).m.Ok ((m.P j).u+(m.P j).v)/\((m.c j s).m.D=Gj 0 (m.P j).u (m.P j).v []\/(m.c j s).G=kh j (1 - (m.c j s).q) (m.c j s).m.D)/\(m.c j s).L=(if s=2 then [0]else []:dd).map U/\(m.c j s).y=[(m.c j s).m]/\(m.c j s).m.ts=if s=2 then [m.t j]else []:=by
 have a:=yA e d;have b:=qw e d;rcases gm d with rfl|rfl<;>rcases f with rfl|rfl
 ·exact⟨a,ϔ rfl,rfl,rfl,rfl⟩
 ·exact⟨b,ϕ rfl,rfl,rfl,rfl⟩
 ·exact⟨a,ϔ rfl,rfl,rfl,rfl⟩
 ·exact⟨b,ϕ rfl,rfl,rfl,rfl⟩
def Rq.set(R:Rq)(c:Cq)(d s:Option Int):Rq:={ R with c:=c,d:=d,s:=s }
section
variable{m:Pm}(mo:m.Ok){i:Nat->Nat}{R:Rq}(hi:R.st i){l:Lk}(ha:∀ j,j<2->l.a j=m.c j (i j))(hy:l.y=R.y)(he:l.e=m.e)
include mo hi ha
theorem QV(e:∀ y,R.c=.bl y->R.y<y+(m.P 0).w):kg l m.P (Lf i) (R.B m i)=(R.set R.c.sk R.d R.s).B m i:=by
 have f:=ha 1 ⋯;have n:(l.a 0).q=1:=by rw[(ha 0$ by lia),(al ⋯ _).2.1];rfl
 have o:(l.a 1).q=0:=by rw[f,(al ⋯ _).2.1];rfl
 have j:Rr l m.P (Lf i) (R.B m i) 0=(R.set R.c.sk R.d R.s).B m i:=by
  unfold Rr oC zr;rw[n];obtain⟨y,L,K,c,d,s,t,F⟩:=R;cases c with
  |bl b=>
   have k:i 0=2:=by
    rcases hi with h|h
    ·exact h.1
    all_goals simp_all
   have e:y<b+(m.P 0).w:=e b rfl;have g:(Cl.gu 1 (Lf i 0) (Cl.laid 0 (m.x 0) b) && decide (y<b+(m.P 0).w))=š:=by
    unfold Lf;rw[k,ib e];rfl
   refine(ja g).trans ?_;unfold Rq.B Rq.set;dsimp only;rw[VH];rfl
  |hd=>rw[ra (by simp[Rq.B,pk,Cq.cl,Cl.gu])];rfl
  |tk=>rw[ra (by simp[Rq.B,pk,Cq.cl,Cl.gu])];rfl
  |ml b=>rw[ra (by simp[Rq.B,pk,Cq.cl,Cl.gu])];rfl
 unfold kg;rw[j];unfold Rr oC zr;rw[o,ra];show ¬ ((Cr _ R.d).gu 0 _ && _)=š;cases R.d<;>simp[Cr,Cl.gu]
include hy he
theorem Ñ(o:l.K=kl R.k):um l ((R.set R.c.sk R.d R.s).B m i)=(R.set R.c.sk R.d$ if R.sh m then W1 R.y else R.s).B m i:=by
 have n:=ha 1 ⋯;obtain⟨_,_,_,D,v⟩:=NF mo (j:=0) ⋯ (hi.i 0$ by lia);obtain⟨_,_,_,E,w⟩:=NF mo (j:=1) ⋯ (hi.i 1$ by lia);have b:=(mo.t 0$ by lia).2.2.1;have r:(m.c 0$ i 0).q=1:=by rw[(al ⋯ _).2.1];rfl
 have u:(m.c 1$ i 1).q=0:=by rw[(al ⋯ _).2.1];rfl
 have g:∀ d,(Cr (m.c 1$ i 1) d).tt (m.c 1$ i 1)=[]:=λd=>by
  unfold Cl.tt;have:(Cr (m.c 1$ i 1) d).st (m.c 1$ i 1)=[(m.c 1$ i 1).m]:=by cases d<;>simp[Cr,Cl.st,E]
  rw[this,de,w,u];split<;>simp[((mo.t 1$ by lia).2.1)]
 have f:(R.c.sk.cl (m.c 0$ i 0)$ m.x 0).tt (m.c 0$ i 0)=if R.c.sk.nu/\i 0=2 then [m.t 0]else []:=by
  have a:((m.c 0$ i 0).m.ts.filter λt=>decide$ t.p≠1)=if i 0=2 then [m.t 0]else []:=by
   rw[v];split<;>simp[((mo.t 0$ by lia).2.1)]
  unfold Cl.tt;rw[r];cases R.c with
  |hd=>
   show ((m.c 0$ i 0).y.flatMap λs=>s.ts.filter λt=>decide$ t.p≠1)=_;rw[D,de,a];simp[Cq.sk,Cq.nu]
  |ml y=>
   show ([(m.c 0$ i 0).m].flatMap λs=>s.ts.filter λt=>decide$ t.p≠1)=_;rw[de,a];simp[Cq.sk,Cq.nu]
  |bl y=>simp[Cq.sk,Cq.cl,Cl.st,Cq.nu]
  |tk=>simp[Cq.sk,Cq.cl,Cl.st,Cq.nu]
 have s1:(xl l ((R.set R.c.sk R.d R.s).B m i) 1).2=sL R.t:=by
  unfold xl;rw[n,show ((R.set R.c.sk R.d R.s).B m i).C 1=Cr (m.c 1$ i 1) R.d from rfl,g];rfl
 have s0:(xl l ((R.set R.c.sk R.d R.s).B m i) 0).2=sL (if R.sh m then W1 R.y else R.s):=by
  unfold xl;rw[(ha 0$ by lia),show ((R.set R.c.sk R.d R.s).B m i).C 0=R.c.sk.cl (m.c 0$ i 0) (m.x 0)from rfl,f];have A:Kt l (sL R.s) (m.t 0)=(R.k && (!R.s.isSome && (decide (R.y<(m.t 0).y) && decide ((m.t 0).y<=R.y+m.e)))):=by
   unfold Kt;rw[o,hy,he,b];congr 1
   ·unfold kl;cases R.k<;>simp
   ·cases R.s<;>simp[sL,vl]
  show (Kj l 0 _$ sL R.s).2=_;by_cases c:R.c.sk.nu/\i 0=2
  ·rw[ja c];unfold Kj Rq.sh;rw[A,c.1,b,hy,Bool.true_and];cases e:(R.k && (!R.s.isSome && (decide (R.y<(m.t 0).y) && decide ((m.t 0).y<=R.y+m.e))))with
   |false=>rfl
   |true=>
    have:R.s=ŋ:=by
     cases h:R.s with
     |none=>rfl
     |some d=>rw[h]at e;simp at e
    rw[this];rfl
  ·rw[ra c];have:R.sh m=į:=by
    unfold Rq.sh;rcases hi with h|h
    ·have:R.c.sk.nu=į:=by rw[<-qe];exact λz=>c ⟨z,h.1⟩
     rw[this];rfl
    ·rw[h.2.2.1];simp
   rw[this];rfl
 unfold um;rw[s0,s1];unfold Rq.B Rq.set;dsimp only;rw[VH,pN]
omit hi hy he mo in
theorem ĝ(b:l.F=if R.F then [(.inl 0,Ϗ š),(.inl 1,Ϗ š)]else []) s:SJ l ((R.set R.c.sk R.d s).B m i)=(R.set (if R.F then R.c.sk.ly R.y else R.c.sk) (if R.F && !R.d.isSome then W1 R.y else R.d) s).B m i:=by
 have g:(m.c 0$ i 0).q=1:=by rw[(al ⋯ _).2.1];rfl
 have h:(m.c 1$ i 1).q=0:=by rw[(al ⋯ _).2.1];rfl
 have f:∀ j,j<2->Mf l j=R.F:=λj e=>by
  unfold Mf;rw[b];rcases gm e with rfl|rfl<;>cases R.F<;>rfl
 have a:gw l ((R.set R.c.sk R.d s).B m i) 0=(R.set (if R.F then R.c.sk.ly R.y else R.c.sk) R.d s).B m i:=by
  unfold gw yp;rw[f 0 ⋯,(ha 0$ by lia),g];obtain⟨y,L,K,c,d,k,t,F⟩:=R;cases F
  ·rfl
  ·unfold Rq.B Rq.set;dsimp only;rw[VH];cases c<;>rfl
 unfold SJ;rw[a];unfold gw yp;rw[f 1 ⋯,(ha 1$ by lia),h];obtain⟨y,L,K,c,d,k,t,F⟩:=R;cases F
 ·rfl
 ·unfold Rq.B Rq.set;rw[pN];cases d<;>rfl
end
structure Dr(m:Pm)(i:Nat->Nat)(T:List TK)(fz:Bool)(R:Rq)(l:Lk)(σ:Da):Prop where
 k:KL 9 l (ύ l.A) σ
 b:bj 1 m.P (R.B m i) σ
 x:l.xx=XX m T fz
 e:l.e=m.e
 a:∀ j,j<2->l.a j=m.c j (i j)
 n:∀ j,j<2->15<l.n j
 y:l.y=R.L
 K:l.K=kl R.K
 F:l.F=if R.F then [(.inl 0,Ϗ š),(.inl 1,Ϗ š)]else []
def NQ s:(sL s).length<=1:=by cases s<;>simp[sL]
def yy1{m}(h:m.Ok){i}{R:Rq}(o:R.st i){l}(n:∀ j,j<2->l.a j=m.c j (i j)){j}(f:j<2):Tk l ((R.set R.c.sk R.d R.s).B m i) j:=by
 obtain⟨_,_,_,k,q⟩:=NF h f (o.i j f);have g:=n j f;have r:∀ s∈[(m.c j$ i j).m],s.ts.length<=6/\∀ t∈s.ts,0<=t.w/\t.w<=59:=λs p=>by
  obtain rfl:=Qb.mp p;rw[q];split<;>simp[((h.t j f).2.2.1)]
 have ml:(m.c j$ i j).m.ts.length<=6:=(r _$ by simp).1;have b:(((R.set R.c.sk R.d R.s).B m i).C j).Ok/\((((R.set R.c.sk R.d R.s).B m i).C j).st (m.c j$ i j)=[(m.c j$ i j).m]\/∃ s:Sn,(((R.set R.c.sk R.d R.s).B m i).C j).st (m.c j$ i j)=[s]/\s.ts=[]):=by
  rcases gm f with rfl|rfl
  ·show (R.c.sk.cl _ _).Ok/\((R.c.sk.cl _ _).st _=_\/_);cases R.c with
   |hd=>exact⟨trivial,ϔ k⟩
   |ml y=>exact⟨trivial,ϔ rfl⟩
   |bl y=>exact⟨ϕ rfl,ϕ ⟨_,rfl,rfl⟩⟩
   |tk=>exact⟨ϕ rfl,ϕ ⟨_,rfl,rfl⟩⟩
  ·show (Cr _ R.d).Ok/\((Cr _ R.d).st _=_\/_);cases R.d with
   |none=>exact⟨trivial,ϔ k⟩
   |some y=>exact⟨trivial,ϔ rfl⟩
 refine⟨by rw[g];exact ml,b.1,?_,?_⟩<;>rw[g]
 ·rcases b.2 with e|⟨s,e,_⟩<;>rw[e]<;>simp
 ·rcases b.2 with e|⟨s,e,u⟩<;>rw[e];all_goals grind
section
variable{m:Pm}(mo:m.Ok){i:Nat->Nat}{T:List TK}{fz:Bool}{R:Rq}(hi:R.st i){l:Lk}{σ:Da}(h:Dr m i T fz R l σ)
include h
theorem Dr.H:HA m T fz σ:=by
 have x:=h.k.x;rw[h.x]at x;exact x.ha
include mo hi
theorem wY(A:∀ y,R.c=.bl y->R.y<y+(m.P 0).w):∃ d N z o,rz [O 9,O 1] σ=J d o/\Dr m i T fz (R.look m) z o/\(∀ j,j<2->z.C j=(((R.look m).B m i).C j).tl)/\15<N/\∀ j,j<2->z.E j=O (N+j)/\o[N+j]?=W1 (ύ$ Ud$ ((R.look m).B m i).S j):=by
 have G:∀ j,j<2->9+6<l.n j/\l.n j<σ.length:=λj f=>⟨h.n j f,(aa.mp (h.k.a j f).1).1⟩
 have cm:=λj f=>NF mo (j:=j) f$ hi.i j f;have H:(m.c 0$ i 0).q=1:=by rw[(al ⋯ _).2.1];rfl
 have I:(m.c 1$ i 1).q=0:=by rw[(al ⋯ _).2.1];rfl
 obtain⟨N,ό,n,o,e,kd⟩:=zvi h.k h.b rfl G (L:=Lf i) (λj f=>by rw[h.a j f];exact(cm j f).2.2.1) (λj f=>by rw[h.a j f];exact(al f _).1) (λj f s x y g p=>by
  rw[h.a j f]at p ⊢;rcases gm f with rfl|rfl
  ·have g:R.c.cl (m.c 0$ i 0) (m.x 0)=.laid s x y:=g;rw[H]at p ⊢;cases r:R.c<;>rw[r]at g<;>simp[Cq.cl]at g
   ·obtain⟨rfl,rfl,_⟩:=g;exact⟨by lia,yA mo ⋯⟩
   ·exact absurd g.1.symm p
  ·have g:Cr (m.c 1$ i 1) R.d=.laid s x y:=g;rw[I]at p;cases r:R.d<;>rw[r]at g<;>simp[Cr]at g;exact absurd g.1.symm p) (λj f=>by
  have M:=NQ R.s;have ϋ:=NQ R.t;rcases gm f with rfl|rfl
  ·show (sL R.s).length<=_;lia
  ·show (sL R.t).length<=_;lia) (by rw[h.K];unfold kl;split<;>simp) (λN j f=>by
  rw[QV mo hi (l:=tj l (R.B m i) N) h.a A];exact yy1 mo hi (l:=tj l (R.B m i) N) h.a f) (λj f=>by
  rw[h.a j f];have Q:=mo.u j f;have ϊ:=mo.v j f;exact⟨⟨by lia,by lia⟩,(cm j f).1,(cm j f).2.1⟩)
 have D:(tj l (R.B m i) N).K=kl R.k:=by
  show (rq$ nh (nh []$ sL R.s)$ sL R.t).foldl Dn l.K=_;rw[h.K];exact ċ R
 rw[QV mo hi (l:=tj l (R.B m i) N) h.a A,Ñ mo hi (l:=tj l (R.B m i) N) h.a rfl h.e D,ĝ (l:=tj l (R.B m i) N) h.a h.F]at kd;refine⟨_,N,_,o,e,⟨kd.kb.k,kd.kb.v,h.x,h.e,h.a,h.n,rfl,D,h.F⟩,kd.s,kd.kb.cn,λj f=>⟨kd.kb.e j f,kd.kb.s j f⟩⟩
end
def Dr.st{m}{i}{T}{R}{l}{c}(D:Dr m i T į R l c)(w:Ws l c):St m i T l (R.B m i) c:=⟨⟨D.k,w,D.e,D.a,D.n,by rw[D.x];rfl⟩,D.b,D.x⟩
def Ot(R:Rq):Prop:=R.c=.hd/\R.d=ŋ/\R.s=ŋ/\R.t=ŋ/\R.K=į/\R.F=į
theorem Ot.k{R}(h:Ot R):R.k=į:=by
 obtain⟨_,_,a,b,c,_⟩:=h;unfold Rq.k;rw[a,b,c];rfl
def Ot.look{R}(h:Ot R) m:R.look m={ R with L:=R.y }/\Ot (R.look m):=by
 obtain⟨y,L,K,c,d,s,t,F⟩:=R;obtain⟨a,b,e,f,g,i⟩:=h;dsimp only at a b e f g i;subst a b e f g i;exact⟨rfl,rfl,rfl,rfl,rfl,rfl,rfl⟩
theorem Ot.ws{m}{i}{R}(h:Ot R){N}{l}{e}(p:l.K=kl R.K)(q:∀ j,j<2->l.C j=((R.B m i).C j).tl)(r:15<N)(b:∀ j,j<2->l.E j=O (N+j)/\e[N+j]?=W1 (ύ$ Ud$ (R.B m i).S j)):Ws l e:=by
 obtain⟨f,g,k,n,o,_⟩:=h;refine⟨λj a=>ϕ ?_,λj a=>ϕ ⟨N+j,by lia,(b j a).1,?_⟩,by rw[p,o];rfl⟩
 ·rw[q j a];rcases gm a with rfl|rfl
  ·show (R.c.cl _ _).tl=_;rw[f];rfl
  ·show (Cr _ R.d).tl=_;rw[g];rfl
 ·rw[(b j a).2];rcases gm a with rfl|rfl
  ·show W1 (ύ$ Ud$ sL R.s)=_;rw[k];rfl
  ·show W1 (ύ$ Ud$ sL R.t)=_;rw[n];rfl
def Fx.Ic{m}{T}{fz}{σ}(h:Fx 9 (XX m T fz) σ) a:Fx 9 (XX m T a)$ σ.set 6$ if a then ϣ k0 else ύ k0:=λr o e=>by
 by_cases c:r=6
 ·rw[c]at e ⊢;exact⟨by lia,by rw[Ga (aa.mp (h 6 _ rfl).2).1];exact e⟩
 ·have:=h r o (by unfold XX at e ⊢;simpa [c]using e);exact⟨this.1,Yd (λd=>c d.symm) this.2⟩
def Ws.set{l}{b}(w:Ws l b){n}(d:n<=15) o:Ws l$ b.set n o:=⟨w.c,λj a=>(w.e j a).set ((w.e j a).ne$ ϔ d) _,w.K⟩
def Ws.cg{l a}{b}(w:Ws l b)(h:a.C=l.C/\a.E=l.E/\a.K=l.K):Ws a b:=⟨by rw[h.1];exact w.c,by rw[h.2.1];exact w.e,by rw[h.2.2];exact w.K⟩
section
variable{m:Pm}{i:Nat->Nat}{T:List TK}{fz:Bool}{R:Rq}{l:Lk}{σ:Da}(h:Dr m i T fz R l σ)
include h
theorem Dr.Ic c:Dr m i T c R { l with xx:=XX m T c }$ σ.set 6$ if c then ϣ k0 else ύ k0:=by
 have x:=h.k.x;rw[h.x]at x;exact⟨h.k.dF ⋯ h.H.h6 (λd d e=>by split at e<;>cases e)$ x.Ic c,h.b.set (ϕ$ by lia) _,rfl,h.e,h.a,h.n,h.y,h.K,h.F⟩
theorem Dr.bk{r}(d:1<=r/\r<=5){o}{R'}(b:bj 1 m.P (R'.B m i)$ σ.set r o)(e:R'.L=R.L/\R'.K=R.K/\R'.F=R.F):Dr m i T fz R' l$ σ.set r o:=⟨h.k.set (ϔ$ by lia) (λj c=>by have:=h.n j c;lia) _,b,h.x,h.e,h.a,h.n,by rw[e.1];exact h.y,by rw[e.2.1];exact h.K,by rw[e.2.2];exact h.F⟩
end
def Rq.nx(m:Pm)(R:Rq):Rq:={ (if m.e<=R.y - R.L then R.look m else R)with y:=R.y+1 }
section
variable{m:Pm}(mo:m.Ok){i:Nat->Nat}{T:List TK}{R:Rq}(hi:R.st i){l:Lk}{σ:Da}(h:Dr m i T į R l σ)
include mo hi h
theorem RV(X:∀ y,R.c=.bl y->R.y<y+(m.P 0).w):∃ j a,Tt [O 0] σ=J Ϛ a/\Dr m i T į (R.nx m) j a/\(Ot R->Ws l σ->Ws j a):=by
 have g:=h.Ic š;have M:Pc (Vb [16] "keepers") (pa 0) [W1$ O 0,ŋ] σ=J (O 6) σ:=by
  have:=AA h.H;simp[this]
 have ό:σ[6]?=W1 (ύ k0):=h.H.h6;have sr:DN (Pc (Vb [16] "keepers")$ pa 0) [W1$ O 0,ŋ] σ=J (fA k0) (σ.set 6$ ϣ k0):=by
  show rc _ mJ _=_;rw[fj,M,Jc];unfold mJ;simp only[ό]
 have g:Dr m i T š R { l with xx:=XX m T š }$ σ.set 6$ ϣ k0:=g;have Mf:∀ (r:Rq) (l1:Lk) (f:Da),lI [W1 _,W1$ O 9] (σ.set 6$ ϣ k0)=J (ϙ [W1$ O 0,W1$ O 9]) f->Dr m i T š r l1 f->r.y=R.y->∃ j a,Tt [O 0] σ=J Ϛ a/\Dr m i T į { r with y:=R.y+1 } j a/\(Ws l1 f->Ws j a):=λr l1 f Q t S=>by
  have Y:Do (fA k0) (Cc 1) lI 1001 0 [W1$ O 0,ŋ] (σ.set 6$ ϣ k0)=J (ϙ [W1$ O 0,W1$ O 9]) f:=by
   rw[mq (k:=1000) (d:=O 9) rfl rfl];show (lI [W1$ O 0,W1$ O 9] _).bind _=_;rw[Q,Jc,Wj];exact Wx (k:=999) rfl
  have th:=zI (A:=k0) (A':=k0) M ό sr Y t.H.h6;have s:=t.Ic į;have s:Dr m i T į r { l1 with xx:=XX m T į }$ f.set 6$ ύ k0:=s;obtain⟨o,nb,x⟩:=y9 s.b;have x:bj 1 m.P (({ r with y:=R.y+1 }:Rq).B m i)$ (f.set 6$ ύ k0).set 1 o:=by rw[<-S];exact x
  refine⟨_,_,?_,s.bk (R':={ r with y:=R.y+1 }) ⋯ x ⟨rfl,rfl,rfl⟩,λw=>((w.set (n:=6) ⋯$ ύ k0).set (n:=1) ⋯ o).cg ⟨rfl,rfl,rfl⟩⟩;have p:=Vz s.H;have Z:=wm s.b "next_day" 1 wD;generalize f.set 6 (ύ k0)=G at *;generalize G.set 1 o=a0 at *;unfold Tt ZV Ue;simp[th,p,Z,nb,-wt]
 have u:=aL g.b;have u:Wp [O 1] _=J (U R.y) _:=u;have ϋ:=wm g.b "today" 1 Wp;have D:=dY g.k;rw[g.y]at D;have ml:=mj g.k "looked" 1 iy;have mk:=mj g.k "look" 2 rz;have p:=Vz g.H;have I:=M7 g.H;unfold Rq.nx;by_cases c:m.e<=R.y - R.L
 ·rw[ja c];obtain⟨d,N,l1,f,e,t,ϊ,W,V⟩:=wY mo hi g X;obtain⟨j,a,z,v,E⟩:=Mf (R.look m) l1 f (by
   have C:decide (R.y - R.L ≥ m.e)=š:=ib ⋯;generalize σ.set 6 (ϣ k0)=F at *;simp[p,u,ϋ,D,ml,I,C,mk,e]) t rfl
  exact⟨j,a,z,v,λq _=>E$ (q.look m).2.ws t.K ϊ W V⟩
 ·rw[ra c];obtain⟨j,a,z,v,E⟩:=Mf R _ _ (by
   have C:decide (R.y - R.L ≥ m.e)=į:=pb ⋯;generalize σ.set 6 (ϣ k0)=F at *;simp[p,u,ϋ,D,ml,I,C]) g rfl
  exact⟨j,a,z,v,λ_ w=>E$ (w.set (n:=6) ⋯$ ϣ k0).cg ⟨rfl,rfl,rfl⟩⟩
end
def eP n(z:n<=1000){f}{k}{body}(P:Nat->Ev->Da->Prop)(v:∀ i ρ σ,i<n->P i ρ σ->∃ a b,body (ρ.set k$ W1$ U i) σ=J (ϙ a) b/\P (i+1) a b\/body (ρ.set k$ W1$ U i) σ=J (.bk a) b/\P n a b){ρ}{σ}(t:f ρ σ=J (U n) σ)(s:P 0 ρ σ):∃ c g,Zl (Wr f) (Cc k) body ρ σ=J (ϙ c) g/\P n c g:=by
 have y:Wr f ρ σ=J (.seq$ qr n) σ:=by
  show rc (f ρ) qu σ=_;rw[fj,t,Jc,AJ ⋯ ⋯];rfl
 rw[pM,y,Qj,EK];have x:(qr n).length=n:=by unfold qr;simp
 have q:∀ (r:gV) (i:Nat) (ρ:Ev) (σ:Da),(qr n).drop i=r->i<=n->P i ρ σ->∃ c g,qk (Cc k) body r ρ σ=J (ϙ c) g/\P n c g:=λr=>by
  induction r with
  |nil=>
   intro i ρ σ hd u m;have:i=n:=by have:=Kr.mp hd;lia
   exact⟨ρ,σ,by simp,this ▸ m⟩
  |cons d r w=>
   intro i ρ σ hd u m;have l:(qr n)[i]?=W1 d:=by have:=eb (·[0]?) hd;simpa using this
   have j:i<n:=by have:=(aa.mp l).1;lia
   have p:d=U i:=by
    unfold qr at l;rw[Ta,List.getElem?_range j]at l;exact(Cb l).symm
   have o:(qr n).drop (i+1)=r:=by
    have:=eb List.tail hd
    rwa [List.tail_drop]at this
   rw[tz,p];obtain⟨a,b,⟨e,h⟩|⟨e,h⟩⟩:=v i ρ σ j m
   ·rw[e,Jc,Wj];exact w _ a b o ⋯ h
   ·rw[e,Jc,Ĳ];exact⟨a,b,rfl,h⟩
 exact q _ 0 ρ σ ⋯ ⋯ s
section
variable{m:Pm}{i:Nat->Nat}{T:List TK}{R:Rq}{l:Lk}{σ:Da}(h:Dr m i T į R l σ)
include h
theorem XA:Yr [O 0] σ=J (O 1) σ/\(∀ a,Ci [(16,Yr)] 1 "book" a (O 0) σ=(a σ).bind (Vg 1 Yr$ O 0))/\Wp [O 1] σ=J (U R.y) σ/\(∀ a,Ci [(9,Wp)] 1 "today" a (O 1) σ=(a σ).bind (Vg 1 Wp$ O 1))/\∀ a,Ci [(16,Tt)] 1 "next_day" a (O 0) σ=(a σ).bind (Vg 1 Tt$ O 0):=by
 refine⟨?_,Xi h.H "book" 1 Yr,aL h.b,wm h.b "today" 1 Wp,Xi h.H "next_day" 1 Tt⟩;unfold Yr Vd;simp[(Vz h.H),(Zf h.b.h0)]
def XB(T:List TK)(y:gV):Prop:=∃ k,Qp y=W1 k/\k∈T
theorem X6(g:R.t=ŋ)(f:XB T [ϒ "word",U 0]):∃ o,MB [O 0,U 1,U 0] σ=J Ϛ (σ.set 5 o)/\Dr m i T į { R with t:=W1 R.y } l (σ.set 5 o):=by
 obtain⟨k,p,q⟩:=f;have n:σ[8]?=_:=h.H.h8;have j:nD (ϐ [ϒ "word",U 0]) (O 8) σ=J (Ϗ š) σ:=by
  unfold nD
  simp_all
 have d:Ou [O 0,ϐ [ϒ "word",U 0]] σ=J (Ϗ š) σ:=by
  unfold Ou Vd;dsimp only;generalize ϐ _=L at *;simp[(PN h.H),j]
 have c:(R.B m i).S 1=[]:=by show sL R.t=_;rw[g];rfl
 obtain⟨l1,a,e,b⟩:=kY h.b (i:=1) ⋯ (w:=0) ⋯ (by rw[c];simp);rw[c]at a;have a:l1=sL (W1 R.y):=a;rw[a]at e b;have e:Ez [O 1,U 1,U 0] σ=J Ϛ _:=e;refine⟨_,?_,h.bk (r:=5) (R':={ R with t:=W1 R.y }) ⋯ (by
  have:(({ R with t:=W1 R.y }:Rq).B m i)={ R.B m i with S:=Qa (R.B m i).S 1 (sL$ W1 R.y) }:=by
   unfold Rq.B;dsimp only;rw[pN]
  rw[this];exact b) ⟨rfl,rfl,rfl⟩⟩
 unfold MB Ue;dsimp only;generalize σ.set 5 _=s at *;simp[(Xi h.H "band_can" 2 Ou),d,(wm h.b "show" 3 Ez),(Vz h.H),e]
theorem ô(n:m.Ok)(ό:R.c=.hd):∃ o,eA [O 0,U 0,U 0,(m.x 0).D] σ=J Ϛ (σ.set 2 o)/\Dr m i T į { R with c:=.bl R.y } l (σ.set 2 o):=by
 have f:0<2:=by lia
 obtain⟨k,K⟩:=AN 0 1 _;have g:Ou [O 0,ϐ$ ϒ "agree"::U 0::U 1::[(m.x 0).D]] σ=_:=UW h.H K ⋯$ N2 (j:=0) n f h.H (s:=1) rfl;rw[vB]at g;have I:=yA n f;have bl:=λG=>SU h.b f (s:=0) (ϔ rfl) I ⟨by have:=n.u 0 f;lia,by have:=n.v 0 f;lia⟩ (by show R.c.cl _ _=_;rw[ό];rfl) (G:=G)$ ϔ rfl;have t:∀ o,bj 1 m.P { R.B m i with C:=Qa (R.B m i).C ((0:Nat)) (.laid 0 (m.x 0) (R.B m i).y) } (σ.set 2 o)->Dr m i T į { R with c:=.bl R.y } l (σ.set 2 o):=λo b=>h.bk (r:=2) (R':={ R with c:=.bl R.y }) ⋯ (by
  have:(({ R with c:=.bl R.y }:Rq).B m i)={ R.B m i with C:=Qa (R.B m i).C 0 (.laid 0 (m.x 0) R.y) }:=by
   unfold Rq.B;dsimp only;rw[VH];rfl
  rw[this];exact b) ⟨rfl,rfl,rfl⟩
 have mk:=Xi h.H "check_side_of_band" 3 ZE;have E:=Xi h.H "band_can" 2 Ou;have L:Yv [O 0,U 0,U 0] σ=J (Ϗ š) σ:=BQ (j:=0) n f h.H (s:=0) rfl;have w:ZE [O 0,U 0,U 0] σ=J Ϛ σ:=by
  unfold ZE Vd;simp[(Xi h.H "is_side_of_band" 3 Yv),L]
 have st:Hh [(m.x 0).D] σ=J (Ϗ š) σ:=cC I.st σ;have F:=GI 0 σ;have p:=Vz h.H;have ml:=wm h.b "lay" 5 ae;have A:∀ (q:gV->M D) (x a b c d:D) σ,Vg 5 q x [a,b,c,d] σ=q [x,a,b,c,d] σ:=λq x a b c d σ=>Tw rfl;cases z:decide (k∈T)with
 |true=>
  obtain⟨o,e,b⟩:=bl (ϐ [ϒ "agree",U 0,U 1,(m.x 0).D]);rw[z]at g;refine⟨o,?_,t o b⟩;have e:ae [O 1,U 0,U 0,(m.x 0).D,ϐ [ϒ "agree",U 0,U 1,(m.x 0).D]] σ=J Ϛ (σ.set 2 o):=e;unfold eA Ue;dsimp only;generalize (m.x 0).D=X,σ.set 2 o=N at *;simp[mk,w,st,F,E,g,p,ml,A,e]
 |false=>
  obtain⟨o,e,b⟩:=bl Ϛ;rw[z]at g;refine⟨o,?_,t o b⟩;have e:ae [O 1,U 0,U 0,(m.x 0).D,Ϛ] σ=J Ϛ (σ.set 2 o):=e;unfold eA Ue;dsimp only;generalize (m.x 0).D=X,σ.set 2 o=N at *;simp[mk,w,st,F,E,g,p,ml,A,e]
theorem zmq(r:m.Ok)(p:R.st i)(o:∀ y,R.c=.bl y->R.y<y+(m.P 0).w):∃ d g a,OB [O 0,U 0] σ=J d a/\Dr m i T į (R.look m) g a/\(Ot R->Ws g a):=by
 obtain⟨d,N,l1,b,e,f,j,n,l⟩:=wY r p h o;refine⟨d,l1,b,?_,f,λq=>(q.look m).2.ws f.K j n l⟩;unfold OB Ue;simp[(Xi h.H "keeper" 2 np),(HJ h.H h.k.h0),(mj h.k "look" 2 rz),(Vz h.H),e]
theorem ztm(w:Ws l σ){j}(c:j<2)(b:l.F.length<=9):Ct [O 0,U 0,yw j] σ=J (Ϗ š) (σ.set 15$ ύ$ Df l.F (.inl j)$ Ϗ š)/\KL 9 { l with F:=Df l.F (.inl j) (Ϗ š) } (ύ l.A) (σ.set 15$ ύ$ Df l.F (.inl j)$ Ϗ š):=by
 have S:=h.st w;obtain⟨e,k⟩:=GT S.k c b;have a:HA m T į$ σ.set 15$ ύ$ Df l.F (.inl j)$ Ϗ š:=⟨Yd ⋯ h.H.h0,Yd ⋯ h.H.h6,Yd ⋯ h.H.h8⟩
 exact⟨pH h.H h.k e (Xi a "send" 3 No) QJ,k.k⟩
theorem ycx(w:Ws l σ)(E:R.F=į) C o:∃ ό d,MJ [W1$ O 0,C,ŋ,o] σ=J (ϙ [W1$ O 0,C,W1$ U 1,o]) d/\Dr m i T į { R with F:=š } ό d:=by
 have s:l.F=[]:=by rw[h.F,E];rfl
 obtain⟨q,r⟩:=ztm h w (j:=0) ⋯ (by rw[s];simp);have t:Ws { l with F:=Df l.F (.inl (0:Nat)) (Ϗ š) }$ σ.set 15$ ύ$ Df l.F (.inl (0:Nat))$ Ϗ š:=(w.set ⋯ _).cg ⟨rfl,rfl,rfl⟩;have g:=h.b.set (n:=15) (ϕ$ by lia)$ ύ$ Df l.F (.inl (0:Nat))$ Ϗ š;rw[s]at q r t g;generalize G:σ.set 15 (ύ$ Df [] (.inl ((0:Nat):Int))$ Ϗ š)=p at *;have f:St m i T { l with F:=Df [] (.inl ((0:Nat):Int)) (Ϗ š) } (R.B m i) p:=⟨⟨r,t,h.e,h.a,h.n,by show l.xx 14=_;rw[h.x];rfl⟩,g,h.x⟩
 obtain⟨v,I⟩:=GT f.k (j:=1) ⋯ (by show (Df [] (.inl ((0:Nat):Int))$ Ϗ š).length<=9;simp[Df]);have c:=f.H;have u:HA m T į$ p.set 15$ ύ$ Df (Df [] (.inl ((0:Nat):Int))$ Ϗ š) (.inl ((1:Nat):Int))$ Ϗ š:=⟨Yd ⋯ c.h0,Yd ⋯ c.h6,Yd ⋯ c.h8⟩
 refine⟨_,_,?_,⟨I.k,(g.set (n:=15) (ϕ$ by lia)$ ύ$ Df (Df [] (.inl ((0:Nat):Int))$ Ϗ š) (.inl ((1:Nat):Int))$ Ϗ š),h.x,h.e,h.a,h.n,h.y,h.K,rfl⟩⟩;have L:qu (U 2) σ=J (.seq [U 0,U 1]) σ:=by rw[AJ ⋯ ⋯];rfl
 have z:ϐ [ϒ "finish",U 0]=yw 0:=rfl;have A:ϐ [ϒ "finish",U 1]=yw 1:=rfl;have M:Wr (eC$ U 2) [W1$ O 0,C,ŋ,o] σ=J (.seq [U 0,U 1]) σ:=by
  show rc _ qu σ=_;rw[fj];simp[L]
 unfold MJ;rw[pM,M,Qj,EK];generalize p.set 15 _=P at *;generalize yw 0=N,yw 1=ϋ at *;simp[z,A,(Xi h.H "wish" 3 Ct),q,(Xi c "wish" 3 Ct),(pH c f.k.k v (Xi u "send" 3 No) QJ)]
end
noncomputable def qo(s:Option Int)(t:Ti):Bool:=match s with
 |none=>į
 |some d=>decide (d<t.y)
def pT(y:Int)(s:Option Int):List Ti->Int × Int
 |[]=>(0,0)
 |t::_=>if qo s t then (0,t.a)else if t.y<=y then (t.a,0)else (0,0)
def lD(W y c w:Int)(s:Option Int)(x:Sn):Int × Int × Int:=if y<c+w then (0,0,W)else (x.a+(pT y s x.ts).1,x.b+(pT y s x.ts).2,W - (x.a+(pT y s x.ts).1+(x.b+(pT y s x.ts).2)))
def Cl.du(W y w:Int)(s:Option Int):Cl->Int × Int × Int
 | .held=>(0,0,W)
 | .laid _ x a=>lD W y a w s x
 | .taken q=>(sa q W 0,sb q W 0,0)
def tD(x:Int × Int × Int):D:=ϐ [U x.1,U x.2.1,U x.2.2]
def MO(a:List Ti):Prop:=a=[]\/∃ t,a=[t]/\t.p=0/\t.w=0
def Cl.K1:Cl->Prop
 | .held=>True
 | .laid _ x _=>MO x.ts
 | .taken q=>q=0\/q=1
section
variable{σ:Da}{n:Nat}{s:Option Int}(hs:σ[n]?=W1 (ύ$ Ud$ sL s))
include hs
theorem i9{t:Ti}(e:t.w=0):bf [t.D,O n] σ=J (Ϗ$ qo s t) σ:=by
 have f:∀ a,Fb t.D (U 2) a=J (U 0) a:=λa=>by unfold Ti.D;rw[e];simp
 have h:∀ a,Fb t.D (U 3) a=J (U t.y) a:=λa=>by unfold Ti.D;simp
 have i:Gn (U 0) (O n) σ=J (Ϗ s.isSome) σ:=by
  have b:Rf σ (O n)=W1 (Ud$ sL s):=by unfold Rf;simp[hs]
  unfold Gn;simp[Lq,b];cases s<;>rfl
 unfold bf qo qc;dsimp only;cases c:s with
 |none=>simp_all
 |some d=>
  have g:zj _ (U 0) σ=J _ σ:=GJ hs (by rw[c];rfl)
  simp_all
theorem î{t:Ti}(f:t.p=0)(g:t.w=0)(y:Int):Ql [t.D,U y,O n] σ=J (if qo s t then U 1 else if t.y<=y then U 0 else Ϛ) σ:=by
 have b:=i9 hs g;have d:∀ a,Fb t.D (.int 0) a=.ok (.int 0) a:=λa=>by unfold Ti.D;rw[f];simp
 have h:∀ a,Fb t.D (.int 3) a=.ok (.int t.y) a:=λa=>by unfold Ti.D;simp
 unfold Ql qc;dsimp only;cases e:qo s t with
 |true=>rw[e]at b;simp[b,d,(GI 0)]
 |false=>
  rw[e]at b;by_cases c:t.y<=y<;>simp[b,d,h,c]
theorem U8(p:Pt)(y:Int){c:Cl}(H:c.K1):∃ G,(∀ g d,Ci [(6,HG),(7,Tz),(8,xF)] 3 "comes" g (c.D p) d=(g d).bind (Vg 3 G$ c.D p))/\G [c.D p,U y,O n] σ=J (tD$ c.du (p.u+p.v) y p.w s) σ:=by
 have j:∀ d,Vb [5,6,7,8] "whole" (c.D p) d=J _ d:=λd=>by cases c<;>exact Sh (Fm rfl) rfl rfl
 unfold tD;cases c with
 |held=>
  refine⟨HG,λg d=>on (Fm rfl) rfl rfl,?_⟩;show _=J (ϐ [U 0,U 0,U$ p.u+p.v]) σ;unfold HG Vd;dsimp only;generalize Cl.held.D p=BD,p.u+p.v=W at *;simp[j]
 |taken q=>
  refine⟨xF,λg d=>on (Fm rfl) rfl rfl,?_⟩;have L:∀ d,Vb [7,8,10,11,12,13] "side" ((Cl.taken q).D p) d=J _ d:=λd=>Sh (Fm rfl) rfl rfl;have M:=λd=>DG (show q=0\/q=1 from H) 0 0 (p.u+p.v) d;show _=J (ϐ [U$ sa q (p.u+p.v) 0,U$ sb q (p.u+p.v) 0,U 0]) σ;unfold xF Vd;dsimp only;generalize (Cl.taken q).D p=BD,p.u+p.v=W at *;generalize sa q W 0=A,sb q W 0=C at *;simp[j,L,M]
 |laid z x f=>
  refine⟨Tz,λg d=>on (Fm rfl) rfl rfl,?_⟩;have k:=λd=>wL z x f p d;have m:∀ g d,Ci [(7,iw)] 2 "waits" g ((Cl.laid z x f).D p) d=(g d).bind (Vg 2 iw$ (Cl.laid z x f).D p):=λg d=>on (Fm rfl) rfl rfl;have l:iw [(Cl.laid z x f).D p,U y] σ=J (Ϗ$ decide$ y<f+p.w) σ:=by
   unfold iw Vd;dsimp only;generalize (Cl.laid z x f).D p=BD at *;simp[k]
  have E:=λd=>s1 x d;have i:=λd=>s2 x d;show _=J (ϐ [U (lD (p.u+p.v) y f p.w s x).1,U (lD (p.u+p.v) y f p.w s x).2.1,U (lD (p.u+p.v) y f p.w s x).2.2]) σ;unfold lD;by_cases c:y<f+p.w
  ·rw[ja c];rw[ib c]at l;unfold Tz Vd;dsimp only;generalize (Cl.laid z x f).D p=BD,x.D=X,p.u+p.v=W at *;simp[m,l,j]
  ·rw[ra c];rw[pb c]at l;rcases(show MO x.ts from H)with e|⟨t,e,N,ϋ⟩
   ·rw[e]at i ⊢;have o:=DM x.a x.b;unfold Tz Vd pT;dsimp only;generalize (Cl.laid z x f).D p=BD,x.D=X,p.u+p.v=W at *;simp[m,l,j,k,E,i,o]
   ·rw[e]at i ⊢;have h:=î hs N ϋ y;have K:∀ d,Fb t.D (.int 1) d=.ok (.int t.a) d:=λd=>by unfold Ti.D;simp
    have I:=DG (q:=0) (.inl rfl) x.a x.b t.a;have ό:=DG (q:=1) (.inr rfl) x.a x.b t.a;have B:sa 0 t.a x.a=x.a+t.a/\sb 0 t.a x.b=x.b/\sa 1 t.a x.a=x.a/\sb 1 t.a x.b=x.b+t.a:=by simp[sa,sb]
    rw[B.1,B.2.1]at I;rw[B.2.2.1,B.2.2.2]at ό;have o:=DM;unfold Tz Vd pT;dsimp only;simp only[db,Hg]at i;generalize (Cl.laid z x f).D p=BD,x.D=X,t.D=P,p.u+p.v=W at *;cases F:qo s t with
    |true=>rw[F]at h;simp at h;simp[m,l,j,k,E,i,o,h,K,ό]
    |false=>
     rw[F]at h;by_cases r:t.y<=y
     ·simp[r]at h;simp[m,l,j,k,E,i,o,h,K,I,r]
     ·simp[r]at h;simp[m,l,j,k,E,i,o,h,r]
end
def Rq.ss(R:Rq):Nat->Option Int:=pk R.s R.t ŋ
def Rq.du(m:Pm)(i:Nat->Nat)(R:Rq)(j:Nat):Int × Int × Int:=((R.B m i).C j).du ((m.P j).u+(m.P j).v) R.y (m.P j).w$ R.ss j
def Ľ{m}(e:m.Ok){i}(f:∀ j,j<2->i j=0\/i j=2){j}(b:j<2)(R:Rq):((R.B m i).C j).K1:=by
 have a:MO (m.c j$ i j).m.ts:=by
  rw[(NF e b$ f j b).2.2.2.2];obtain⟨_,p,w,_⟩:=e.t j b;split
  ·exact ϕ ⟨_,rfl,p,w⟩
  ·exact ϔ rfl
 rcases gm b with rfl|rfl
 ·show (R.c.cl _ _).K1;cases R.c with
  |hd=>trivial
  |bl y=>exact ϔ rfl
  |tk=>exact ϕ rfl
  |ml y=>exact a
 ·show (Cr _ R.d).K1;cases R.d with
  |none=>trivial
  |some y=>exact a
section
variable{m:Pm}(mo:m.Ok){i:Nat->Nat}(hi:∀ j,j<2->i j=0\/i j=2){T:List TK}{R:Rq}{l:Lk}{σ:Da}(h:Dr m i T į R l σ)
include mo hi h
theorem IK{j:Nat}(a:j<2):Dw [O 1,U j] σ=J (tD$ R.du m i j) σ:=by
 have F:=ut h.b a;have f:σ[1+3+j]?=W1 (ύ$ Ud$ sL$ R.ss j):=by
  rw[h.b.h3 j a];rcases gm a with rfl|rfl<;>rfl
 obtain⟨c,g,e⟩:=U8 f _ R.y (Ľ mo hi a R);have d:cl (tD$ R.du m i j)=š:=by unfold tD;simp
 have e:c [((R.B m i).C j).D$ m.P j,U (R.B m i).y,O$ 4+j] σ=J (tD$ R.du m i j) σ:=by rw[show 4+j=1+3+j by lia];exact e
 unfold Dw Vd;dsimp only;simp[F,(mB h.b a),g,e,d]
theorem JX:Wy [O 1] σ=J (Ϗ$ decide ((R.du m i 0).2.2=0) && decide ((R.du m i 1).2.2=0)) σ:=by
 have p:∀ d,Dr m i T į R l d->Vb [9,14,16] "pots" (O 1) d=J _ d:=λd h=>(ut h.b (i:=0)$ by lia).1;have c:∀ ό,Dr m i T į R l _:=λό=>⟨h.k.app ό,h.b.app ό,h.x,h.e,h.a,h.n,h.y,h.K,h.F⟩
 have l1:=Bt (xs:=[0,1]) (s:=.seq [U 0,U 1]) (src:=Wr$ Pl tq$ Ba (Pc (Vb [9,14,16] "pots")$ pa 0) Za) (ix:=[0]) (ρ:=[W1$ O 1]) (σ:=σ) (fe:=Eb Zi (Eb Fb (Zd [(9,Dw)] 2 "due_of" (pa 2)$ Ba (pa 0) Za)$ eC$ U 2)$ eC$ U 0) _ (λk=>Ϗ$ decide _) (by
  have r:qu (U 2) σ=J (.seq [U 0,U 1]) σ:=by rw[AJ ⋯ ⋯];rfl
  have q:tq [ώ [(m.P 0).D,(m.P 1).D]] σ=J (U 2) σ:=TN _;show rc _ qu σ=_;rw[fj];simp[p σ h,q,r]) (λi v=>eb W1$ dr [0,1] (λ(k:Nat)=>U k) i) ⋯ (λk g j=>by
  have g:k<2:=by simp at g;lia
  have t:∀ σ,Fb (tD$ R.du m i k) (U 2) σ=J (U (R.du m i k).2.2) σ:=λσ=>by unfold tD;simp
  generalize tD (R.du m i k)=u at *;simp[(IK mo hi (c j) g),(wm (c j).b "due_of" 2 Dw),t];rfl) (λv v=>rfl)
 have o:GC [ώ _] σ=J (Ϗ$ [0,1].all λk=>decide$ (R.du m i k).2.2=0) σ:=OP (σ:=σ) (f:=λk=>decide$ (R.du m i k).2.2=0) (l:=[0,1]);unfold Wy Vd;dsimp only;generalize [0,1].map (λk=>Ϗ$ decide$ (R.du m i k).2.2=0)=Z at *;simp[l1,o,-Bo]
theorem B9:xA [O 0,U 0] σ=J (U$ 0+(R.du m i 0).2.1+(R.du m i 1).1) σ:=by
 obtain⟨B,C,E,F⟩:=mo.h;have v:Dw [O 1,U 0] σ=_:=IK mo hi h (j:=0) ⋯;have w:Dw [O 1,U 1] σ=_:=IK mo hi h (j:=1) ⋯;have o:=wm h.b "due_of" 2 Dw;have z:qh [U 0] σ=J (Ϗ š) σ:=by
  have:=bt (i:=0) (a:=0) (b:=3) ⋯ σ;unfold qh qc;simp[this]
 have p:=λσ=>Cw (m.P 0) σ;have q:=λσ=>Cw (m.P 1) σ;rw[B,C]at p;rw[E,F]at q;have ό:∀ σ,Fb (tD$ R.du m i 0) (U 1) σ=J (U (R.du m i 0).2.1) σ:=λσ=>by unfold tD;simp
 have K:∀ σ,Fb (tD$ R.du m i 1) (U 0) σ=J (U (R.du m i 1).1) σ:=λσ=>by unfold tD;simp
 have n:∀ (f:Ev->M D) (c d e g l:Option D) (x:D) (σ:Da),bw _ 2 f [c,d,W1 x,e,g,l] σ=zk [c,d,W1 x,e,g,l] (NB (λa b=>a+b) 2 [c,d,W1 x,e,g,l] x) (f [c,d,W1 x,e,g,l] σ):=λf c d e g l x σ=>dM rfl;have s:RE [W1$ O 1,W1$ U 0,W1$ U 0,W1$ U 0,W1 (m.P 0).D,ŋ] σ=J (ϙ [W1$ O 1,W1$ U 0,W1$ U$ 0+(R.du m i 0).2.1,W1$ U 0,W1 (m.P 0).D,W1$ U 1]) σ:=by
  generalize (m.P 0).D=Q,tD (R.du m i 0)=r at *;simp[p,v,o,ό,n]
 have t:RE [W1$ O 1,W1$ U 0,W1$ U$ 0+(R.du m i 0).2.1,W1$ U 1,W1 (m.P 1).D,W1$ U 1] σ=J (ϙ [W1$ O 1,W1$ U 0,W1$ U$ 0+(R.du m i 0).2.1+(R.du m i 1).1,W1$ U 1,W1 (m.P 1).D,W1$ U 1]) σ:=by
  generalize (m.P 1).D=Q,tD (R.du m i 1)=r at *;simp[q,w,o,K,n]
 have y:jz (PL m) σ=J (iq$ PL m) σ:=GP (xs:=[(m.P 0).D,(m.P 1).D]) rfl;have G:Vb [9,14,16] "pots" (O 1) σ=J (PL m) σ:=(ut h.b (i:=0)$ by lia).1;have I:Bx (Pc (Vb [9,14,16] "pots")$ pa 0) [W1$ O 1,W1$ U 0,W1$ U 0,ŋ,ŋ,ŋ] σ=J (iq$ PL m) σ:=by
  generalize PL m=L at *;simp[G,y]
 have A:Kk (Bx$ Pc (Vb [9,14,16] "pots")$ pa 0) (vj 2$ Nf (Cc 3)$ Nf (Cc 4) Lj) RE [W1$ O 1,W1$ U 0,W1$ U 0,ŋ,ŋ,ŋ] σ=J (ϙ [W1$ O 1,W1$ U 0,W1$ U$ 0+(R.du m i 0).2.1+(R.du m i 1).1,W1$ U 1,W1 (m.P 1).D,W1$ U 1]) σ:=by
  rw[wt,I,Qj];show Do (iq$ PL m) _ RE 1001 0 _ σ=_;rw[mq (k:=1000) (pC (x:=PL m) (xs:=[(m.P 0).D,(m.P 1).D]) (i:=0) rfl rfl) (ρ1:=[W1$ O 1,W1$ U 0,W1$ U 0,W1$ U 0,W1 (m.P 0).D,ŋ]) rfl,s,Jc,Wj];rw[mq (k:=999) (pC (x:=PL m) (xs:=[(m.P 0).D,(m.P 1).D]) (i:=1) rfl rfl) (ρ1:=[W1$ O 1,W1$ U 0,W1$ U$ 0+(R.du m i 0).2.1,W1$ U 1,W1 (m.P 1).D,W1$ U 1]) rfl,t,Jc,Wj];exact Wx (k:=998)$ HP (x:=PL m) (xs:=[(m.P 0).D,(m.P 1).D]) rfl
 have u:ZF [O 1,U 0] σ=J (U$ 0+(R.du m i 0).2.1+(R.du m i 1).1) σ:=by
  unfold ZF aZ Vd;dsimp only;generalize (0+(R.du m i 0).2.1+(R.du m i 1).1)=Z at *;simp[z,A,-wt]
 unfold xA Vd;dsimp only;generalize (0+(R.du m i 0).2.1+(R.du m i 1).1)=Z at *;simp[(Vz h.H),(wm h.b "coin_of" 2 ZF),u]
end
structure Iv(m:Pm)(i:Nat->Nat)(Z:Int)(R:Rq):Prop where
 F:R.F=š
 l:R.L<=R.y/\R.y<=R.L+m.e
 b:∀ y,R.c=.bl y->R.L<=y
 h:(R.c=.hd\/∃ y,R.c=.bl y)->R.L<=Z
 h2:R.d=ŋ->R.L<=Z
 c:∀ y,R.c=.ml y->y<=Z+m.e
 d:∀ y,R.d=W1 y->y<=Z+m.e
 p:i 1=2->∀ s,R.t=W1 s->s<(m.t 1).y->(m.t 1).y+m.e<=(m.t 0).y/\(m.t 1).a<=(m.t 0).a/\(R.c=.tk\/(∃ d,R.s=W1 d/\d<(m.t 0).y)\/R.s=ŋ/\R.L+m.e<(m.t 0).y)
 i:i 0=2/\(i 1=0\/i 1=2)
def Iv.st{m}{i}{Z}{R}(h:Iv m i Z R):R.st i:=ϔ h.i
def Iv.hb{m}(a:m.Ok){i}{Z}{R}(h:Iv m i Z R):∀ y,R.c=.bl y->R.y<y+(m.P 0).w:=λy e=>by
 have:=h.b y e;have:=h.l;have:=a.w 0 ⋯
 lia
def Iv.nx{m}(B:m.Ok){i}{Z}{R}(h:Iv m i Z R):Iv m i Z$ R.nx m:=by
 have H:=B.e;obtain⟨u,z,v,o,l,n,hd,p,w⟩:=h;obtain⟨y,L,K,c,d,s,t,F⟩:=R;dsimp only at u z v o l n hd p;subst u;unfold Rq.nx;by_cases r:m.e<=y - L
 ·rw[ja r];have G:y=L+m.e:=by lia
  refine⟨rfl,?_,λf e=>?_,λe=>?_,λe=>?_,λf e=>?_,λf e=>?_,λA s0 j x=>?_,w⟩
  ·show y<=y+1/\y+1<=y+m.e;lia
  ·have e:c.sk.ly y=.bl f:=e;cases c<;>simp[Cq.sk,Cq.ly]at e
  ·have e:c.sk.ly y=.hd\/∃ f,c.sk.ly y=.bl f:=e;cases c<;>simp[Cq.sk,Cq.ly]at e
  ·have e:(if !d.isSome then W1 y else d)=ŋ:=e;cases d<;>simp at e
  ·have e:c.sk.ly y=.ml f:=e;cases c<;>simp[Cq.sk,Cq.ly]at e
   ·have:=o$ ϔ rfl;lia
   ·have:=n _ rfl;lia
  ·have e:(if !d.isSome then W1 y else d)=W1 f:=e;cases d<;>simp at e
   ·have:=l rfl;lia
   ·have:=hd _ rfl;lia
  ·have j:t=W1 s0:=j;obtain⟨C,D,b⟩:=p A s0 j x;refine⟨C,D,?_⟩;show c.sk.ly y=.tk\/(∃ g,(if (⟨y,L,K,c,d,s,t,š⟩:Rq).sh m then W1 y else s)=W1 g/\g<(m.t 0).y)\/(if (⟨y,L,K,c,d,s,t,š⟩:Rq).sh m then W1 y else s)=ŋ/\y+m.e<(m.t 0).y;have E:(⟨y,L,K,c,d,s,t,š⟩:Rq).sh m=(c.sk.nu && (!s.isSome && (decide (y<(m.t 0).y) && decide ((m.t 0).y<=y+m.e)))):=by
    unfold Rq.sh Rq.k;dsimp only;rw[j];simp
   rw[E];have a:c.sk.ly y=.tk\/c.sk.nu=š:=by cases c<;>simp[Cq.sk,Cq.ly,Cq.nu]
   rcases a with a|a
   ·exact ϔ a
   ·rw[a];rcases b with b|⟨g,b,p4⟩|⟨b,p4⟩
    ·have b:c=.tk:=b;rw[b]at a;cases a
    ·have b:s=W1 g:=b;right;left;rw[b];exact⟨g,by simp,p4⟩
    ·have b:s=ŋ:=b;have p4:L+m.e<(m.t 0).y:=p4;rw[b,ib (show y<(m.t 0).y by lia)];by_cases q:(m.t 0).y<=y+m.e
     ·right;left;rw[ib q];exact⟨y,rfl,by lia⟩
     ·right;right;rw[pb q];exact⟨rfl,by lia⟩
 ·rw[ra r];exact⟨rfl,by show L<=y+1/\y+1<=L+m.e;lia,v,o,l,n,hd,p,w⟩
section
variable(m:Pm)(j:Nat)(y y0 w:Int)(s:Option Int)
def lz:lD ((m.P j).u+(m.P j).v) y y0 w s (m.z j)=if y<y0+w then (0,0,(m.P j).u+(m.P j).v)else if qo s (m.t j)then ((m.P j).u - (m.t j).a,(m.P j).v+(m.t j).a,0)else if (m.t j).y<=y then ((m.P j).u,(m.P j).v,0)else ((m.P j).u - (m.t j).a,(m.P j).v,(m.t j).a):=by
 unfold lD pT;show (if _ then _ else ((m.P j).u - (m.t j).a+(if qo s _ then (0,(m.t j).a)else if (m.t j).y<=y then ((m.t j).a,0)else (0,0):Int × Int).1,(m.P j).v+(if qo s _ then (0,(m.t j).a)else if (m.t j).y<=y then ((m.t j).a,0)else (0,0):Int × Int).2,_ - ((m.P j).u - (m.t j).a+(if qo s _ then (0,(m.t j).a)else if (m.t j).y<=y then ((m.t j).a,0)else (0,0):Int × Int).1+((m.P j).v+(if qo s _ then (0,(m.t j).a)else if (m.t j).y<=y then ((m.t j).a,0)else (0,0):Int × Int).2))))=_;by_cases c:y<y0+w
 ·rw[ja c,ja c]
 ·rw[ra c,ra c];by_cases b:qo s (m.t j)=š
  ·simp only[b,sg,Wi];lia
  ·simp only[b];by_cases d:(m.t j).y<=y
   ·simp only[d,sg,Wi];simp only[sf,oj,Wi];lia
   ·simp only[d,oj,sf,Wi];lia
def lx:lD ((m.P j).u+(m.P j).v) y y0 w s (m.x j)=if y<y0+w then (0,0,(m.P j).u+(m.P j).v)else ((m.P j).u,(m.P j).v,0):=by
 show (if _ then _ else ((m.P j).u+0,(m.P j).v+0,(m.P j).u+(m.P j).v - ((m.P j).u+0+((m.P j).v+0))))=_
 simp_all
end
section
variable{m:Pm}(mo:m.Ok){i:Nat->Nat}{Z:Int}{R:Rq}(h:Iv m i Z R)
include mo h
theorem rZ:(R.c=.tk->R.du m i 0=(0,(m.P 0).u+(m.P 0).v,0))/\(∀ a,R.c=.ml a->R.du m i 0=lD ((m.P 0).u+(m.P 0).v) R.y a (m.P 0).w R.s (m.z 0))/\((R.c=.hd\/∃ y,R.c=.bl y)->(R.du m i 0).2.2≠0):=by
 have b:=mo.u 0 ⋯;have d:=mo.v 0 ⋯;have e:R.du m i 0=(R.c.cl _ _).du _ R.y (m.P 0).w R.s:=rfl;rw[e];refine⟨λc=>?_,λa c=>?_,λc=>?_⟩
 ·rw[c];show (sa 1 _ 0,sb 1 _ 0,0)=_;simp[sa,sb]
 ·rw[c,h.i.1];rfl
 ·rcases c with c|⟨y,c⟩
  ·rw[c];show (m.P 0).u+(m.P 0).v≠0
   lia
  ·rw[c];show (lD _ _ _ _ _$ m.x 0).2.2≠0;rw[lx,ja$ h.hb mo y c];show (m.P 0).u+(m.P 0).v≠0
   lia
theorem KW:(∀ a,R.d=W1 a->R.du m i 1=lD ((m.P 1).u+(m.P 1).v) R.y a (m.P 1).w R.t (if i 1=2 then m.z 1 else m.x 1))/\(R.d=ŋ->(R.du m i 1).2.2≠0):=by
 have b:=mo.u 1 ⋯;have f:=mo.v 1 ⋯;have e:R.du m i 1=(Cr _ R.d).du _ R.y (m.P 1).w R.t:=rfl;rw[e];refine⟨λa c=>?_,λc=>?_⟩
 ·rw[c];rcases h.i.2 with e|e<;>rw[e]<;>rfl
 ·rw[c];show (m.P 1).u+(m.P 1).v≠0
  lia
theorem zos(q:Z+100<=R.y)(n:0<=Z)(b:∀ j,j<2->(m.t j).y<=100):(R.du m i 0).2.2=0/\(R.du m i 1).2.2=0:=by
 have p:=h.l;have o:=mo.e;have s:=mo.w 0 ⋯;have u:=mo.w 1 ⋯;have r:=b 0 ⋯;have u1:=b 1 ⋯;obtain⟨f,g,_⟩:=rZ mo h;obtain⟨k,_⟩:=KW mo h;constructor
 ·cases c:R.c with
  |hd=>have:=h.h$ ϔ c;lia
  |bl y=>have:=h.h$ ϕ ⟨y,c⟩;lia
  |tk=>rw[f c]
  |ml a=>
   have:=h.c a c;rw[g a c,lz,ra ⋯,ja (show (m.t 0).y<=R.y by lia)];split<;>rfl
 ·cases c:R.d with
  |none=>have:=h.h2 c;lia
  |some a=>
   have:=h.d a c;rw[k a c];split
   ·rw[lz,ra ⋯,ja (show (m.t 1).y<=R.y by lia)];split<;>rfl
   ·rw[lx,ra ⋯]
theorem Ú(K:(m.t 1).a<=(m.P 0).u)(f:(R.du m i 0).2.2=0)(b:(R.du m i 1).2.2=0):0+(R.du m i 0).2.1+(R.du m i 1).1 ≥ Co m:=by
 have L:=h.l;have S:=(mo.t 0$ by lia).1.a;have T:=(mo.t 1$ by lia).1.a;have M:=mo.u 0 ⋯;have N:=mo.v 0 ⋯;have G:=mo.u 1 ⋯;have H:=mo.v 1 ⋯;obtain⟨z,C,x⟩:=rZ mo h;obtain⟨D,E⟩:=KW mo h;unfold Co;have A:(R.c=.tk/\(R.du m i 0).2.1=(m.P 0).u+(m.P 0).v)\/qo R.s (m.t 0)=š/\(R.du m i 0).2.1=(m.P 0).v+(m.t 0).a\/R.c≠.tk/\qo R.s (m.t 0)=į/\(m.t 0).y<=R.y/\(R.du m i 0).2.1=(m.P 0).v:=by
  cases c:R.c with
  |hd=>exact absurd f$ x$ ϔ c
  |bl y=>exact absurd f$ x$ ϕ ⟨y,c⟩
  |tk=>exact ϔ ⟨rfl,by rw[z c]⟩
  |ml g=>
   rw[C g c,lz]at f ⊢;by_cases w:R.y<g+(m.P 0).w
   ·rw[ja w]at f;dsimp only at f;lia
   ·rw[ra w]at f ⊢;cases e:qo R.s _ with
    |true=>exact ϕ$ ϔ ⟨rfl,rfl⟩
    |false=>
     rw[e]at f;by_cases q:(m.t 0).y<=R.y
     ·exact ϕ$ ϕ ⟨by simp,rfl,q,by simp[q]⟩
     ·simp[q]at f;lia
 have B:(R.du m i 1).1=(m.P 1).u\/i 1=2/\qo R.t (m.t 1)=š/\(R.du m i 1).1=(m.P 1).u - (m.t 1).a:=by
  cases c:R.d with
  |none=>exact absurd b$ E c
  |some g=>
   rw[D g c]at b ⊢;by_cases j:i 1=2
   ·rw[ja j,lz]at b ⊢;by_cases w:R.y<g+(m.P 1).w
    ·rw[ja w]at b;dsimp only at b;lia
    ·rw[ra w]at b ⊢;cases e:qo R.t (m.t 1)with
     |true=>exact ϕ ⟨j,rfl,rfl⟩
     |false=>
      rw[e]at b;by_cases q:(m.t 1).y<=R.y
      ·exact ϔ (by simp[q])
      ·simp[q]at b;lia
   ·rw[ra j,lx]at b ⊢;by_cases w:R.y<g+(m.P 1).w
    ·rw[ja w]at b;dsimp only at b;lia
    ·rw[ra w];exact ϔ rfl
 rcases B with B|⟨j,k,B⟩
 ·rw[B];rcases A with⟨_,A⟩|⟨_,A⟩|⟨_,_,_,A⟩<;>rw[A]<;>lia
 ·rw[B];obtain⟨n,F,I⟩:∃ n,R.t=W1 n/\n<(m.t 1).y:=by
   unfold qo at k;cases e:R.t with
   |none=>rw[e]at k;cases k
   |some d=>rw[e]at k;exact⟨d,rfl,by simpa using k⟩
  obtain⟨ϋ,Q,r⟩:=h.p j n F I;rcases A with⟨_,A⟩|⟨_,A⟩|⟨ό,o,q,A⟩
  ·rw[A];lia
  ·rw[A];lia
  ·rcases r with r|⟨d,e,p4⟩|⟨e,p4⟩
   ·exact absurd r ό
   ·rw[e]at o;unfold qo at o;have:¬ d<(m.t 0).y:=by simpa using o
    lia
   ·lia
end
structure Qd(m:Pm)(R:Rq):Prop where
 q:Ot R
 l:R.L<=R.y/\R.y<=R.L+m.e
def Qd.nx{m}(j:m.Ok){R}(h:Qd m R):Qd m (R.nx m)/\(R.nx m).y=R.y+1/\R.L<=(R.nx m).L:=by
 have k:=j.e;have n:=h.l;unfold Rq.nx;by_cases c:m.e<=R.y - R.L
 ·rw[ja c];obtain⟨a,b,d,f,g,i⟩:=(h.q.look m).2;exact⟨⟨⟨a,b,d,f,g,i⟩,by show R.y<=R.y+1/\R.y+1<=R.y+m.e;lia⟩,rfl,by show R.L<=R.y;lia⟩
 ·rw[ra c];obtain⟨a,b,d,f,g,i⟩:=h.q;exact⟨⟨⟨a,b,d,f,g,i⟩,by show R.L<=R.y+1/\R.y+1<=R.L+m.e;lia⟩,rfl,by show R.L<=R.L;lia⟩
def Ot.st{R}(h:Ot R){i}(c:i 0=2/\(i 1=0\/i 1=2)\/i 0=0/\i 1=0):R.st i:=c.imp id λ⟨a,b⟩=>⟨a,b,h.k,h.1⟩
structure Qs(m:Pm)(i:Nat->Nat)(T:List TK)(R:Rq)(l:Lk)(σ:Da):Prop where
 d:Dr m i T į R l σ
 w:Ws l σ
 q:Qd m R
def Qs.nx{m}(c:m.Ok){i}(g:i 0=2/\(i 1=0\/i 1=2)\/i 0=0/\i 1=0){T}{R}{l}{f}(h:Qs m i T R l f):∃ b a,Tt [O 0] f=J Ϛ a/\Qs m i T (R.nx m) b a:=by
 obtain⟨b,a,e,D,w⟩:=RV c (h.q.q.st g) h.d (λy e=>by rw[h.q.q.1]at e;cases e);exact⟨b,a,e,D,w h.q.q h.w,(h.q.nx c).1⟩
structure Sd(m:Pm)(i:Nat->Nat)(R:Rq):Prop where
 c:R.c=.hd
 d:R.d=ŋ
 s:R.s=ŋ
 F:R.F=į
 l:R.L<=R.y/\R.y<=R.L+m.e
 p:i 1=2->∀ s,R.t=W1 s->s<(m.t 1).y->(m.t 1).y+m.e<=(m.t 0).y/\(m.t 1).a<=(m.t 0).a/\R.L<=s
 i:i 0=2/\(i 1=0\/i 1=2)
section
variable{m:Pm}(mo:m.Ok){i:Nat->Nat}{T:List TK}
include mo
theorem G1(u:i 0=2/\i 1=2){R}{l}{σ}(h:Qs m i T R l σ)(Z:XB T [ϒ "word",U 0])(x:Due m R.L) c v:∃ R' N g,re [O 0,U c,U v] σ=J Ϛ g/\Dr m i T į R' N g/\Ws N g/\Sd m i R'/\R.L<=R'.y:=by
 have M:i 0=2/\(i 1=0\/i 1=2)\/i 0=0/\i 1=0:=ϔ ⟨u.1,ϕ u.2⟩;obtain⟨a,z⟩:∃ a:Int,cP [W1$ O 0,W1$ U c,W1$ U v,W1$ U$ v - 1,ŋ] σ=J (ϙ [W1$ O 0,W1$ U c,W1$ U v,W1$ U a,ŋ]) σ:=by
  obtain⟨B,E,C,F,_⟩:=XA h.d;by_cases e:c % 2=1
  ·refine⟨R.y+c / 2 % 20,?_⟩;simp[B,E,C,F,e]
  ·have e:(c % 2 == 1)=į:=by simpa using e
   exact⟨v - 1,by simp[e]⟩
 obtain⟨a0,A,W,t,rfl,j,l1,n,I⟩:=eP 40 ⋯ (k:=4) (body:=nX) (f:=eC$ U 40) (λ_ ρ σ=>∃ t,ρ=[W1$ O 0,W1$ U c,W1$ U v,W1$ U a,t]/\∃ j l1,Qs m i T j l1 σ/\R.L<=j.L) (λk ρ σ hk Y=>by
  obtain⟨t,rfl,j,l1,n,I⟩:=Y;obtain⟨B,E,C,F,mn⟩:=XA n.d;by_cases e:j.y ≥ a
  ·refine⟨[W1$ O 0,W1$ U c,W1$ U v,W1$ U a,W1$ U k],σ,ϕ ⟨?_,_,rfl,j,l1,n,I⟩⟩;have bk:∀ ρ σ,sM ρ σ=J (.bk ρ) σ:=λ_ _=>rfl;simp[B,E,C,F,e,bk]
  ·obtain⟨l2,b,z,p⟩:=n.nx mo M;refine⟨[W1$ O 0,W1$ U c,W1$ U v,W1$ U a,W1$ U k],b,ϔ ⟨?_,_,rfl,_,l2,p,by have:=(n.q.nx mo).2.2;lia⟩⟩;have e:decide (j.y ≥ a)=į:=pb e;simp[B,E,C,F,e,mn,z]) (ρ:=[W1$ O 0,W1$ U c,W1$ U v,W1$ U a,ŋ]) (σ:=σ) ⋯ ⟨ŋ,rfl,R,l,h,by lia⟩
 obtain⟨R2,l2,b,X,p,L2⟩:∃ R2 l2 b,BP [W1$ O 0,W1$ U c,W1$ U v,W1$ U a,t] A=J (ϙ [W1$ O 0,W1$ U c,W1$ U v,W1$ U a,t]) b/\Qs m i T R2 l2 b/\R.L<=R2.L:=by
  by_cases e:c % 2=0
  ·obtain⟨d,l2,b,z,ϊ,w2⟩:=zmq n.d mo (n.q.q.st M) (λy e=>by rw[n.q.q.1]at e;cases e);obtain⟨_,G⟩:=n.q.q.look m;have he:=mo.e;have hl:=n.q.l;refine⟨_,l2,b,?_,⟨ϊ,w2 n.q.q,G,by show j.y<=j.y/\j.y<=j.y+m.e;lia⟩,by show R.L<=j.y;lia⟩;have ml:=Xi n.d.H "look" 2 OB;simp[e,ml,z]
  ·have e:(c % 2 == 0)=į:=by simpa using e
   exact⟨j,l1,A,by simp[e],n,I⟩
 have ph:∀ g,EO [W1$ O 0,W1$ U c,W1$ U v,W1$ U a,t] b=J (ϙ [W1$ O 0,W1$ U c,W1$ U v,W1$ U a,t]) g->re [O 0,U c,U v] σ=J Ϛ g:=λg ό=>by
  have V:xO [W1$ O 0,W1$ U c,W1$ U v,ŋ,ŋ] σ=J (ϙ [W1$ O 0,W1$ U c,W1$ U v,W1$ U$ v - 1,ŋ]) σ:=by simp
  unfold re LY
  (try dsimp only);rw[Vp,fw]
  show Tn (Lb xO (Lb cP$ Lb TL$ Lb BP EO) [W1$ O 0,W1$ U c,W1$ U v,ŋ,ŋ] σ)=_;rw[Bf,V,Jc,Af,Bf,z,Jc,Af,Bf,show TL _ σ=_ from W,Jc,Af,Bf,X,Jc,Af,ό];simp
 obtain⟨ϋ,G,P,Q,q5,S⟩:=p.q.q;by_cases e:c % 6=5
 ·refine⟨R2,l2,b,ph b (by
   have K:Ki (U$ c % 6) (U 5) b=J (Ϗ į) b:=by rw[AE];simp[e]
   simp[K]),p.d,p.w,⟨ϋ,G,P,S,p.q.l,(λ_ s r=>by rw[Q]at r;cases r),u.1,ϕ u.2⟩,by have:=p.q.l;lia⟩
 ·obtain⟨o,ό,D⟩:=X6 p.d Q Z;refine⟨_,l2,_,ph _ ?_,D,p.w.set ⋯ o,⟨ϋ,G,P,S,p.q.l,λ_ s r lt=>?_,u.1,ϕ u.2⟩,by have:=p.q.l;show R.L<=R2.y;lia⟩
  ·have ms:=Xi p.d.H "show" 3 MB;generalize b.set 5 o=a1 at *;have K:Ki (U$ c % 6) (U 5) b=J (Ϗ š) b:=by rw[AE];simp[e]
   simp[K,ms,ό]
  ·have r:W1 R2.y=W1 s:=r;injection r with r;have hl:=p.q.l;show _/\_/\R2.L<=s;rcases x with x|x
   ·lia
   ·exact⟨x.1,x.2,by lia⟩
theorem ycy{R}{l}{σ}(D:Dr m i T į R l σ)(w:Ws l σ)(h:Sd m i R)(hZ:0<=R.y)(hU:∀ j,j<2->(m.t j).y<=100)(hA:(m.t 1).a<=(m.P 0).u) c:∃ I n,Kf [O 0,U c] σ=J (Ϗ š) I/\n ≥ Co m/\xA [O 0,U 0] I=J (U n) I/\HA m T į I:=by
 obtain⟨z,l1,ό,e1,D1,w1,C,r1⟩:∃ z l1 ό,PK [W1$ O 0,W1$ U c,ŋ,ŋ] σ=J (ϙ [W1$ O 0,W1$ U c,ŋ,ŋ]) ό/\Dr m i T į z l1 ό/\Ws l1 ό/\(z.c=.hd\/z.c=.bl R.y)/\z={ R with c:=z.c }:=by
  by_cases e:c % 3 > 0
  ·obtain⟨o,Y,W⟩:=ô D mo h.c;refine⟨_,l,_,?_,W,w.set ⋯ o,ϕ rfl,rfl⟩;obtain⟨M,N,_⟩:=XA D;have ma:=jN D.b;have mm:=wm D.b "made_of" 1 Gs;have ml:=Xi D.H "lay" 4 eA;have p0:=fF (m:=m) (j:=0) ⋯;have p0:∀ σ,Fb _ (U 0) σ=J (m.P 0).D σ:=p0;have sl:∀ σ,JA (m.P 0).D (W1 2) (W1 4) σ=J (ϐ [U (m.P 0).u,U (m.P 0).v]) σ:=λσ=>by unfold Pt.D;rw[BG];rfl
   have ex:Lake.D.Sa [U 0,ϐ [U (m.P 0).u,U (m.P 0).v],ϐ []]=(m.x 0).D:=rfl;generalize σ.set 2 o=τ at *;generalize (m.P 0).D=A,(m.P 1).D=B,(m.x 0).D=X at *;simp[e,M,N,ma,mm,p0,sl,ex,ml,Y]
  ·have e:decide (c % 3 > 0)=į:=pb e;exact⟨R,l,σ,by simp[e],D,w,ϔ h.c,rfl⟩
 obtain⟨l2,ϋ,Y,W⟩:=ycx D1 w1 (by rw[r1];exact h.F) (W1$ U c) ŋ;have Q:=h.l;have I0:Iv m i R.y { z with F:=š }:=by
  rw[r1];refine⟨rfl,Q,λy e=>?_,λ_=>Q.1,λ_=>Q.1,λy e=>?_,λy e=>?_,λi1 s es lt=>?_,h.i⟩
  ·rcases C with C|C
   ·have e:z.c=.bl y:=e;rw[C]at e;cases e
   ·have e:z.c=.bl y:=e;rw[C]at e;cases e;exact Q.1
  ·have e:z.c=.ml y:=e;rcases C with C|C<;>rw[C]at e<;>cases e
  ·have e:R.d=W1 y:=e;rw[h.d]at e;cases e
  ·obtain⟨a,b,d⟩:=h.p i1 s es lt;exact⟨a,b,ϕ$ ϕ ⟨h.s,by show R.L+m.e<_;lia⟩⟩
 obtain⟨a1,K,e3,V,rfl,g,S,q,r,E⟩:=eP 100 ⋯ (k:=3) (body:=MU) (f:=eC$ U 100) (λk ρ σ=>∃ V,ρ=[W1$ O 0,W1$ U c,W1$ U 1,V]/\∃ g S,Dr m i T į g S σ/\Iv m i R.y g/\(((g.du m i 0).2.2=0/\(g.du m i 1).2.2=0)\/g.y=R.y+k)) (λk ρ σ hk hP=>by
  obtain⟨V,rfl,g,S,q,r,E⟩:=hP;obtain⟨M,N,_,_,mn⟩:=XA q;have G:=JX mo r.st.i q;have ϊ:=wm q.b "is_over" 1 Wy;by_cases e:(g.du m i 0).2.2=0/\(g.du m i 1).2.2=0
  ·rw[ib e.1,ib e.2]at G;exact⟨[W1$ O 0,W1$ U c,W1$ U 1,W1$ U k],σ,ϔ ⟨by simp[M,N,ϊ,G],_,rfl,g,S,q,r,ϔ e⟩⟩
  ·obtain⟨l4,a0,Z,D4,_⟩:=RV mo r.st q (r.hb mo);have E:=E.resolve_left e;rw[show (decide ((g.du m i 0).2.2=0) && decide ((g.du m i 1).2.2=0))=į by rw[<-qe,Ca,Bb,Bb];exact e]at G;refine⟨[W1$ O 0,W1$ U c,W1$ U 1,W1$ U k],a0,ϔ ⟨by simp[M,N,ϊ,G,mn,Z],_,rfl,_,l4,D4,r.nx mo,ϕ ?_⟩⟩;show g.y+1=_;rw[E];push_cast;lia) (ρ:=[W1$ O 0,W1$ U c,W1$ U 1,ŋ]) (σ:=ϋ) ⋯ ⟨ŋ,rfl,_,l2,W,I0,ϕ (by rw[r1];simp)⟩
 have G:(g.du m i 0).2.2=0/\(g.du m i 1).2.2=0:=by
  rcases E with E|E
  ·exact E
  ·exact zos mo r (by rw[E];simp) hZ hU
 refine⟨K,_,?_,Ú mo r hA G.1 G.2,B9 mo r.st.i q,q.H⟩;obtain⟨M,N,_⟩:=XA q;have oe:=JX mo r.st.i q;rw[ib G.1,ib G.2]at oe;have ϊ:=wm q.b "is_over" 1 Wy;have Z:fM [W1$ O 0,W1$ U c,W1$ U 1,V] K=J (.rt$ Ϗ š) K:=by simp[M,N,ϊ,oe]
 unfold Kf CU
 (try dsimp only);rw[Vp,fw]
 show Tn (Lb PK (Lb MJ$ Lb jP fM) [W1$ O 0,W1$ U c,ŋ,ŋ] σ)=_;rw[Bf,e1,Jc,Af,Bf,Y,Jc,Af,Bf,show jP _ ϋ=_ from e3,Jc,Af,Z,jV]
end
def rV{a L:Da} i:(a++L)[a.length+i]?=L[i]?:=by
 rw[Gb ⋯,show a.length+i - a.length=i by lia]
def J7{a L:Da}:(a++L)[a.length]?=L[0]?:=rV 0
def LU{a L:Da} i x:(a++L).set (a.length+i) x=a++L.set i x:=by
 simp_all
def C5{a L:Da} x:(a++L).set a.length x=a++L.set 0 x:=LU 0 x
section
variable{σ0:Da}
def WW{ρ}{r}{cs}{c}{f}{d}{a}(h:cs.contains c=š)(b:Nat.ble (a.length+1) 1000=š):Ds ρ cs f d (O σ0.length) (σ0++ϓ c a::r)=J (ϙ ρ) (σ0++ϓ c (Mg f d a)::r):=by
 have e:Bw cs f d (O σ0.length) (σ0++ϓ c a::r)=J () (σ0++ϓ c (Mg f d a)::r):=by
  have:(σ0++ϓ c a::r)[σ0.length]?=W1 _:=J7;unfold Bw;simp only[this];rw[ja (by rw[h];simpa using (show a.length<1000 from Oi b)),C5];rfl
 unfold Ds;rw[e]
def iC{d}{c}{f}{b}{r}{a}{k}(h:d.contains c=š)(i:Nat.ble (b.length+1) 1000=š)(j:a.length+1=k):El d f yq (pa 0) (W1 (O σ0.length)::r) (σ0++ϓ c b::a)=J (ϙ$ W1 (O σ0.length)::r) (σ0++ϓ c (Mg f (O$ σ0.length+k) b)::(a++[ύ []])):=by
 rw[SC,dL,Qj,TC,js,Qj];have e:(σ0++ϓ c b::a).length=σ0.length+k:=by rw[Kb,Ua];lia
 have g:(σ0++ϓ c b::a)++[ύ []]=σ0++ϓ c b::(a++[ύ []]):=by simp
 rw[e,g];exact WW h i
def lY{e}{c}{f}{b}{h}{d}{g a}{r}(i:e.contains c=š)(j:Nat.ble (b.length+1) 1000=š)(k:h (W1 (O σ0.length)::r) (σ0++ϓ c b::g)=J d (σ0++ϓ c b::a)):El e f h (pa 0) (W1 (O σ0.length)::r) (σ0++ϓ c b::g)=J (ϙ$ W1 (O σ0.length)::r) (σ0++ϓ c (Mg f d b)::a):=by
 rw[SC,k,Qj,TC,js,Qj,WW i j]
def OH{e}{c}{f}{a}{g}{d}{b}{r}(h:e.contains c=š)(i:Nat.ble (a.length+1) 1000=š)(j:g (W1 (O σ0.length)::r) (σ0++ϓ c a::b)=J d (σ0++ϓ c a::b)):El e f g (pa 0) (W1 (O σ0.length)::r) (σ0++ϓ c a::b)=J (ϙ$ W1 (O σ0.length)::r) (σ0++ϓ c (Mg f d a)::b):=lY h i j
end
def kC{σ}{n c}{a}(h:σ[n]?=W1 (ϓ c a)){cs}{f}{d}(b:cs.contains c=š)(e:a.lookup f=W1 d):Vb cs f (O n) σ=J d σ:=Sh (zx h) b e
def Kg(e:Int)(a b c d:Ob)(A:Da):Da:=ϓ 15 (uu 9 e 0)::a::b::c::d::ύ []::ύ []::A
def oc(m:Pm)(j:Nat):Ob:=ϓ 11 (m.c j 0).fs
def ő{m}(c:m.Ok){j:Nat}(b:j<2) a:Md [U j,U$ 1 - j,U (m.P j).u,U (m.P j).v] a=J (O a.length) (a++[oc m j]):=by
 have f:Il [U (m.P j).u,U (m.P j).v] a=J (m.x j).D a:=WQ (by have:=c.u j b;lia) (by have:=c.v j b;lia) a;have mk:Bj 11 7 Lp [U j,U$ 1 - j,(m.x j).D,Ϛ,ώ [(m.x j).D],ώ []] a=J (O a.length) (a++[oc m j]):=by
  have:=TF (fx (m:=m) b 0) a;rcases gm b with rfl|rfl<;>exact this
 unfold Md BS
 simp_all
section
variable{σ0:Da}(hb:σ0.length=9)
include hb
theorem k9{L} i:(σ0++L)[9+i]?=L[i]?:=by rw[<-hb];exact rV i
theorem s9{L} i x:(σ0++L).set (9+i) x=σ0++L.set i x:=by rw[<-hb];exact LU i x
variable{m:Pm}{j:Nat}(hj:j<2){A:Da}(hA:A[j]?=W1 (oc m j))(k:Ob){X Y Z:Kv}(hX:X.length<=5)(hY:Y.length<=5)(hZ:Z.length<=5)
include hj hA hX hY hZ
theorem ĕ:nB [O 9,O$ 16+j,.gt ["held"],Ϩ [] []] (σ0++Kg m.e k (ύ X) (ύ Y) (ύ Z) A)=J Ϛ (σ0++Kg m.e k (ύ$ Df X (.inl j)$ O$ 16+j) (ύ$ Df Y (.inl j)$ .gt ["held"]) (ύ$ Df Z (.inl j)$ Ϩ [] []) A):=by
 have g:∀ (X Y Z:Ob) (f:Str) (b:dl) (d:D),b.contains 15=š->(uu 9 m.e 0).lookup f=W1 d->Vb b f _ (σ0++Kg m.e k X Y Z A)=J d (σ0++Kg m.e k X Y Z A):=λX Y Z f b d h i=>kC (k9 hb (L:=Kg m.e k X Y Z A) 0) h i;have l:∀ X Y Z,Vb [10,11,12,13] "pot" (O$ 16+j) (σ0++Kg m.e k X Y Z A)=J (U j) (σ0++Kg m.e k X Y Z A):=λX Y Z=>by
  have:=oF (a:=m.c j 0) (n:=16+j) (σ:=σ0++Kg m.e k X Y Z A) (by
   show (σ0++Kg m.e k X Y Z A)[16+j]?=W1 (ϓ (m.c j 0).c (m.c j 0).fs);rw[show 16+j=9+(7+j) by lia,k9 hb];show (Kg m.e k X Y Z A)[7+j]?=_;unfold Kg;rw[show 7+j=j+7 by lia];simp only[List.getElem?_cons_succ];rw[hA];rcases gm hj with rfl|rfl<;>rfl)$ fx hj 0
  rwa [(al hj 0).1]at this
 have s2:∀ (ρ:Ev) (Y Z:Ob),Im ρ (O$ 16+j) (O 11) (U j) (σ0++Kg m.e k (ύ X) Y Z A)=J (ϙ ρ) (σ0++Kg m.e k (ύ$ Df X (.inl j)$ O$ 16+j) Y Z A):=λρ Y Z=>by
  rw[Ur (kvs:=X) (k9 hb (L:=Kg m.e k (ύ X) Y Z A) 2) ⋯,s9 hb 2];rfl
 have o:∀ (ρ:Ev) (X Z:Ob),Im ρ (.gt ["held"]) (O 12) (U j) (σ0++Kg m.e k X (ύ Y) Z A)=J (ϙ ρ) (σ0++Kg m.e k X (ύ$ Df Y (.inl j)$ .gt ["held"]) Z A):=λρ X Z=>by
  rw[Ur (kvs:=Y) (k9 hb (L:=Kg m.e k X (ύ Y) Z A) 3) ⋯,s9 hb 3];rfl
 have p:∀ (ρ:Ev) (X Y:Ob),Im ρ (Ϩ [] []) (O 13) (U j) (σ0++Kg m.e k X Y (ύ Z) A)=J (ϙ ρ) (σ0++Kg m.e k X Y (ύ$ Df Z (.inl j)$ Ϩ [] []) A):=λρ X Y=>by
  rw[Ur (kvs:=Z) (k9 hb (L:=Kg m.e k X Y (ύ Z) A) 4) ⋯,s9 hb 4];rfl
 unfold nB Ue;dsimp only;generalize Df X (.inl (j:Int)) (O$ 16+j)=q,Df Y (.inl (j:Int)) (.gt ["held"])=r,Df Z (.inl (j:Int)) (Ϩ [] [])=s,O (16+j)=R at *;simp[l,(λX Y Z=>g X Y Z "accounts" [15] (O 11) rfl rfl),(λX Y Z=>g X Y Z "claims" [9,15] (O 12) rfl rfl),(λX Y Z=>g X Y Z "seen" [15] (O 13) rfl rfl),s2,o,p]
end
section
variable{m:Pm}(mo:m.Ok){j:Nat}(hj:j<2)
include mo hj
theorem j4{q:Int}(e:q=j)(d:Da):∃ h,(h == 0)=į/\Fb (m.P j).D (U q) d=J (U h) d:=by
 rcases zz mo hj with⟨a,b,c⟩|⟨a,b,c⟩<;>rw[c]at e a b ⊢<;>rw[e]
 ·exact⟨1,by decide,by rw[<-a];exact(Cw _ d).1⟩
 ·exact⟨2,by decide,by rw[<-b];exact(Cw _ d).2⟩
theorem ywq{q:Int}(e:q=1 - (j:Int))(d:Da):Fb (m.P j).D (U q) d=J (U 0) d:=by
 rcases zz mo hj with⟨a,b,c⟩|⟨a,b,c⟩<;>rw[c]at e a b ⊢<;>rw[e]
 ·rw[<-b];exact(Cw _ d).2
 ·rw[<-a];exact(Cw _ d).1
theorem mT{a:Da}(o:a.length=9)(k:Ob){X Y Z:Kv}(u:X.length<=5)(v:Y.length<=5)(w:Z.length<=5){A:Da}(p:A.length=j)(b d s:Option D):qF [W1$ O 9,W1$ U 0,W1$ U m.e,b,d,W1$ U j,W1 (m.P j).D,s] (a++Kg m.e k (ύ X) (ύ Y) (ύ Z) A)=J (ϙ [W1$ O 9,W1$ U 0,W1$ U m.e,b,d,W1$ U j,W1 (m.P j).D,W1$ U 1]) (a++Kg m.e k (ύ$ Df X (.inl j)$ O$ 16+j) (ύ$ Df Y (.inl j)$ .gt ["held"]) (ύ$ Df Z (.inl j)$ Ϩ [] []) (A++[oc m j])):=by
 have r:∀ l (q:Int),q=j->ID [W1$ O 9,W1$ U 0,W1$ U m.e,b,d,W1$ U j,W1 (m.P j).D,W1$ U q] l=J (ϙ [W1$ O 9,W1$ U 0,W1$ U m.e,b,d,W1$ U j,W1 (m.P j).D,W1$ U q]) l:=λl q e=>by
  obtain⟨h,t,i⟩:=j4 mo hj e l;generalize (m.P j).D=Q at *;simp[i,t]
 have f:∀ q:Int,q=1 - (j:Int)->ID [W1$ O 9,W1$ U 0,W1$ U m.e,b,d,W1$ U j,W1 (m.P j).D,W1$ U q] (a++Kg m.e k _ (ύ Y) (ύ Z) A)=J (ϙ [W1$ O 9,W1$ U 0,W1$ U m.e,b,d,W1$ U j,W1 (m.P j).D,W1$ U q]) (a++Kg m.e k (ύ$ Df X (.inl j)$ O$ 16+j) (ύ$ Df Y (.inl j)$ .gt ["held"]) (ύ$ Df Z (.inl j)$ Ϩ [] []) (A++[oc m j])):=λq e=>by
  have i:=ywq mo hj e;have z:=(m.P j).i;have fa:=ő mo hj$ a++Kg m.e k (ύ X) (ύ Y) (ύ Z) A;rw[show (a++Kg m.e k (ύ X) (ύ Y) (ύ Z) A).length=16+j by simp[Kg,o,p];lia,show (a++Kg m.e k (ύ X) (ύ Y) (ύ Z) A)++[oc m j]=a++Kg m.e k (ύ X) (ύ Y) (ύ Z) (A++[oc m j]) by simp[Kg],<-e]at fa;have x:=ĕ o (m:=m) hj (A:=A++[oc m j]) (by rw[Gb ⋯,p];simp) k u v w;have C:∀ g,Ci [(15,nB)] 4 "hold" g (O 9) (a++Kg m.e k (ύ X) (ύ Y) (ύ Z) A)=(g$ a++Kg m.e k (ύ X) (ύ Y) (ύ Z) A).bind (Vg 4 nB$ O 9):=λg=>on (zx$ k9 o (L:=Kg m.e k (ύ X) (ύ Y) (ύ Z) A) 0) rfl rfl;generalize a++Kg m.e k (ύ$ Df X (.inl (j:Int))$ O$ 16+j) (ύ$ Df Y (.inl (j:Int))$ .gt ["held"]) (ύ$ Df Z (.inl (j:Int))$ Ϩ [] []) (A++[oc m j])=F,a++Kg m.e k (ύ X) (ύ Y) (ύ Z) (A++[oc m j])=E,a++Kg m.e k (ύ X) (ύ Y) (ύ Z) A=G at *;generalize (m.P j).D=Q at *;simp[i,z,fa,C,x]
 show Zl _ (Cc 7) ID _ _=_;rcases zz mo hj with⟨_,_,c⟩|⟨_,_,c⟩
 ·have y:=f 1 (by rw[c];rfl);have n:=r (a++Kg m.e k (ύ X) (ύ Y) (ύ Z) A) 0 (by rw[c];rfl);generalize ID=B at *;simp[tz,y,n]
 ·have y:=f 0 (by rw[c];rfl);have n:=r (a++Kg m.e k (ύ$ Df X (.inl (j:Int))$ O$ 16+j) (ύ$ Df Y (.inl (j:Int))$ .gt ["held"]) (ύ$ Df Z (.inl (j:Int))$ Ϩ [] []) (A++[oc m j])) 1 (by rw[c];rfl);generalize ID=B at *;simp[tz,y,n]
end
def o0{m}(d:m.Ok) c:Gh [U 0,U m.e,PL m] c=J Ϛ c:=by
 have p:=d.e;have st:∀ (j:Nat),j<2->XJ [W1$ U 0,W1$ U m.e,W1$ PL m,W1 (m.P j).D] c=J (ϙ [W1$ U 0,W1$ U m.e,W1$ PL m,W1 (m.P j).D]) c:=λj f=>by
  have p4:=((m.P j).i c).2.2;have k:=tM (m.P j) c;obtain⟨B,i⟩:∃ B,YC į (U 0) (ϐ [U (m.P j).l,U (m.P j).r]) c=J (Ϗ B) c:=⟨_,Ť (ws:=[(m.P j).l,(m.P j).r]) rfl⟩
  have h:decide ((m.P j).w<m.e+1)=į:=pb (by have:=d.w j f;lia);generalize (m.P j).D=o,PL m=L at *;cases B<;>simp[p4,k,i,h]
 have s1:=st 1 ⋯;have n:Kx (PL m) c=J (.seq [(m.P 0).D,(m.P 1).D]) c:=RQ _;have g:qk (Cc 3) XJ [(m.P 0).D,(m.P 1).D] [W1$ U 0,W1$ U m.e,W1$ PL m,ŋ] c=J (ϙ [W1$ U 0,W1$ U m.e,W1$ PL m,W1 (m.P 1).D]) c:=by
  rw[tz];simp only[Be,uf];rw[(st 0$ by lia),Jc,Wj,tz];simp only[Be,uf];rw[s1,Jc,Wj,VO]
 unfold Gh qV qc;dsimp only;generalize XJ=B,[(m.P 0).D,(m.P 1).D]=TT,PL m=L at *;simp[(bt (i:=m.e) (a:=1) (b:=50) ⋯ c),n,g]
def Kz(m:Pm):Da:=Kg m.e (ύ []) (ύ [(.inl 0,O 16),(.inl 1,O 17)]) (ύ [(.inl 0,.gt ["held"]),(.inl 1,.gt ["held"])]) (ύ [(.inl 0,Ϩ [] []),(.inl 1,Ϩ [] [])]) [oc m 0,oc m 1]
def Τ{m}(h:m.Ok){σ0}(a:σ0.length=9):Bj 15 5 gp [U 0,U m.e,PL m,ώ []] σ0=J (O 9) (σ0++Kz m):=by
 have r:=o0 h$ σ0++[ϓ 15 []];have n:ou [O 9,ώ []] (σ0++Kg m.e (ύ []) (ύ []) (ύ []) (ύ []) [])=J Ϛ (σ0++Kg m.e (ύ []) (ύ []) (ύ []) (ύ []) []):=by
  have:=cT (b:=9) (fs:=uu 9 m.e 0) (K:=[]) (ws:=[]) (k9 a (L:=Kg m.e (ύ []) (ύ []) (ύ []) (ύ []) []) 0) rfl (k9 a (L:=Kg m.e (ύ []) (ύ []) (ύ []) (ύ []) []) 1) ⋯
  rwa [show (σ0++Kg m.e (ύ []) (ύ []) (ύ []) (ύ []) []).set (9+1) (ύ$ zm$ ([]:dd).foldl Dn [])=σ0++Kg m.e (ύ []) (ύ []) (ύ []) (ύ []) []from bF (k9 a (L:=Kg m.e (ύ []) (ύ []) (ύ []) (ύ []) []) 1)]at this
 have ml:∀ g,Ci [(15,ou)] 2 "learn" g (O 9) (σ0++Kg m.e (ύ []) (ύ []) (ύ []) (ύ []) [])=(g$ σ0++Kg m.e (ύ []) (ύ []) (ύ []) (ύ []) []).bind (Vg 2 ou$ O 9):=λg=>on (zx$ k9 a (L:=Kg m.e (ύ []) (ύ []) (ύ []) (ύ []) []) 0) rfl rfl;have p:=mT h (j:=0) ⋯ a (ύ []) (X:=[]) (Y:=[]) (Z:=[]) ⋯ ⋯ ⋯ (A:=[]) rfl (W1$ PL m) (W1$ ώ []) ŋ;have q:=mT h (j:=1) ⋯ a (ύ []) (X:=[(.inl 0,O 16)]) (Y:=[(.inl 0,.gt ["held"])]) (Z:=[(.inl 0,Ϩ [] [])]) ⋯ ⋯ ⋯ (A:=[oc m 0]) rfl (W1$ PL m) (W1$ ώ [])$ W1$ U 1;have l:∀ c,jz (PL m) c=J (iq$ PL m) c:=λc=>GP (xs:=[(m.P 0).D,(m.P 1).D]) rfl;have o:Kk (Bx$ pa 3) (vj 2$ Nf (Cc 5)$ Nf (Cc 6) Lj) qF [W1$ O 9,W1$ U 0,W1$ U m.e,W1$ PL m,W1$ ώ [],ŋ,ŋ,ŋ] (σ0++Kg m.e (ύ []) (ύ []) (ύ []) (ύ []) [])=J (ϙ [W1$ O 9,W1$ U 0,W1$ U m.e,W1$ PL m,W1$ ώ [],W1$ U 1,W1 (m.P 1).D,W1$ U 1]) (σ0++Kz m):=by
  have s:Bx (pa 3) [W1$ O 9,W1$ U 0,W1$ U m.e,W1$ PL m,W1$ ώ [],ŋ,ŋ,ŋ] (σ0++Kg m.e (ύ []) (ύ []) (ύ []) (ύ []) [])=J (iq$ PL m) (σ0++Kg m.e (ύ []) (ύ []) (ύ []) (ύ []) []):=by
   generalize PL m=L at *;simp[l]
  rw[wt,s,Qj];show Do (iq$ PL m) _ qF 1001 0 _ _=_;rw[mq (k:=1000) (pC (x:=PL m) (xs:=[(m.P 0).D,(m.P 1).D]) (i:=0) rfl rfl) (ρ1:=[W1$ O 9,W1$ U 0,W1$ U m.e,W1$ PL m,W1$ ώ [],W1$ U (0:Nat),W1 (m.P 0).D,ŋ]) rfl,p,Jc,Wj];rw[mq (k:=999) (pC (x:=PL m) (xs:=[(m.P 0).D,(m.P 1).D]) (i:=1) rfl rfl) (ρ1:=[W1$ O 9,W1$ U 0,W1$ U m.e,W1$ PL m,W1$ ώ [],W1$ U (1:Nat),W1 (m.P 1).D,W1$ U 1]) rfl];show (qF _$ σ0++Kg m.e (ύ []) (ύ [(.inl 0,O 16)]) (ύ [(.inl 0,.gt ["held"])]) (ύ [(.inl 0,Ϩ [] [])]) [oc m 0]).bind _=_;rw[q,Jc,Wj];exact Wx (k:=998)$ HP (x:=PL m) (xs:=[(m.P 0).D,(m.P 1).D]) rfl
 generalize σ0++Kz m=W at *;rw[aO];have f:gp [O σ0.length,U 0,U m.e,PL m,ώ []] (σ0++[ϓ 15 []])=J Ϛ W:=by
  unfold gp kT
  (try dsimp only);rw[Vp,fw]
  show Tn (Lb _ _ [W1$ O σ0.length,W1$ U 0,W1$ U m.e,W1$ PL m,W1$ ώ [],ŋ,ŋ,ŋ]$ σ0++[ϓ 15 []])=_;generalize PL m=L at *;rw[Bf];simp -implicitDefEqProofs only[cZ,RK,ED,xC,js,Jc,zG,bC,JE,å,r,Qj,TR,Af];rw[Bf,OH (d:=U 0) rfl rfl ⋯,Jc,Af];rw[Bf,OH (d:=U m.e) rfl rfl ⋯,Jc,Af];rw[Bf,OH (d:=U 0) rfl rfl ⋯,Jc,Af];rw[Bf,OH (d:=U 0) rfl rfl ⋯,Jc,Af];rw[Bf,iC (k:=1) rfl rfl rfl,Jc,Af];rw[Bf,iC (k:=2) rfl rfl rfl,Jc,Af];rw[Bf,iC (k:=3) rfl rfl rfl,Jc,Af];rw[Bf,iC (k:=4) rfl rfl rfl,Jc,Af];rw[Bf,iC (k:=5) rfl rfl rfl,Jc,Af];rw[Bf,iC (k:=6) rfl rfl rfl,Jc,Af,a];show Tn (Lb _ _ [W1$ O 9,W1$ U 0,W1$ U m.e,W1 L,W1$ ώ [],ŋ,ŋ,ŋ]$ σ0++Kg m.e (ύ []) (ύ []) (ύ []) (ύ []) [])=_;generalize σ0++Kg m.e (ύ []) (ύ []) (ύ []) (ύ []) []=Y at *;rw[Bf];have t:Pv (eT$ Eb Zr (pa 4)$ eC Ϛ) (Fn Za) (pa 4) [W1$ O 9,W1$ U 0,W1$ U m.e,W1 L,W1$ ώ [],ŋ,ŋ,ŋ] Y=J (ώ []) Y:=by
   have i:∀ c,Zr (ώ []) Ϛ c=J (Ϗ į) c:=λc=>nr rfl;simp[i]
  simp -implicitDefEqProofs only[cZ,OT,js,Jc,ml,ED,t,zG,bC,JE,Q9,n,Qj,TR,Af];rw[o,BO]
 rw[f,Zy,a]
def Wd:D:=Ϩ [.inl 0] [U 2]
def ŷ a:dj [U 0,Wd] a=J (ώ []) a:=by
 have Xg:uk (gq$ pa 1) [0] (vj 2$ Nf (Cc 0)$ Nf (Cc 1) Lj) (eT$ Eb Zi (pa 1)$ pa 2) (pa 0) [W1$ U 0,W1 Wd] a=J (O a.length) (a++[ϑ []]):=by
  have c:gq (pa 1) [W1$ U 0,W1 Wd] a=J (Kq [(.inl 0,U 2)]) a:=by
   show rc _ wC a=_;rw[fj,show pa 1 [W1 _,W1 Wd] a=J Wd a from rfl,Jc];rfl
  show rc _ (pL _ _ (pa 0)$ Uz [0] _) a=_;rw[fj,c,Jc];show rc (Si _ a.length _ (eT$ Eb Zi (pa 1)$ pa 2) (pa 0) 1001 0 [ŋ,ŋ,W1$ U 0]) _ (a++[ϑ []])=_;rw[fj,YM (xs:=[(0:Int)]) (λg=>True) (λw=>ϐ [U w,U 2]) (λw=>U w) (λw=>W1$ U 2) (λw=>į) (λw=>U w) (λi j b=>by
   match i with
   |0=>rfl
   |1=>rfl
   |i+2=>simp at b) (λx o f g=>⟨rfl,trivial⟩) (λx e j=>⟨by simp,λh=>by cases h⟩) ⋯ 1001 0 ŋ ŋ [] trivial ⋯ ⋯ ⋯,Jc]
  rfl
 have d:Mi (TH (pa 1)$ uk (gq$ pa 1) [0] (vj 2$ Nf (Cc 0)$ Nf (Cc 1) Lj) (eT$ Eb Zi (pa 1)$ pa 2)$ pa 0) [W1$ U 0,W1 Wd] a=J (ώ []) a:=by
  rw[Bo,show TH (pa 1) _ [W1$ U 0,W1 Wd] a=uk (gq$ pa 1) [0] (vj 2$ Nf (Cc 0)$ Nf (Cc 1) Lj) (eT$ Eb Zi (pa 1)$ pa 2) (pa 0) [W1$ U 0,W1 Wd] a from rfl,Xg];exact xz rfl
 unfold dj qc;dsimp only;generalize Wd=W at *;simp[d,-Bo]
def G0{p:Pt}(h:p.Ok)(g:0<=p.l/\p.l<=3)(k:0<=p.r/\p.r<=3)(j:p.l≠p.r)(m:1<=p.w/\p.w<=100) σ:pd [p.D] σ=J (Ϗ š) σ:=by
 have hd:∀ {i:Int},0<=i/\i<=3->qh [U i] σ=J (Ϗ š) σ:=fun {i} f=>by
  have b:=bt f σ;unfold qh qc;simp[b]
 have o:Ki (U p.l) (U p.r) σ=J _ σ:=aI (b:=į) (by show W1 (p.l == p.r)=_;simp[j]);have n:∀ a b c d e:D,Fb (ϐ [a,b,c,d,e]) _ σ=J e σ:=λa b c d e=>jL ..;unfold pd Pt.D qc;simp -implicitDefEqProofs [(hd g),(hd k),(bt h.u σ),(bt h.v σ),(bt m σ),o,n]
def yqw a:ig a (xG (ώ [U 0]) a)=J (ώ [U 0]) a:=by
 have e:xG (ώ [U 0]) a=J (O a.length) (a++[ϑ [U 0]]):=nr rfl;rw[e];exact xz ⋯
theorem IW a b c d:lB a b c d=(b c d).bind (II a):=nr rfl
theorem xR a b c:II a b c=J (b++a) c:=nr rfl
def D7 w:∃ k,Qp [ϒ "word",U w]=W1 k:=mE λd hd=>by
 rcases La.mp hd with rfl|hd
 ·exact gO ..
 ·obtain rfl:=Qb.mp hd;exact lA ..
def HS(m:Pm)(k:Kv)(T:List TK)(r:Da):Da:=ϓ 16 (rJ m)::(pq 1 m.P++(ύ k::ϑ []::.Ie T::r))
def Í{m}{r} c d f h i j:∃ T,DE [W1$ O 0,c,d,f,h,i,j,W1$ U 0,W1$ U 2] (HS m k0 [] r)=J (ϙ [W1$ O 0,c,d,f,h,i,j,W1$ U 0,W1$ U 2]) (HS m k0 T r)/\T.length<=1/\XB T [ϒ "word",U 0]:=by
 have n:Vb [16] "keepers" (O 0) _=J _ (HS m k0 [] r):=kC rfl rfl rfl;have p:Vb [16] "things" (O 0) _=J _ (HS m k0 [] r):=kC rfl rfl rfl;have l:Rf (HS m k0 [] r) (O 6)=W1 k0:=rfl;obtain⟨k,b⟩:=D7 0;refine⟨yn [] k,?_,by unfold yn;split<;>simp,⟨k,b,GV.mpr$ ϕ rfl⟩⟩;have o:Zo (U 2) (O 6) (HS m k0 [] r)=J (Ϗ š) (HS m k0 [] r):=by
  unfold Zo;simp only[Lq,l];rfl
 have st:∀ a,LA a (O 8) (ϐ [ϒ "word",U 0]) (HS m k0 [] r)=J (ϙ a) (HS m k0 _ r):=λa=>by
  have g:(HS m k0 [] r)[8]?=W1 _:=rfl;have e:HS m k0 (yn [] k) r=(HS m k0 [] r).set 8 (.Ie$ yn [] k):=rfl;rw[e];unfold LA;simp[b,g,Yf]
 generalize HS m k0 (yn [] k) r=Z,HS m k0 [] r=Y at *;simp[n,p,o,st]
def DC{b}{c}{f}{a}{g}{d}{e ds'}{r}(h:b.contains c=š)(i:Nat.ble (a.length+1) 1000=š)(j:g (W1 (O 0)::r) (ϓ c a::e)=J d (ϓ c a::ds')):El b f g (pa 0) (W1 (O 0)::r) (ϓ c a::e)=J (ϙ$ W1 (O 0)::r) (ϓ c (Mg f d a)::ds'):=lY (σ0:=[]) h i j
def ï{m:Pm}(l:m.Ok):∃ T,Bj 16 5 zo [PL m,ώ [U 0],U m.e,Wd] []=J (O 0) (HS m k0 T$ Kz m)/\T.length<=1/\XB T [ϒ "word",U 0]:=by
 obtain⟨T,A,y,j⟩:=Í (m:=m) (r:=Kz m) (W1$ PL m) (W1$ ώ [U 0]) (W1$ U m.e) (W1 Wd) (W1 Wd) (W1$ U 0);refine⟨T,?_,y,j⟩;have n:∀ i,i<2->∀ σ,pd [(m.P i).D] σ=J (Ϗ š) σ:=λi j σ=>by
  have S:=l.u i j;have ϊ:=l.v i j;have V:=l.w i j;have R:=l.e;rcases zz l j with⟨a,b,_⟩|⟨a,b,_⟩<;>exact G0 ⟨by lia,by lia⟩ ⋯ ⋯ ⋯ ⋯ σ
 have bk:=(RX (M0:=[ϓ 16 []]) (c:=1) rfl n).1;have bk:Bj 9 2 Ky [PL m] [ϓ 16 []]=J (O 1) (ϓ 16 []::pq 1 m.P):=bk;have K:=ŷ$ HS m [] [] [];have p:=Τ l (σ0:=HS m [] [] []) rfl;have F:=yqw;have p:Bj 15 5 gp [U 0,U m.e,PL m,ώ []] (HS m [] [] [])=J (O 9) (HS m [] []$ Kz m):=p;rw[aO];have z:∀ q s,gT [W1$ O 0,W1$ PL m,W1$ ώ [U 0],W1$ U m.e,W1 Wd,W1 Wd,W1$ U 0,q,s] (HS m [] [] [])=J (ϙ [W1$ O 0,W1$ PL m,W1$ ώ [U 0],W1$ U m.e,W1 Wd,W1 Wd,W1$ U 0,q,s]) (HS m k0 []$ Kz m):=λq s=>by
  have pl:Vb [9,14,16] "pots" (O 0) (HS m [] [] [])=J (PL m) (HS m [] [] []):=kC rfl rfl rfl;have B:Vb [16] "keepers" (O 0) (HS m [] []$ Kz m)=J (O 6) (HS m [] []$ Kz m):=kC rfl rfl rfl;have st:∀ ρ,Im ρ (O 9) (O 6) (U 0) (HS m [] []$ Kz m)=J (ϙ ρ) (HS m k0 []$ Kz m):=λρ=>by
   rw[Ur (kvs:=[]) rfl ⋯];rfl
  generalize HS m k0 [] (Kz m)=Q,HS m [] [] (Kz m)=ϋ,HS m [] [] []=Y at *;generalize PL m=N,Wd=W at *;simp only[T0,lS,IW,ED,xC,js,Jc,zG,ZL,pl,RK,bC,JE,ñ,K,xR,be,p,Qj,zpr,B,l6,st]
 have o:zo [O 0,PL m,ώ [U 0],U m.e,Wd] [ϓ 16 []]=J Ϛ (HS m k0 T$ Kz m):=by
  unfold zo tR
  (try dsimp only);rw[Vp,fw]
  have t:∀ e,pp 9 2 Ky (Ba (pa 1) Za) (W1 (O 0)::W1 (PL m)::e) (ϓ 16 []::[])=J (O 1) (ϓ 16 []::pq 1 m.P):=λe=>by
   generalize PL m=L,ϓ 16 []::pq 1 m.P=Z at *;simp only[lS,ED,xC,js,Jc,zG,bC,JE];exact bk
  show Tn (Lb _ _ [W1$ O 0,W1$ PL m,W1$ ώ [U 0],W1$ U m.e,W1 Wd,ŋ,ŋ,ŋ,ŋ]$ ϓ 16 []::[])=_;rw[Bf,DC (d:=O 1) (ds':=pq 1 m.P) rfl rfl$ t _,Jc,Af];rw[Bf,DC (d:=PL m) (ds':=pq 1 m.P) rfl rfl (by
   have x:Vb [16] "public" (O 0) (ϓ 16 (Mg "public" (O 1) [])::pq 1 m.P)=J (O 1) (ϓ 16 (Mg "public" (O 1) [])::pq 1 m.P):=kC rfl rfl rfl;have b:bj 1 m.P ⟨0,λX=>.held,λX=>[]⟩$ ϓ 16 (Mg "public" (O 1) [])::pq 1 m.P:=(RX (M0:=[ϓ 16$ Mg "public" (O 1) []]) (c:=1) rfl n).2;have C:Gs [O 1] _=J (PL m) _:=jN b;have E:=wm b "made_of" 1 Gs;simp only[OT,ZL,js,Jc,x,E,bC,k8,C]),Jc,Af]
  rw[Bf,DC (d:=U m.e) (ds':=pq 1 m.P) rfl rfl (by simp only[xC,js]),Jc,Af];rw[Bf,DC (d:=O 6) (ds':=pq 1 m.P++[ύ []]) rfl rfl rfl,Jc,Af];rw[Bf,DC (d:=O 7) (ds':=pq 1 m.P++[ύ [],ϑ []]) rfl rfl rfl,Jc,Af];rw[Bf,DC (d:=O 8) (ds':=pq 1 m.P++[ύ [],ϑ [],.Ie []]) rfl rfl rfl,Jc,Af];show Tn (Lb _ _ [W1$ O 0,W1$ PL m,W1$ ώ [U 0],W1$ U m.e,W1 Wd,ŋ,ŋ,ŋ,ŋ]$ HS m [] [] [])=_;have ow:∀ Y,Pv (eT$ Eb Zr (pa 4)$ eC Ϛ) (eC$ Ϩ [] []) (pa 4) [W1$ O 0,W1$ PL m,W1$ ώ [U 0],W1$ U m.e,W1 Wd,ŋ,ŋ,ŋ,ŋ] Y=J Wd Y:=λY=>by
   have i:∀ σ,Zr Wd Ϛ σ=J (Ϗ į) σ:=λσ=>nr rfl;simp[i]
  rw[Bf,À,ow,Qj,o9,Jc,Af];show Tn (Lb _ _ [W1$ O 0,W1$ PL m,W1$ ώ [U 0],W1$ U m.e,W1 Wd,W1 Wd,ŋ,ŋ,ŋ]$ HS m [] [] [])=_;rw[Bf,pM,UH,Bo,ZL];simp only[xC,js,Jc,F,RQ,Qj,EK];rw[tz];simp only[Be,uf];rw[z,Jc,Wj,VO,Jc,Af];have H:gq (pa 5) [W1$ O 0,W1$ PL m,W1$ ώ [U 0],W1$ U m.e,W1 Wd,W1 Wd,W1$ U 0,ŋ,ŋ] (HS m k0 []$ Kz m)=J (Kq [(.inl 0,U 2)]) (HS m k0 []$ Kz m):=by
   show rc _ wC _=_;rw[fj,show pa 5 [W1$ O 0,W1$ PL m,W1$ ώ [U 0],W1$ U m.e,W1 Wd,W1 Wd,W1$ U 0,ŋ,ŋ] _=J Wd _ from rfl,Jc];rfl
  have I:ur (pa 5) (Kk (gq$ pa 5) (vj 2$ Nf (Cc 7)$ Nf (Cc 8) Lj) DE) [W1$ O 0,W1$ PL m,W1$ ώ [U 0],W1$ U m.e,W1 Wd,W1 Wd,W1$ U 0,ŋ,ŋ] (HS m k0 []$ Kz m)=J (ϙ [W1$ O 0,W1$ PL m,W1$ ώ [U 0],W1$ U m.e,W1 Wd,W1 Wd,W1$ U 0,W1$ U 0,W1$ U 2]) (HS m k0 T$ Kz m):=by
   have ό:∀ (G:Ev->M Fl) (a b c d e f g h:Option D) (σ:Da),ur (pa 5) G [a,b,c,d,e,W1 Wd,f,g,h] σ=G [a,b,c,d,e,W1 Wd,f,g,h] σ:=λG a b c d e f g h σ=>by
    show ax xJ _ _ σ=_;unfold ax;rw[show pa 5 [a,b,c,d,e,W1 Wd,f,g,h] σ=J Wd σ from rfl];rfl
   rw[ό,wt,H,Qj];show Do (Kq [(.inl 0,U 2)]) _ DE 1001 0 _ _=_;rw[mq (k:=1000) (d:=ϐ [U 0,U 2]) rfl rfl];show (DE [W1$ O 0,W1$ PL m,W1$ ώ [U 0],W1$ U m.e,W1 Wd,W1 Wd,W1$ U 0,W1$ U 0,W1$ U 2] _).bind _=_;rw[A,Jc,Wj];exact Wx (k:=999) rfl
  rw[I,BO]
 show Xx 0 (zo [O 0,PL m,ώ [U 0],U m.e,Wd] [ϓ 16 []])=_;rw[o,Zy]
def jd(a:dd)(k:Nat):Int:=a.getD k 0
def Yw a k(c:0<=k) b:Oa [ϭ a,U k] b=J (U$ jd a k.toNat) b:=by
 unfold Oa jd qc;by_cases h:k<a.length
 ·simp[h,zw8 c h]
 ·have e:a.length<=k.toNat:=by lia
  simp[h,Hi e]
def Rh(c:Int):Int:=if c % 2=0 then 1+c / 2 % 20 else 1+c / 2 % 1000000000000
def KJ c:1<=Rh c/\Rh c<=1000000000000:=by
 unfold Rh;split<;>lia
def Y6 c a:Pg [U c] a=J (U$ Rh c) a:=by
 unfold Pg Rh qc;rcases(show c % 2=0\/c % 2=1 by lia)with e|e<;>simp[e]
structure Nm where
 (e w d c0 c1 c2 c3 l u a q:Int)
def nm(f:dd):Nm:=
 let n:=jd f;let e:=1+n 0 % 4;let d:=n 7 % 12;let b:=Rh$ n 1;let c:=Rh$ n 3;let l:=d+n 5 % 15 - 2;let u:=if n 6 % 3 > 0 then l+e+n 6 / 3 % 3 - 1 else d+n 6 / 3 % 25;let a:=1+n 8 / 3 % min c b;let q:=if n 8 % 3 > 0 then min b (max 1$ a+n 9 % 3 - 1)else 1+n 9 % b
 ⟨e,e+1+n 0 / 4 % 3,d,b,Rh$ n 2,c,Rh$ n 4,l,u,a,q⟩
structure Nm.Ok(x:Nm):Prop where
 e:1<=x.e/\x.e<=4
 w:x.e+1<=x.w/\x.w<=x.e+3
 d:0<=x.d/\x.d<=11
 c0:1<=x.c0/\x.c0<=1000000000000
 c1:1<=x.c1/\x.c1<=1000000000000
 c2:1<=x.c2/\x.c2<=1000000000000
 c3:1<=x.c3/\x.c3<=1000000000000
 l:x.l<=90
 u:x.u<=90
 a:1<=x.a/\x.a<=x.c2/\x.a<=x.c0
 q:1<=x.q/\x.q<=x.c0
def RO a:(nm a).Ok:=by
 have b:=KJ$ jd a 1;have c:=KJ$ jd a 2;have e:=KJ$ jd a 3;have f:=KJ$ jd a 4;have d:0<=jd a 7 % 12/\jd a 7 % 12<=11:=by lia
 have l:jd a 7 % 12+jd a 5 % 15 - 2<=23:=by lia
 have g:=Oz (jd a 8 / 3) (show min (Rh$ jd a 3) (Rh$ jd a 1)≠0 by lia);have h:=Bv (jd a 8 / 3) (show 0<min (Rh$ jd a 3) (Rh$ jd a 1) by lia);have i:=Oz (jd a 9) (show Rh (jd a 1)≠0 by lia);have j:=Bv (jd a 9) (show 0<Rh (jd a 1) by lia);refine⟨?_,?_,d,b,c,e,f,by show jd a 7 % 12+jd a 5 % 15 - 2<=90;lia,?_,?_,?_⟩
 ·show 1<=1+jd a 0 % 4/\1+jd a 0 % 4<=4;lia
 ·show 1+jd a 0 % 4+1<=1+jd a 0 % 4+1+jd a 0 / 4 % 3/\1+jd a 0 % 4+1+jd a 0 / 4 % 3<=1+jd a 0 % 4+3;lia
 ·show (if jd a 6 % 3 > 0 then jd a 7 % 12+jd a 5 % 15 - 2+(1+jd a 0 % 4)+jd a 6 / 3 % 3 - 1 else jd a 7 % 12+jd a 6 / 3 % 25)<=90;split<;>lia
 ·show 1<=1+jd a 8 / 3 % min (Rh$ jd a 3) (Rh$ jd a 1)/\1+jd a 8 / 3 % min (Rh$ jd a 3) (Rh$ jd a 1)<=Rh (jd a 3)/\1+jd a 8 / 3 % min (Rh$ jd a 3) (Rh$ jd a 1)<=Rh (jd a 1);generalize jd a 8 / 3 % min (Rh$ jd a 3) (Rh$ jd a 1)=r at *
  lia
 ·show 1<=(if jd a 8 % 3 > 0 then min (Rh$ jd a 1) (max 1$ 1+jd a 8 / 3 % min (Rh$ jd a 3) (Rh$ jd a 1)+jd a 9 % 3 - 1)else 1+jd a 9 % Rh (jd a 1))/\(if jd a 8 % 3 > 0 then min (Rh$ jd a 1) (max 1$ 1+jd a 8 / 3 % min (Rh$ jd a 3) (Rh$ jd a 1)+jd a 9 % 3 - 1)else 1+jd a 9 % Rh (jd a 1))<=Rh (jd a 1);generalize jd a 9 % Rh (jd a 1)=r,jd a 8 / 3 % min (Rh$ jd a 3) (Rh$ jd a 1)=k at *;split<;>lia
def pm(x:Nm):Pm:=⟨x.e,pk ⟨1,0,x.c0,x.c1,x.w⟩ ⟨0,2,x.c2,x.c3,x.w⟩ ⟨0,0,0,0,0⟩,pk ⟨0,x.q,0,max 0 x.u⟩ ⟨0,x.a,0,max 0 x.l⟩ ⟨0,0,0,0⟩⟩
def NY{x}(h:x.Ok):(pm x).Ok:=by
 obtain⟨e,w,d,c,f,g,i,l,u,a,q⟩:=h;refine⟨e,λj b=>?_,λj b=>?_,λj b=>?_,⟨rfl,rfl,rfl,rfl⟩,λj b=>?_⟩<;>rcases gm b with rfl|rfl
 ·exact c
 ·exact g
 ·exact f
 ·exact i
 ·exact⟨⟨ϔ rfl,by show 1<=x.q/\x.q<=_;lia,by show 0<=0/\(0:Int)<=59;decide,by show 0<=max 0 x.u/\max 0 x.u<=_;lia⟩,rfl,rfl,q.2⟩
 ·exact⟨⟨ϔ rfl,by show 1<=x.a/\x.a<=_;lia,by show 0<=0/\0<=59;decide,by show 0<=max 0 x.l/\max 0 x.l<=_;lia⟩,rfl,rfl,a.2.1⟩
 ·exact w
 ·exact w
def R0:Rq:=⟨0,0,į,.hd,ŋ,ŋ,ŋ,į⟩
def L0(m:Pm)(T:List TK):Lk:={ e:=m.e,y:=0,K:=[],n:=λj=>16+j,a:=λj=>m.c j 0,C:=λb=>.gt ["held"],E:=λb=>Ϩ [] [],F:=[],xx:=XX m T į }
theorem y2{m}(h:m.Ok) T:Qs m (λi=>0) T R0 (L0 m T)$ HS m k0 T$ Kz m:=by
 have k:=h.e;refine⟨⟨⟨rfl,rfl,rfl,rfl,rfl,rfl,λr o e=>?_,λj b=>?_⟩,⟨rfl,rfl,rfl,λi g=>?_⟩,rfl,rfl,λi i=>rfl,λj b=>by show 15<16+j;lia,rfl,rfl,rfl⟩,⟨λi i=>ϔ rfl,λi i=>ϔ rfl,rfl⟩,⟨⟨rfl,rfl,rfl,rfl,rfl,rfl⟩,by show (0:Int)<=0/\0<=0+m.e;lia⟩⟩
 ·have e:XX m T į r=W1 o:=e;unfold XX at e;by_cases c:r=0
  ·subst c;exact⟨by lia,e⟩
  ·by_cases d:r=6
   ·subst d;exact⟨by lia,e⟩
   ·by_cases f:r=8
    ·subst f;exact⟨by lia,e⟩
    ·by_cases a:r=14
     ·subst a;exact⟨by lia,e⟩
     ·simp[c,d,f,a]at e
 ·refine⟨?_,fx b 0⟩;rcases gm b with rfl|rfl<;>rfl
 ·rcases gm g with rfl|rfl<;>rfl
theorem Q6 ρ σ:Mi (cJ [.inl 0]$ Ba (eC$ U 2) Za) ρ σ=J Wd σ:=by
 have d:cJ [.inl 0] (Ba (eC$ U 2) Za) ρ σ=J (O σ.length) (σ++[ύ [(.inl 0,U 2)]]):=by
  show rc _ _ _=_;simp[ED,WP,Jc];unfold cM;have e:(σ++[ύ []])[σ.length]?=W1 (ύ []):=by simp
  simp only[e];rw[ja ⋯,QA];rfl
 rw[Bo,d];unfold ig;dsimp only;rw[ja ⋯,eJ (j:=[]) (m:=5) ⋯];rfl
def Cs(x:Nm):D:=ώ [U x.c0,U x.c1,U x.c2,U x.c3]
def eE(g:dd)(x:Nm)(h i j k l a b c d f:Option D):Ev:=[W1$ ϭ g,W1$ U x.e,W1$ Cs x,W1$ U x.w,W1$ O 0,h,i,j,k,l,a,b,c,d,f]
def ā b:∃ T,T.length<=1/\XB T [ϒ "word",U 0]/\∀ G:Ev->M Fl,Lb u1 (Lb u2$ Lb u3$ Lb u4 G) [W1$ ϭ b,ŋ,ŋ,ŋ,ŋ,ŋ,ŋ,ŋ,ŋ,ŋ,ŋ,ŋ,ŋ,ŋ,ŋ] []=G (eE b (nm b) ŋ ŋ ŋ ŋ ŋ ŋ ŋ ŋ ŋ ŋ) (HS (pm$ nm b) k0 T$ Kz$ pm$ nm b):=by
 have A:=NY$ RO b;obtain⟨T,mk,v,z⟩:=ï A;refine⟨T,v,z,λG=>?_⟩;have n:∀ c,Oa [ϭ b,U 0] c=J _ c:=λc=>Yw b 0 ⋯ c;have p:∀ d,u2 [W1$ ϭ b,d,ŋ,ŋ,ŋ,ŋ,ŋ,ŋ,ŋ,ŋ,ŋ,ŋ,ŋ,ŋ,ŋ] []=J (ϙ [W1$ ϭ b,d,W1$ Cs _,ŋ,ŋ,ŋ,ŋ,ŋ,ŋ,ŋ,ŋ,ŋ,ŋ,ŋ,ŋ]) []:=λd=>by
  have B:∀ c,dJ (U 1) (U 5) c=J (.seq [U 1,U 2,U 3,U 4]) c:=λc=>by
   unfold dJ;dsimp only;rw[ja (by simp only[uw,Vp,Ca,Bb];lia)];rfl
  have e:∀ (f g:Ev->M D) h c,dI f g h c=(f h c).bind _:=λf g h c=>fj ..;have u:∀ (m:M D) a c,TQ m a c=(m c).bind _:=λm a c=>fj ..;have l:=Bt (xs:=[1,2,3,4]) (s:=.seq [U 1,U 2,U 3,U 4]) (src:=dI (eC$ U 1)$ eC$ U 5) (ix:=[0]) (ρ:=[W1$ ϭ b,d,ŋ,ŋ,ŋ,ŋ,ŋ,ŋ,ŋ,ŋ,ŋ,ŋ,ŋ,ŋ,ŋ]) (σ:=[]) (fe:=we 1 Pg []$ Ba (we 2 Oa []$ Ba (pa 2)$ Ba (pa 0) Za) Za) (λ(k:Nat)=>U k) (λk=>U$ Rh$ jd b k) (by simp[e,u,B]) (λi F=>eb W1$ dr [1,2,3,4] (λ(k:Nat)=>U k) i) ⋯ (λk F j=>by
   have t:Oa [ϭ b,U k] j=J (U$ jd b k) j:=by
    have:=Yw b k ⋯ j
    rwa [Int.toNat_natCast]at this
   simp[t,Y6]) (λF F=>rfl)
  have l:_=J (Cs$ nm b) []:=l;generalize Cs (nm b)=C at *;simp[l,-Bo]
 have r:u4 [W1$ ϭ b,W1$ U (nm b).e,W1$ Cs$ nm b,W1$ U (nm b).w,ŋ,ŋ,ŋ,ŋ,ŋ,ŋ,ŋ,ŋ,ŋ,ŋ,ŋ] []=J (ϙ$ eE b (nm b) ŋ ŋ ŋ ŋ ŋ ŋ ŋ ŋ ŋ ŋ) (HS (pm$ nm b) k0 T$ Kz$ pm$ nm b):=by
  have l1:∀ x c,Wv [x] c=J (ώ [x]) c:=λx c=>EV rfl;have l2:∀ x y c,Wv [x,y] c=J (ώ [x,y]) c:=λx y c=>EV rfl;have mk:Bj 16 5 zo [ώ [ϐ [U 1,U 0,U (nm b).c0,U (nm b).c1,U (nm b).w],ϐ [U 0,U 2,U (nm b).c2,U (nm b).c3,U (nm b).w]],ώ [U 0],U (nm b).e,Wd] []=J (O 0) (HS (pm$ nm b) k0 T$ Kz$ pm$ nm b):=mk;have E:=Q6;unfold eE Cs;generalize HS (pm$ nm b) k0 T (Kz$ pm$ nm b)=Y,nm b=x,Wd=W at *;simp[l1,l2,IW,xR,E,mk,-Bo]
 have o:u1 [W1$ ϭ b,ŋ,ŋ,ŋ,ŋ,ŋ,ŋ,ŋ,ŋ,ŋ,ŋ,ŋ,ŋ,ŋ,ŋ] []=J (ϙ [W1$ ϭ b,W1$ U (nm b).e,ŋ,ŋ,ŋ,ŋ,ŋ,ŋ,ŋ,ŋ,ŋ,ŋ,ŋ,ŋ,ŋ]) []:=by simp[n];rfl
 have q:u3 [W1$ ϭ b,W1$ U (nm b).e,W1$ Cs$ nm b,ŋ,ŋ,ŋ,ŋ,ŋ,ŋ,ŋ,ŋ,ŋ,ŋ,ŋ,ŋ] []=J (ϙ [W1$ ϭ b,W1$ U (nm b).e,W1$ Cs$ nm b,W1$ U (nm b).w,ŋ,ŋ,ŋ,ŋ,ŋ,ŋ,ŋ,ŋ,ŋ,ŋ,ŋ]) []:=by
  generalize Cs (nm b)=C at *;simp[n];rfl
 rw[Bf,o,Jc,Af,Bf,p,Jc,Af,Bf,q,Jc,Af,Bf,r,Jc,Af]
section
variable{m:Pm}(mo:m.Ok){i:Nat->Nat}{T:List TK}{l:Lk}{B:Bs}{σ:Da}(S:St m i T l B σ)
include S
theorem St.app o:St m i T l B$ σ++[o]:=⟨S.k.app [o],S.b.app [o],S.x⟩
include mo
theorem đ(q:i 0=2)(r:i 1=0)(F:T.length<=500):(Due m l.y->∃ f v t h c,Ct [O 0,U 0,Yl m] σ=J (Ϗ š) c/\St m (Qa i 1 1) f { l with n:=v,a:=t,xx:=h } B c/\Sub T f 2)/\(¬ Due m l.y->∃ o,Ct [O 0,U 0,Yl m] σ=J (Ϗ į) (σ++[o])):=by
 obtain⟨g,w,A,C⟩:=Δ S.k mo r;have D:=LG mo l.y 2 q r;have E:=kM mo l.y (i:=Qa i 1 1) (by rw[Cn _ _ ⋯];exact q)$ Dl _ _ _;refine⟨λd=>?_,λd=>?_⟩
 ·obtain⟨e,k⟩:=A ⋯;have p:St m (Qa i 1 1) T _ B$ (σ++[g]).set 11 w:=⟨k,(S.b.app [g]).set (ϕ$ by lia) _,S.x⟩
  obtain⟨f,h,c,u,s,sb⟩:=dZ p mo (j:=1) ⋯ ⋯ (ϕ ⟨_,_,rfl,HX 1 (m.z 1) 0⟩);exact⟨f,_,_,h,c,pH S.H S.k.k e (Xi p.H "send" 3 No) u,s,sb⟩
 ·have e:=C ⋯;exact⟨g,pH S.H S.k.k e (Xi (S.app g).H "send" 3 No) QJ⟩
theorem lX(c:Wm m l.y i=Co m):Gu [O 9] σ=J (U$ Co m) σ/\(∀ b,Ci [(15,Gu)] 1 "worth" b (O 9) σ=(b σ).bind (Vg 1 Gu$ O 9)):=by
 have w:=oZ S.k.k S.k.w$ vF mo S.k.a;rw[S.k.e,OG S.k.a,c]at w;exact⟨w,mj S.k.k "worth" 1 Gu⟩
end
def St.qs{m}{i c}{T}{R}{l}{d}(S:St m c T l (R.B m i) d)(q:Qd m R)(y:l.y=R.L)(K:l.K=kl R.K)(F:l.F=if R.F then [(.inl 0,Ϗ š),(.inl 1,Ϗ š)]else []):Qs m c T R l d:=by
 refine⟨⟨S.k.k,?_,S.x,S.k.e,S.k.a,S.k.n,y,K,F⟩,S.k.w,q⟩;have b:=S.b;have e:R.B m i=R.B m c:=by unfold Rq.B;rw[q.q.1,q.q.2.1];rfl
 simp_all
def Qs.sd{m}{i}{T}{R}{l}{j}(h:Qs m i T R l j)(b:i 0=2/\i 1=0):Sd m i R:=by
 obtain⟨c,d,e,f,k,g⟩:=h.q.q;exact⟨c,d,e,g,h.q.l,(λn s a=>by rw[f]at a;cases a),b.1,ϔ b.2⟩
def S2 a b:oi [ϭ a,U (nm a).e,U (nm a).d] b=J (ϐ [U$ max 0 (nm a).u,U$ max 0 (nm a).l]) b:=by
 have f:=λb=>Yw a 5 ⋯ b;have g:=λb=>Yw a 6 ⋯ b;have h:(nm a).d+jd a 5 % 15 - 2=(nm a).l:=rfl;have j:(nm a).u=if jd a 6 % 3 > 0 then (nm a).l+(nm a).e+jd a 6 / 3 % 3 - 1 else (nm a).d+jd a 6 / 3 % 25:=rfl;unfold oi FV qc;dsimp only;rw[j];by_cases c:jd a 6 % 3 > 0
 ·simp[f,g,h,c]
 ·have i:decide (jd a 6 % 3 > 0)=į:=pb c;simp[f,g,h,i,ra c]
section
variable(ns:dd)
def C0 b d f g h G:Lb u8 (Lb u9$ Lb HH G) (eE ns (nm ns) d f g h ŋ ŋ ŋ ŋ ŋ ŋ) b=G (eE ns (nm ns) d f g h (W1$ U (nm ns).a) (W1$ U (nm ns).q) ŋ ŋ ŋ ŋ) b:=by
 have l:∀ b,Oa [ϭ ns,U 8] b=J (U$ jd ns 8) b:=λb=>Yw ns 8 ⋯ b;have n:∀ b,Oa [ϭ ns,U 9] b=J (U$ jd ns 9) b:=λb=>Yw ns 9 ⋯ b;have ok:=RO ns;have j:∀ (k:Nat) (c:Int),[(nm ns).c0,(nm ns).c1,(nm ns).c2,(nm ns).c3][k]?=W1 c->∀ b,Fb (Cs$ nm ns) (U k) b=J (U c) b:=λk c e b=>by
  unfold Cs
  match k,e with
  |0,e=>cases e;simp
  |1,e=>cases e;simp
  |2,e=>cases e;simp
  |3,e=>cases e;exact nr rfl
 have m:∀ b,Fb (Cs$ nm ns) (U 0) b=J (U (nm ns).c0) b:=j 0 _ rfl;have u:∀ b,Fb (Cs$ nm ns) (U 2) b=J (U (nm ns).c2) b:=j 2 _ rfl;have s:1+jd ns 8 / 3 % min (nm ns).c2 (nm ns).c0=(nm ns).a:=rfl;have t:(nm ns).q=if jd ns 8 % 3 > 0 then min (nm ns).c0 (max 1$ (nm ns).a+jd ns 9 % 3 - 1)else 1+jd ns 9 % (nm ns).c0:=rfl;have x:=ok.c0;have y:=ok.c2;have v:∀ (a:Int) b,Mm (U a) (U (nm ns).c0) b=J (U$ a % (nm ns).c0) b:=λa b=>uX _ _ ⋯;have w:∀ (a:Int) b,Mm (U a) (U$ min (nm ns).c2 (nm ns).c0) b=J (U$ a % min (nm ns).c2 (nm ns).c0) b:=λa b=>uX _ _ ⋯;have o:u8 (eE ns (nm ns) d f g h ŋ ŋ ŋ ŋ ŋ ŋ) b=J (ϙ$ eE ns (nm ns) d f g h (W1$ U (nm ns).a) ŋ ŋ ŋ ŋ ŋ) b:=by
  unfold eE;generalize Cs (nm ns)=C at *;simp[l,m,u,w,s]
 have p:u9 (eE ns (nm ns) d f g h (W1$ U (nm ns).a) ŋ ŋ ŋ ŋ ŋ) b=J (ϙ$ eE ns (nm ns) d f g h (W1$ U (nm ns).a) (W1$ U$ 1+jd ns 9 % (nm ns).c0) ŋ ŋ ŋ ŋ) b:=by
  unfold eE;generalize Cs (nm ns)=C at *;simp[n,m,v]
 have i:HH (eE ns (nm ns) d f g h (W1$ U (nm ns).a) (W1$ U$ 1+jd ns 9 % (nm ns).c0) ŋ ŋ ŋ ŋ) b=J (ϙ$ eE ns (nm ns) d f g h (W1$ U (nm ns).a) (W1$ U (nm ns).q) ŋ ŋ ŋ ŋ) b:=by
  rw[t];unfold eE;generalize Cs (nm ns)=C at *;by_cases c:jd ns 8 % 3 > 0
  ·simp[l,n,m,c]
  ·have r:decide (jd ns 8 % 3 > 0)=į:=pb c;simp[l,r,ra c]
 rw[Bf,o,Jc,Af,Bf,p,Jc,Af,Bf,i,Jc,Af]
end
def Pu b(_:b.length<=63):∃ σ,Rl [ϭ b] []=J (Ϗ š) σ:=by
 have ok:=RO b;have A:=NY ok;obtain⟨T,hT,hi,st⟩:=ā b;have s0:=y2 A T;have c7:∀ σ,Oa [ϭ b,U 7] σ=J (U$ jd b 7) σ:=λσ=>Yw b 7 ⋯ σ;have a3:∀ σ,Oa [ϭ b,U 10] σ=J (U$ jd b 10) σ:=λσ=>Yw b 10 ⋯ σ;have a4:∀ σ,Oa [ϭ b,U 11] σ=J (U$ jd b 11) σ:=λσ=>Yw b 11 ⋯ σ;generalize HS (pm$ nm b) k0 T (Kz$ pm$ nm b)=σ0 at *;have hd:=ok.d;have ed:jd b 7 % 12=(nm b).d:=rfl;obtain⟨b7,r,a5,p,rfl,E,l1,t,Q,L1⟩:=eP (nm b).d.toNat ⋯ (k:=5) (body:=sU) (f:=Eb Mm (we 2 Oa []$ Ba (pa 0)$ Ba (eC$ U 7) Za)$ eC$ U 12) (λk ρ σ=>∃ p,ρ=eE b (nm b) p ŋ ŋ ŋ ŋ ŋ ŋ ŋ ŋ ŋ/\∃ E l1,Qs (pm$ nm b) (λ_=>0) T E l1 σ/\E.y=k/\0<=E.L) (λk ρ σ hk hP=>by
  obtain⟨p,rfl,E,l1,t,Q,L1⟩:=hP;obtain⟨l2,c,e,h2⟩:=t.nx A (ϕ ⟨rfl,rfl⟩);obtain⟨_,n1,n2⟩:=t.q.nx A;obtain⟨_,_,_,_,mn⟩:=XA t.d;refine⟨eE b (nm b) (W1$ U k) ŋ ŋ ŋ ŋ ŋ ŋ ŋ ŋ ŋ,c,ϔ ⟨?_,_,rfl,_,l2,h2,by rw[n1,Q];push_cast;rfl,by lia⟩⟩;unfold eE;generalize Cs (nm b)=C at *;simp[mn,e]) (ρ:=eE b (nm b) ŋ ŋ ŋ ŋ ŋ ŋ ŋ ŋ ŋ ŋ) (σ:=σ0) (by
   unfold eE;generalize Cs (nm b)=C at *;simp[c7,ed];lia) ⟨ŋ,rfl,R0,L0 _ T,s0,rfl,by decide⟩
 have Q:E.y=(nm b).d:=by rw[Q];lia
 have S1:=t.d.st t.w;obtain⟨hb,mb,ht,mt,_⟩:=XA t.d;rw[Q]at ht;obtain⟨ka,mk,_⟩:=mC S1 (j:=0) ⋯;have a6:u6 (eE b (nm b) p ŋ ŋ ŋ ŋ ŋ ŋ ŋ ŋ ŋ) r=J (ϙ$ eE b (nm b) p (W1$ O 9) ŋ ŋ ŋ ŋ ŋ ŋ ŋ ŋ) r:=by
  unfold eE;generalize Cs (nm b)=C at *;simp[ka,mk]
 have a7:u7 (eE b (nm b) p (W1$ O 9) ŋ ŋ ŋ ŋ ŋ ŋ ŋ ŋ) r=J (ϙ$ eE b (nm b) p (W1$ O 9) (W1$ U$ max 0 (nm b).u) (W1$ U$ max 0 (nm b).l) ŋ ŋ ŋ ŋ ŋ ŋ) r:=by
  unfold eE;generalize Cs (nm b)=C at *;simp[hb,mb,ht,mt,(S2 b r)]
 obtain⟨T2,n2,b2,X2,c,ό,P,ϋ⟩:=É A S1 rfl rfl ⋯;have ό:Gc [O 0,U (nm b).q,U$ max 0 (nm b).u] r=J (Ϗ š) c:=ό;have a0:XO (eE b (nm b) p (W1$ O 9) (W1$ U$ max 0 (nm b).u) (W1$ U$ max 0 (nm b).l) (W1$ U (nm b).a) (W1$ U (nm b).q) ŋ ŋ ŋ ŋ) r=J (ϙ$ eE b (nm b) p (W1$ O 9) (W1$ U$ max 0 (nm b).u) (W1$ U$ max 0 (nm b).l) (W1$ U (nm b).a) (W1$ U (nm b).q) ŋ ŋ ŋ ŋ) c:=by
  unfold eE;generalize Cs (nm b)=C at *;simp[ό]
 generalize V:Qa (Qa (λ_=>0) 0 1) 0 2=i2 at *;have x:i2 0=2:=by rw[<-V];rfl
 have N:i2 1=0:=by rw[<-V];rfl
 obtain⟨kw,mw⟩:=lX A P (LG A _ 2 x N);have W:=dY P.k.k;have W:iy [O 9] c=J (U l1.y) c:=W;have ml:=mj P.k.k "looked" 1 iy;generalize S:(decide (max 0 (nm b).l<=l1.y) || (decide (max 0 (nm b).u ≥ max 0 (nm b).l+(nm b).e) && decide ((nm b).q ≥ (nm b).a)))=v;have ϊ:v=š ↔ Due (pm$ nm b) l1.y:=by
  rw[<-S,ug,Ca,Bb,Bb,Bb];exact Iff.rfl
 have a1:tO (eE b (nm b) p (W1$ O 9) (W1$ U$ max 0 (nm b).u) (W1$ U$ max 0 (nm b).l) (W1$ U (nm b).a) (W1$ U (nm b).q) ŋ ŋ ŋ ŋ) c=J (ϙ$ eE b (nm b) p (W1$ O 9) (W1$ U$ max 0 (nm b).u) (W1$ U$ max 0 (nm b).l) (W1$ U (nm b).a) (W1$ U (nm b).q) (W1$ U$ Co$ pm$ nm b) ŋ ŋ ŋ) c:=by
  unfold eE;generalize Cs (nm b)=C at *;simp[kw,mw]
 have a2:gN (eE b (nm b) p (W1$ O 9) (W1$ U$ max 0 (nm b).u) (W1$ U$ max 0 (nm b).l) (W1$ U (nm b).a) (W1$ U (nm b).q) (W1$ U$ Co$ pm$ nm b) ŋ ŋ ŋ) c=J (ϙ$ eE b (nm b) p (W1$ O 9) (W1$ U$ max 0 (nm b).u) (W1$ U$ max 0 (nm b).l) (W1$ U (nm b).a) (W1$ U (nm b).q) (W1$ U$ Co$ pm$ nm b) (W1$ Ϗ v) ŋ ŋ) c:=by
  rw[<-S];unfold eE;generalize Cs (nm b)=C at *;by_cases d1:max 0 (nm b).l<=l1.y
  ·simp[W,ml,ib d1]
  ·by_cases d2:max 0 (nm b).u ≥ max 0 (nm b).l+(nm b).e
   ·simp[W,ml,pb d1,ib d2]
   ·simp[W,ml,pb d1,pb d2]
 have Mf:∀ (i:Nat->Nat) (T':List TK) (R:Rq) (l:Lk) (σ:Da),Dr (pm$ nm b) i T' į R l σ->Ws l σ->Sd (pm$ nm b) i R->0<=R.y->∃ m,Lb AH (Lb NJ$ Lb wI mI) (eE b (nm b) p (W1$ O 9) (W1$ U$ max 0 (nm b).u) (W1$ U$ max 0 (nm b).l) (W1$ U (nm b).a) (W1$ U (nm b).q) (W1$ U$ Co$ pm$ nm b) (W1$ Ϗ v) ŋ ŋ) σ=J (.rt$ Ϗ š) m:=λi T' R l σ D w s hy=>by
  have hl:=ok.l;have hu:=ok.u;obtain⟨m,n,e,hn,co,H⟩:=ycy A D w s hy (λj hj=>by
   rcases gm hj with rfl|rfl
   ·show max 0 (nm b).u<=100;lia
   ·show max 0 (nm b).l<=100;lia) ok.a.2.2 (jd b 11)
  refine⟨m,?_⟩;have mc:=Xi H "coin" 2 xA;have ge:decide (n ≥ (nm b).c1+(nm b).c2)=š:=ib hn;have j1:∀ σ,Fb (Cs$ nm b) (U 1) σ=J (U (nm b).c1) σ:=λσ=>by unfold Cs;simp
  have j2:∀ σ,Fb (Cs$ nm b) (U 2) σ=J (U (nm b).c2) σ:=λσ=>by unfold Cs;simp
  unfold eE;generalize Cs (nm b)=C at *;simp[a4,e,co,mc,j1,j2,ge]
 have Xg:∀ m,(Lb jF (Lb MF$ Lb AH$ Lb NJ$ Lb wI mI) (eE b (nm b) p (W1$ O 9) (W1$ U$ max 0 (nm b).u) (W1$ U$ max 0 (nm b).l) (W1$ U (nm b).a) (W1$ U (nm b).q) (W1$ U$ Co$ pm$ nm b) (W1$ Ϗ v) ŋ ŋ) c=J (.rt$ Ϗ š) m)->Rl [ϭ b] []=J (Ϗ š) m:=λm h=>by
  unfold Rl BX;rw[fw];show Tn (Lb u1 (Lb u2$ Lb u3$ Lb u4$ Lb u5$ Lb u6$ Lb u7$ Lb u8$ Lb u9$ Lb HH$ Lb XO$ Lb tO$ Lb gN$ Lb jF$ Lb MF$ Lb AH$ Lb NJ$ Lb wI mI) [W1$ ϭ b,ŋ,ŋ,ŋ,ŋ,ŋ,ŋ,ŋ,ŋ,ŋ,ŋ,ŋ,ŋ,ŋ,ŋ] [])=_;rw[st,Bf,show u5 _ σ0=_ from a5,Jc,Af,Bf,a6,Jc,Af,Bf,a7,Jc,Af,C0,Bf,a0,Jc,Af,Bf,a1,Jc,Af,Bf,a2,Jc,Af,h];rfl
 have gv:=λ(i:Nat->Nat) (l:Lk) (σ:Da) (h:Kw (pm (nm b)) i l σ)=>ĭ h;obtain⟨p1,p2⟩:=đ A P x N (by have:=ϋ.2;lia);have wd:ϐ [ϒ "pass",U 1,U (nm b).a,U 0,U$ max 0 (nm b).l]=Yl (pm$ nm b):=rfl;have X:=Xi P.H "wish" 3 Ct;have yL:l1.y=E.L:=t.d.y;cases M:v with
 |false=>
  have nd:¬ Due (pm$ nm b) l1.y:=λd=>by rw[ϊ.mpr d]at M;cases M
  obtain⟨o,e⟩:=p2 nd;have B:=P.app o;have q3:=B.qs t.q yL t.d.K t.d.F;obtain⟨m,f⟩:=Mf _ _ _ _ _ q3.d q3.w (q3.sd ⟨x,N⟩) (by rw[Q];lia);refine⟨m,Xg m ?_⟩;have G:jF (eE b (nm b) p (W1$ O 9) (W1$ U$ max 0 (nm b).u) (W1$ U$ max 0 (nm b).l) (W1$ U (nm b).a) (W1$ U (nm b).q) (W1$ U$ Co$ pm$ nm b) (W1$ Ϗ v) ŋ ŋ) c=J (ϙ$ eE b (nm b) p (W1$ O 9) (W1$ U$ max 0 (nm b).u) (W1$ U$ max 0 (nm b).l) (W1$ U (nm b).a) (W1$ U (nm b).q) (W1$ U$ Co$ pm$ nm b) (W1$ Ϗ v) ŋ ŋ) (c++[o]):=by
   have g:=gv _ _ _ B.k;have mg:=mj B.k.k "given" 1 dB;have Y:Ki (Ϗ į) (Ϗ į) (c++[o])=J (Ϗ į) (c++[o]):=nw rfl;rw[M];unfold eE;generalize Cs (nm b)=C,c++[o]=τ at *;simp[wd,X,e,Y,g,mg]
  have I:MF (eE b (nm b) p (W1$ O 9) (W1$ U$ max 0 (nm b).u) (W1$ U$ max 0 (nm b).l) (W1$ U (nm b).a) (W1$ U (nm b).q) (W1$ U$ Co$ pm$ nm b) (W1$ Ϗ v) ŋ ŋ) (c++[o])=J (ϙ$ eE b (nm b) p (W1$ O 9) (W1$ U$ max 0 (nm b).u) (W1$ U$ max 0 (nm b).l) (W1$ U (nm b).a) (W1$ U (nm b).q) (W1$ U$ Co$ pm$ nm b) (W1$ Ϗ v) ŋ ŋ) (c++[o]):=by
   rw[M];unfold eE;generalize Cs (nm b)=C at *;simp
  rw[Bf,G,Jc,Af,Bf,I,Jc,Af,f]
 |true=>
  have d:=ϊ.mp M;obtain⟨T3,n3,b3,X3,z,e,B,Z⟩:=p1 d;have c3:=(kM A l1.y (i:=Qa i2 1 1) (by rw[Cn _ _ ⋯];exact x)$ Dl _ _ _).1 d;obtain⟨b0,b1⟩:=lX A B c3;obtain⟨T4,n4,b4,X4,b8,e4,S4,b5⟩:=à A B (by rw[Cn _ _ ⋯];exact x) (Dl _ _ _) d (by have:=ϋ.2;have:=Z.2;lia);have q4:=S4.qs t.q yL t.d.K t.d.F;have a8:XB T4 [ϒ "word",U 0]:=by
   obtain⟨k,e,hk⟩:=hi;exact⟨k,e,b5.1 _$ Z.1 _$ ϋ.1 _ hk⟩
  have a9:Qa (Qa i2 1 1) 1 2 0=2:=by rw[Cn _ _ ⋯,Cn _ _ ⋯];exact x
  obtain⟨R5,l5,b6,e5,D5,w5,s5,y5⟩:=G1 A ⟨a9,Dl _ _ _⟩ q4 a8 (by rw[<-yL];exact d) (jd b 10) (max 0 (nm b).l);obtain⟨m,f⟩:=Mf _ _ _ _ _ D5 w5 s5 ⋯;refine⟨m,Xg m ?_⟩;have G:jF (eE b (nm b) p (W1$ O 9) (W1$ U$ max 0 (nm b).u) (W1$ U$ max 0 (nm b).l) (W1$ U (nm b).a) (W1$ U (nm b).q) (W1$ U$ Co$ pm$ nm b) (W1$ Ϗ v) ŋ ŋ) c=J (ϙ$ eE b (nm b) p (W1$ O 9) (W1$ U$ max 0 (nm b).u) (W1$ U$ max 0 (nm b).l) (W1$ U (nm b).a) (W1$ U (nm b).q) (W1$ U$ Co$ pm$ nm b) (W1$ Ϗ v) ŋ ŋ) z:=by
   have g:=gv _ _ _ B.k;have mg:=mj B.k.k "given" 1 dB;have Y:Ki (Ϗ š) (Ϗ š) z=J (Ϗ į) z:=nw rfl;rw[M];unfold eE;generalize Cs (nm b)=C at *;simp[wd,X,e,Y,g,mg]
  have I:MF (eE b (nm b) p (W1$ O 9) (W1$ U$ max 0 (nm b).u) (W1$ U$ max 0 (nm b).l) (W1$ U (nm b).a) (W1$ U (nm b).q) (W1$ U$ Co$ pm$ nm b) (W1$ Ϗ v) ŋ ŋ) z=J (ϙ$ eE b (nm b) p (W1$ O 9) (W1$ U$ max 0 (nm b).u) (W1$ U$ max 0 (nm b).l) (W1$ U (nm b).a) (W1$ U (nm b).q) (W1$ U$ Co$ pm$ nm b) (W1$ Ϗ v) ŋ ŋ) b6:=by
   have Y:Ki (U$ Co$ pm$ nm b) (U$ Co$ pm$ nm b) z=J (Ϗ į) z:=by rw[AE];simp
   rw[M];unfold eE;generalize Cs (nm b)=C,Co (pm$ nm b)=co at *;simp[b0,b1,Y,e4,a3,e5]
  rw[Bf,G,Jc,Af,Bf,I,Jc,Af,f]
end Internal
end
open PySem PySem.W PyProof.Rows
set_option maxRecDepth 100000 in
set_option maxHeartbeats 0 in
theorem PySem.Challenge.cw_sidebook_k94_whole_amid_a_payment_holds : PySem.Challenge.rw_sidebook_k94_whole_amid_a_payment.Holds := by
 w_on;refine hd ?_
 k_fill
 refine Lake.ò (l:=PySem.Challenge.rw_sidebook_k94_whole_amid_a_payment) (k:=17) (x:="_law_script") (fn:=Internal.Rl) ["least_fate","paper"] rfl rfl ⟨rfl,by decide,by decide⟩ (λw h Y=>km2_in Y) ?hK ?hrec ?F Internal.Pu;case hK=>intro w;kernel_rfl
 case hrec=>as_aux_lemma=>kernel_rfl
 case F=>
  intro w mg h KX G TT;refine⟨λn=>([0,0,0,0,0,318,353,400,440,589,666,694,720,746,778,1112,1290,315,336,343,0,369,376,383,390,397,416,423,430,0,489,496,503,510,517,524,532,539,546,553,560,567,572,579,586,649,656,663,684,691,710,717,736,743,775,950,957,964,971,978,985,992,999,1006,1013,0,1027,1034,1041,1048,1055,0,1069,1076,1083,1088,1095,1102,1109,1136,1143,1150,0,1164,1171,1178,1185,1192,1199,1206,1213,1220,0,0,0,1247,1252,1259,1266,0,1280,1287]:List Addr).getD n 0,(Internal.tx$ L2.oR KX).Rn,Internal.i6 _,Internal.yf9 ?_⟩;constructor;all_goals (try (repeat' (first|exact Internal.Al.n|with_reducible refine' Internal.Al.c ?_ ?_)))
  all_goals (try dsimp only[L2.oR,List.getD]);all_goals (try dsimp only[List.getElem?_cons_succ,List.getElem?_cons_zero,Option.getD]);all_goals (first
   |(refine' Internal.C9 ?p ?q$ Lake.oN KX G (λ_ _ _ _ _ _ us hl=>?z) ?a ?l ?c ?k;(case p=>conv=>lhs;whnf);(case q=>dsimp only[Internal.fX,L2.ul,List.map]);(case a|l=>as_aux_lemma=>k_is);(case z=>exact Internal.QF.ap _ us hl (by(repeat intro _);exact rfl));(case c|k=>as_aux_lemma=>k_is))
   |(refine' Internal.ú ?p ?q$ Lake.IU (λ_ _ _ _ _ _ us hl=>?z) ?l ?c ?k;(case p=>conv=>lhs;whnf);(case q=>dsimp only[Internal.fX,L2.ul,List.map]);(case l=>as_aux_lemma=>k_is);(case z=>exact Internal.QF.ap _ us hl (by(repeat intro _);exact rfl));(case c|k=>as_aux_lemma=>k_is))
   |(refine' Lake.oN KX G (λ_ _ _ _ _ _ us hl=>?z) ?a ?l ?c ?k;(case z=>exact Internal.QF.ap _ us hl (by(repeat intro _);exact rfl));(case a|l|c|k=>as_aux_lemma=>k_is))
   |(refine' Lake.IU (λ_ _ _ _ _ _ us hl=>?z) ?l ?c ?k;(case z=>exact Internal.QF.ap _ us hl (by(repeat intro _);exact rfl));(case l|c|k=>as_aux_lemma=>k_is))
   |(refine' Lake.yvl KX G Internal.V3 ?a ?l ?c ?k ?d;(case a|l|c|k|d=>as_aux_lemma=>k_is))
   |(refine' Lake.XN Internal.zds ?l ?c ?d;(case l|c|d=>as_aux_lemma=>k_is))
   |(refine' Lake.XN Internal.za0 ?l ?c ?d;(case l|c|d=>as_aux_lemma=>k_is))
   |(refine' Lake.XN Internal.zai ?l ?c ?d;(case l|c|d=>as_aux_lemma=>k_is))
   |(refine' Lake.Į KX G ?a ?b;(case a=>as_aux_lemma=>k_is);(case b=>as_aux_lemma=>kernel_rfl))
   |(refine' Lake.mkI KX G ?a;(case a=>as_aux_lemma=>k_is))
   |(refine' mg_of KX G ?a;(case a=>as_aux_lemma=>k_is))
   |(refine' mg_none_of KX G ?a;(case a=>as_aux_lemma=>k_is))
   |(refine' ⟨⟨?a,?b,?c,?d⟩,?e,?f,?g,?h⟩;(case a|b|c|d|e|f|g|h=>as_aux_lemma=>k_is))
   |(refine' ⟨?a,?b,?c,?d⟩;(case a|b|c|d=>as_aux_lemma=>k_is))
   |(refine' ⟨?a,?b,?c⟩;(case a|b|c=>as_aux_lemma=>k_is))
   |(refine' ⟨?a,?b⟩;(case a|b=>as_aux_lemma=>k_is))
   |exact λt h t' h' _=>(Qb.mp h').trans (Qb.mp h).symm
   |(refine' Lake.Ρ KX G (Lake.oN KX G (λ_ _ _ _ _ _ us hl=>?z) ?a ?l ?c ?k) TT ?d;(case z=>exact Internal.QF.ap _ us hl (by(repeat intro _);exact rfl));(case a|l|c|k=>as_aux_lemma=>k_is);(case d=>decide))
   |(refine' (mg_of KX G ?a).trans (mg_of KX G ?b).symm;(case a|b=>as_aux_lemma=>k_is))
   |exact TT
   |exact mg_of KX G TT.bm
   |(refine' Lake.yrc ?a;(case a=>as_aux_lemma=>kernel_rfl))
   |decide
   |as_aux_lemma=>k_is
   |k_exc
   |rfl)
