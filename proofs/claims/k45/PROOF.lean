import PyProof.Rows.All
import OpenK.KLine
import OpenK.KOwn
import KE.KNestM
import KE.KDictOf
import Wide.FinOn
import Lean
import PyProof.EqAt
import PyProof.EqKinds
import PyProof.TupleCall
import PyProof.NeKinds
import PyProof.NsDelKeeps
import KE.KTryMore
import PyProof.WalksMore
import PyProof.Rows.SetFrom
import KE.KEqDict
import PyProof.ToksMono
import PyProof.StrCalls6
import PyProof.StrBlock2
import PyProof.SliceStr2
import PyProof.StrLawsTight
import PyProof.InstStoreFacts
import PyProof.Rows.FStr
import PyProof.FactsAll.set
import KE.KDictLaws
import KE.KIntText
import PyProof.Rows.StrWeight2
import PyProof.StrWalks
import PyProof.StrBlockH
import PyProof.WalksEnum
import PyProof.ZipIter
import PyProof.EnumMake
import PyProof.FitsReplace
import PyProof.StrLawsIn
import PyProof.Rows.SortWalk
import PyProof.DictUpdate
import KE.KDictList
import KE.KDictSum
import KE.KPairComp
import PyProof.FactsAll.dict
import KE.KMinKey
import KE.KLam
import PyProof.DictWalks
import PyProof.DictValues
import PySem.Challenge.RW_sidebook_k45_a_look
set_option Elab.async false
set_option linter.all false
set_option maxRecDepth 100000
namespace PySem.W.Fast
def te13052408679150730464:=Nat
def tw9905817929586354991:=Nat
def tw9156113097813270425:=Nat
def tw10133859619468971488:=Nat
def tw2442021597525575310:=Nat
def tw2885690892925829340:=Nat
def tw10547057200615259343:=Nat
def tw9723594395974361472:=Nat
def tw861502493610598483:=Nat
def tw2964640727653848319:=Nat
def tw1765523129119087622:=Nat
def tw14741289099931302040:=Nat
def tw16952672246017521922:=Nat
def tw14455545822193828066:=Nat
def tw18081126092374225324:=Nat
def tw7774113678449685934:=Nat
def tw8985533716480908915:=Nat
def tw4287531850137106228:=Nat
def tw10600413367226739535:=Nat
def tw5771433454967703170:=Nat
def tw11736338228926984083:=Nat
def tw16008359073273489704:=Nat
def tw3116142745294760271:=Nat
def tw11509211604773734946:=Nat
def tw3877615705368685908:=Nat
def tw5320619654261168702:=Nat
def tw14508066593742663482:=Nat
def tw13578020157988156910:=Nat
def tw4139333405863992284:=Nat
def tw9431664283623546001:=Nat
def tw1068154355462001576:=Nat
def tw13758190518337804936:=Nat
def tw15359611588545569252:=Nat
def tw7375019352735875252:=Nat
def tw6703304554741867743:=Nat
def tw6344153461787385748:=Nat
def tw6408665033692976793:=Nat
def tw1799641797098859658:=Nat
def tw8514659027417952518:=Nat
def tw8291256780589285916:=Nat
def tw8997383693586321770:=Nat
def tw11156245012059776263:=Nat
def tw7363655315013122544:=Nat
def tw11326235942716756430:=Nat
def tw36045766105701399:=Nat
def tw3279746063893128733:=Nat
def tw7873005593776767234:=Nat
def tw13002473133791111888:=Nat
def tw6965440757966121213:=Nat
def tw6784737039638806343:=Nat
def tw938635154573522699:=Nat
def tw10483620692585885732:=Nat
def tw4355699308658924015:=Nat
def tw10374632558016547081:=Nat
def tw14671481471946370582:=Nat
def tw6953138203311097117:=Nat
def tw14344478149125931734:=Nat
end PySem.W.Fast
namespace PySem.W
open PySem PySem.Spec PySem.Calls PyProof.Rows
def gtO (x : Option Obj) : Option Obj := match x with
  | some ⟨_, _, .freed, _⟩ => none
  | o => o
noncomputable def pk (l : List Obj) : Nat → List Addr → List (Option Obj) := @List.rec Obj (fun _ => Nat → List Addr → List (Option Obj)) (fun _ as => as.map fun _ => none) (fun o _ ih i as => @List.rec Addr (fun _ => List (Option Obj)) [] (fun a r _ => @Bool.rec (fun _ => List (Option Obj)) (ih (Nat.succ i) as) (gtO (some o) :: ih (Nat.succ i) r) (Nat.beq a i)) as) l
def rz : Nat → List Addr → Bool
  | _, [] => true
  | i, a :: r => Nat.ble i a && rz (a + 1) r
theorem rz_le : ∀ (as : List Addr) (i : Nat), rz i as = true → ∀ b ∈ as, i ≤ b
  | [], _, _, b, h => by cases h
  | a :: r, i, h, b, hb => by
    unfold rz at h
    rw [Bool.and_eq_true] at h
    have h1 := Nat.le_of_ble_eq_true h.1
    rcases List.mem_cons.mp hb with rfl | hb
    · exact h1
    · have := rz_le r (a + 1) h.2 b hb; omega
theorem rz_up {a i : Nat} {r : List Addr} (h : rz i (a :: r) = true) (n : a ≠ i) : rz (i + 1) (a :: r) = true := by
  unfold rz at *
  rw [Bool.and_eq_true] at *
  have := Nat.le_of_ble_eq_true h.1
  exact ⟨Nat.ble_eq_true_of_le (by omega), h.2⟩
theorem pk_eq : ∀ (l : List Obj) (i : Nat) (as : List Addr), rz i as = true → pk l i as = as.map fun a => gtO l[a - i]?
  | [], i, as, _ => by
    show as.map _ = _
    exact List.map_congr_left fun a _ => by simp [gtO]
  | o :: l, i, [], _ => rfl
  | o :: l, i, a :: r, h => by
    have step : ∀ as : List Addr, rz (i + 1) as = true → (as.map fun a => gtO l[a - (i + 1)]?) = as.map fun a => gtO (o :: l)[a - i]? := fun as h => List.map_congr_left fun b hb => by
      have := rz_le as _ h b hb
      rw [show b - i = (b - (i + 1)) + 1 by omega, List.getElem?_cons_succ]
    show @Bool.rec (fun _ => List (Option Obj)) (pk l (Nat.succ i) (a :: r)) (gtO (some o) :: pk l (Nat.succ i) r) (Nat.beq a i) = _
    cases e : Nat.beq a i with
    | true =>
      obtain rfl := Nat.eq_of_beq_eq_true e
      have h2 : rz (a + 1) r = true := by unfold rz at h; exact (Bool.and_eq_true_iff.mp h).2
      show gtO (some o) :: pk l (a + 1) r = _
      rw [pk_eq l (a + 1) r h2, step r h2, List.map_cons, Nat.sub_self]; rfl
    | false =>
      have h2 := rz_up h (Nat.ne_of_beq_eq_false e)
      show pk l (i + 1) (a :: r) = _
      rw [pk_eq l (i + 1) _ h2, step _ h2]
noncomputable def kmO (as : List Addr) (h : Heap) : List (Option Obj) := @Bool.rec (fun _ => List (Option Obj)) (as.map h.get?) (pk h.objs.toList 0 as) (rz 0 as)
theorem kmO_eq (as : List Addr) (h : Heap) : kmO as h = as.map h.get? := by
  unfold kmO
  cases e : rz 0 as with
  | false => rfl
  | true =>
    show pk h.objs.toList 0 as = _
    rw [pk_eq _ _ _ e]
    exact List.map_congr_left fun a _ => by
      rw [Nat.sub_zero, Array.getElem?_toList]; rfl
noncomputable def kmH2 (K : Params → Frag) (as : List Addr) (e : ∀ P, as = (K P).map (·.1)) (ts : List Addr) : Hook where
  α := List (Option Obj) × List (Option Obj)
  obs := fun s => (kmO as s.heap, ts.map s.heap.get?)
  val := fun w => ((K w.params).map fun p => some p.2, ts.map fun _ => some (tabObj #[]))
  says := fun w h => InK K w h ∧ ∀ P ∈ ts, h.get? P = some (tabObj #[])
  of := fun w s x => (kmHook K as e ts).of w s (show (as.map s.heap.get?, ts.map s.heap.get?) = _ by rw [← kmO_eq]; exact x)
  keeps := (kmHook K as e ts).keeps
theorem km2_in {K : Params → Frag} {as : List Addr} {e : ∀ P, as = (K P).map (·.1)} {ts : List Addr} {w : World} {h : Heap} (Y : (kmH2 K as e ts).says w h) : (K w.params).In h := (show InK K w h ∧ ∀ P ∈ ts, h.get? P = some (tabObj #[]) from Y).1
end PySem.W
section
open PySem PySem.W PyProof.Rows
set_option maxHeartbeats 0
local macro_rules | `(tactic| o_head ($f $a $b $c $d)) => `(tactic| o_head ((kmH2 $a $b $c) $d))
open_top hd for PySem.Challenge.rw_sidebook_k45_a_look
end
theorem auZq(h:True:=by rfl):True:=h
theorem auZr(h:True:=by decide):True:=h
local macro_rules|`(~~~$p)=>`(autoParam $p auZr._auto_1)
local macro_rules|`($p⁻¹)=>`(autoParam $p auZq._auto_1)
theorem b_{p:Prop}(h:(p->False)->False):p:=Classical.byContradiction h
open Option renaming some->SY,none->ń
open Bool renaming true->U2,false->ŝ
local macro_rules|`(⋯)=>`(by first|lia|omega|(simp;done)|decide|simp_all|grind)
set_option genSizeOf false
set_option bootstrap.genMatcherCode false
set_option tactic.hygienic false
set_option bootstrap.genMatcherCode false
set_option compiler.extract_closed false
def Ie:=@beq_eq_false_iff_ne
def Uj:=@beq_iff_eq
def WX:=@beq_self_eq_true
def vd:=@congrArg
def re:=@decide_eq_false
def zf:=@decide_eq_true
def Gc:=@decide_eq_true_eq
def yt:=@if_false
def ya:=@if_neg
def na:=@if_pos
def Mi:=@if_true
def dm:=@or_false
open Array renaming append_assoc->Yr,getElem?_eq_getElem->Kb,getElem?_eq_none->Dp,getElem?_eq_none_iff->bn,getElem?_eq_some_iff->Nc,getElem?_extract->Cp,getElem?_push->qr,getElem?_toList->Pd,length_toList->gc,toArray_toList->Oi
open Bool renaming and_assoc->ez,and_eq_true->Da,and_false->dz,false_eq_true->zt,false_ne_true->qb,or_eq_true->sf
open Classical renaming choose_spec->zaB
open Int renaming emod_lt_of_pos->Zu,emod_nonneg->kn,fdiv_eq_ediv_of_nonneg->Ao
open List renaming all_cons->Je,all_eq_true->Jb,all_map->EC,any_cons->mf,any_eq_false->Xk,any_eq_true->Hc,any_map->KC,append_assoc->Lf,append_nil->He,cons_append->im,drop_eq_getElem_cons->kh,drop_eq_nil_of_le->fq,ext_getElem?->ph,filterMap_cons->af,filter_cons->gm,filter_eq_nil_iff->gq,filter_eq_self->Ks,filter_sublist->Hs,find?_cons->Xd,flatMap_cons->Re,flatMap_nil->tw,foldl_cons->zg,getD_eq_getElem?_getD->Ln,getElem?_append_left->Ya,getElem?_append_right->Gb,getElem?_eq_getElem->xb,getElem?_eq_none_iff->ub,getElem?_eq_some_iff->aa,getElem?_map->Ca,getElem?_of_mem->pr,getElem?_replicate->Bp,getElem?_set->Jf,getElem?_set_ne->Za,getElem?_set_self->Ia,getElem?_take_of_lt->Qo,getElem?_toArray->Gi,getElem_inj->kw,getElem_mem->Xf,getElem_of_mem->Fs,length_append->db,length_cons->Ab,length_drop->nw,length_eq_zero_iff->Ep,length_eraseIdx_of_lt->On,length_filter_le->Bc,length_map->Ha,length_nil->ri,length_pos_iff->Ls,length_range->qh,length_set->si,length_take->We,lookup_cons->Pb,map_congr_left->oj,map_cons->Va,map_map->Ec,map_nil->Yh,mem_append->jb,mem_append_left->Wa,mem_append_right->Qa,mem_cons->Ba,mem_cons_of_mem->ja,mem_cons_self->va,mem_filter->yg,mem_filterMap->Tj,mem_flatMap->jm,mem_iff_getElem?->Pq,mem_map->Xa,mem_map_of_mem->Qc,mem_of_find?_eq_some->Do,mem_of_getElem?->ua,mem_range->Wi,mem_singleton->Oa,nil_append->uf,nodup_append->Yk,nodup_cons->Cd,nodup_nil->gz,not_mem_nil->oe,of_mem_zip->Rm,pairwise_iff_getElem->Co,range_succ_eq_map->dq,set_append_left->ur,set_append_right->Wf,set_cons_succ->Wj,set_cons_zero->At,set_getElem_self->Qq,set_set->LC,size_toArray->Ua,take_length->Md,take_succ->jz
open List.Perm renaming cons_inv->zaE
open List.cons renaming inj->Im
open Nat renaming le_of_eq->TF,le_of_lt->jd,le_refl->wa,le_succ->zh,le_trans->zb,lt_irrefl->Ld,lt_of_le_of_lt->Su,lt_of_lt_of_le->La,lt_succ_of_lt->Rb,lt_succ_self->Qb,lt_trans->Kq,lt_trichotomy->qw,mod_lt->Xu,ne_of_gt->Jd,ne_of_lt->za,not_lt->Tu,one_ne_zero->iz,zero_le->yh
open Ne renaming symm->Ud
open Option renaming bind_eq_some_iff->rf,bind_some->Zk,isSome_iff_exists->Zd,map_eq_some_iff->Ra,map_id->Mx,map_some->jf
open Option.some renaming inj->Ub
open Prod renaming ext->DX
open PyProof.Rows renaming AllBare->vh,IntsAre->xh,IsTup->Bt,callWith_builtin1->sJ,callWith_type1->qd,iadd_int->rJ,slot_tuple_getitem->ic,Subscript_->CA,args_list_sort->XO,args_tuple_getitem->BA,boot_isinstance->tJ,entry_list_iadd'->WF,entry_list_sort->xJ,entry_proto_collect'->Kx,entry_tuple_getitem->cz,envOfC->fg,firstMet->Ef,firstMet_length_le->HA,firstMet_succ->YX,firstMet_zero->ZX,get?_update_seq->BJ,list_sort_tree->WO,seqObj->Km,size_push'->GA,slicePart_none->RO,slot_list_sort->VO,sortedHeap_at->XX,sortedHeap_old->YO,step_dedup->KA,subscriptTail->aY,subscriptTail_builtinR->Pu,tupleItemsOf_->EX
open PyProof.Rows.IsTup renaming new->Nu
open PySem renaming Around->Ma,BindsTo->vf,Builtin->bi,CmpOp->km,DictEntry->eG,Drawn->To,ElemsOf->QC,Env->vg,ExceptHandler->Mg,Expr->Na,FuncData->kf,GenState->Mh,IsPair->dP,IsPart->zk,ItemsOf->vn,Keyword->ij,Model->Pi,NameKind->Ee,Operator->yk,OsState->jv,PassesOwn->Eo,PlainAttrs->Jm,Pos->Vd,Program->Aa,boot_len->Jx,mem_of_lookup->ie,Result->Fo,Sem->Um,SetTable->Od,Slot->bP,World->Ta,argsOk->nv,assign->xk,assignEach->Yd,attributeBase->Ad,backTo->Zb,backToKw->Rg,behindInMarks->Td,behindIsImport->cP,binaryOp->Nd,bindC->Dt,bindL->Ox,bindSpecialIfBound?->mz,builtinLookup_eq_fast->sw,callSpecialIfBound?->lz,callWith->on,call_list_seq->VX,call_meetsIn->Wu,callerA->mn,cellsFrom->bG,checkBuiltinCall->fG,cmpInfo_Eq->IA,codeAny_builtin->Jc,codeAny_call_builtin->sk,codeAny_mono->qf,codeAny_of_tree->zJ,compareOp->yb,concat_meets->Mu,entryFor->eP,entryFor_alias->ZO,eval->Mb,fits_of_scanBound->dg,foldedSetIterable->je,getItem->ai,getMethod->Ah,holding->Be,inplaceOp->ZF,intBits_le_64->zX,intKind->Mf,isInstance->LA,isSubtype_type->Mq,isTrue->JA,keywordEach->Ke,lastMarks->Ct,noFill_tuple_add->Bo,noteFrame->Ch,oneThing_ref->Yu,pickOrder->Io,plainId_quiet->Sd,rawInt->pc,relayAll->xn,richCompare->Bk,seqIndex_neg->Ou,seqIndex_of->Ix,seq_tuple_add->js,setFlight->Ho,setItem->bv,setNext->qv,sliceBounds->Ak,slot_list_getitem->DC,standAt->wh,starEach->qa,storeName->YF,subscripted->Uo,swappedStores->om,swapsWith->Ig,swapsWithSole->lm,sysModules->gj,tryCompare->MA,typeLookup_type->AJ,typeOf->ev,valueAt->rn,wpAny_Call_Name_kw->Pe,wpAny_Call_method_late->Ru,wpAny_Name->zA,wpAny_askSetting->Hg,wpAny_assign_Name->AC,wpAny_attempt->fm,wpAny_bind->ba,wpAny_cRoomFor->Oq,wpAny_call->ej,wpAny_callSpecial?_slot->Ed,wpAny_call_entry->Mc,wpAny_comprehension_free->Js,wpAny_execs_cons->RF,wpAny_execs_nil->nj,wpAny_field->rk,wpAny_fieldsOf->uk,wpAny_holding->Yb,wpAny_isInstance->XF,wpAny_isSame_ref_other->fj,wpAny_isTrue_Compare1->lw,wpAny_ite_split->Kf,wpAny_items_cons->UF,wpAny_letGo->So,wpAny_load->Hm,wpAny_loadName_cell->bz,wpAny_loadName_local->Hx,wpAny_loadPart_at->Fd,wpAny_mono->nc,wpAny_newFunctionEnv->vk,wpAny_newList->Gs,wpAny_newObj_type->Dc,wpAny_of_eq->Lx,wpAny_passesOwn->dh,wpAny_pure->ga,wpAny_pyIter_enum->GC,wpAny_pyIter_list->Zh,wpAny_pyIter_slot->IC,wpAny_pyIter_tuple->DA,wpAny_pyIter_zip->VF,wpAny_rule->Jq,wpAny_runValue->Lq,wpAny_seqItems->Kh,wpAny_sequenceKey->BC,wpAny_setEntries_of->Cf,wpAny_setEpoch_of->JC,wpAny_setField->eg,wpAny_setState_of->Xe,wpAny_specialOf->wJ,wpAny_standAt->Zr,wpAny_storeSet_of->HC,wpAny_truthy_bool->qc,wpAny_tryCatch->De,wpAny_typeOf->dj,wpAny_updateSeq->gh,wp_field_iff->Vu,wp_setField_iff->uJ
open PySem.Around renaming frames_deeper->cq
open PySem.Bind renaming checkArgs->Nf
open PySem.BindsTo renaming of_defaults->ce
open PySem.Builtin renaming bitAnd->ge
open PySem.Builtin.Frozenset renaming newClass->Px,updateFrom->Qx
open PySem.Builtin.List renaming listExtendWith->EJ,listLengthHint->Nj,listSameRef->jl,listTooLong->Ag,listTouch->DJ
open PySem.Builtin.Range renaming rangeSize->aG
open PySem.Builtin.Slice renaming sliceAdjust->Xj,sliceApplied->dG,slicePartIndex->cG,slicePlaces->gg
open PySem.Builtin.Tuple renaming tupleExact->wg,tupleItemsOf->Mj
open PySem.Calls renaming Name_function_global->Ym,callWith_builtin->Vh,call_function_entry->Nn,evalArgs_plain->Ni
open PySem.CmpOp renaming In->aP,NotIn->NC
open PySem.DictEntry renaming refKey->zaF
open PySem.EntryCells renaming newEntry->Go
open PySem.F renaming args_tuple_add_2->eh,called_set->Uc,entry_min_loop->Lh,entry_tuple_add->oh,plainAttrs_dict->pf,plainAttrs_list->uh,plain_extend_loop->Sm,plain_list_iadd->Mn,plain_min_loop->se,slot_dict_items->rh,slot_dict_setdefault->Rl,slot_dict_update->Zm,slot_list_append->dn,slot_set_iter->Ro,slot_tuple_add->Jh,type_dict_items->Pn,type_list_append->jn
open PySem.Heap renaming ExtBut->Mm,FlyingW->OC,HeldW->Qn,SameBut->Yc,get?_eq_some->Uu,get?_push_of_some->da,get?_push_size->Ea,get?_update_other->Ae,get?_update_self->yc,lt_size->xa,size_push->Oc
open PySem.Heap.DictOf renaming new->UO
open PySem.Heap.IsSliceOf renaming new->CC
open PySem.Heap.IsTuple renaming push->vJ
open PySem.Heap.SameBut renaming refl->yJ,update->Wb
open PySem.Heap.UpToSlots renaming of_keeps->FC
open PySem.IsL renaming update->zaA
open PySem.Manifest renaming signature?->jg
open PySem.NameKind renaming cell->wc,free->Bb
open PySem.Obj renaming cls_mapFields->Sl,data_mapFields->ec,isFreed_of_fields->Qe,mapFields->Fp,mapSeq->Fe,putSet->mv
open PySem.PassesOwn renaming leaving->zaC,looking->zaD
open PySem.Sem renaming wp_bind'->Ql,wp_mono->Ds
open PySem.SeqAt renaming EqAt->Wc,RcAt->Sg,RcNeAt->Jg,in_listAt->pw,in_tupleAt->Qu,notIn_listAt->Cs,notIn_tupleAt->mr
open PySem.SeqAt.EqAt renaming bool_bool->JX,bool_int->LX,bool_none->IX,bool_str->MX,int_bool->PX,int_int->QX,int_none->OX,int_str->Oo,none_bool->FX,none_int->GX,none_str->HX,same->Vj,str_bool->SX,str_int->Po,str_none->RX,str_str->UX
open PySem.SetTable renaming below->Le,fresh->Et,grown->Af,has->uw,insertAt->qj
open PySem.SetTable.below renaming go->wn
open PySem.SetTable.probe renaming go->ig
open PySem.Shared renaming TypeIs->Rn
open PySem.Str renaming ofString->ui
open PySem.Value renaming bool->Lj,int->Tl,isInt->MC,isInt_shape->xt,isStrOf->kz,none->rc,ref->Xb,str->av,type->Wh
open PySem.W renaming callWith_K->fh,cellsFrom_some->AA,hideAll_get->pJ,kia_one->gf,kitx_dict->BX,kitx_list->AX,looks_findIn->SF,looks_mroIn->Nq,methodCall_KW->Xi,mg_of->Es,of_hideAll->Xr,plainGet_of->Iq
open PySem.W.WData renaming int->CJ
open PySem.Walks renaming list->Kj
open PySem.WalksT renaming zip2->EA
open PySem.Within renaming cons->qJ
open PySem.pickOrder renaming go->yn
open PySem PyProof.Rows
abbrev ac:=List PySem.Str
abbrev b':=List PySem.Addr
abbrev dN:=List PySem.Value
abbrev em:=List Int
abbrev gV:=List Nat
abbrev g':=List (PySem.Addr × PySem.Obj)
noncomputable section
namespace L2
open Spec
abbrev Vc:=Sum Int Str
noncomputable def HB:Vc->Value->Bool
 | .inl k,v=>MC k v
 | .inr x,v=>kz x v
noncomputable def zSY(w:Ta):Vc->Int
 | .inl k=>hashInt k
 | .inr x=>hashStr w x
theorem Ju:∀ {k:Vc} {v:Value},HB k v=U2->(∃ i t,k=Sum.inl i/\v=Tl i t)\/(∃ x t,k=Sum.inr x/\v=av x t)
 | .inl i,v,h=>by
  obtain⟨t,e⟩:=xt h;exact .inl ⟨i,t,rfl,e⟩
 | .inr x,v,h=>by
  obtain⟨t,e⟩:=Value.isStrOf_shape (v:=v) h;exact .inr ⟨x,t,rfl,e⟩
def ă i t:HB (.inl i) (.int i t)=U2:=by simp[HB,MC]
def Ē x t:HB (.inr x) (.str x t)=U2:=by simp[HB,kz]
def Ï a b:decide ((Sum.inl a:Vc)=Sum.inl b)=(a == b):=by
 by_cases e:a=b;all_goals simp_all
def Z9 a b:decide ((Sum.inr a:Vc)=Sum.inr b)=decide (a=b):=by
 simp_all
def ē a b:decide ((Sum.inl a:Vc)=Sum.inr b)=ŝ:=re (λq=>nomatch q)
def Ż a b:decide ((Sum.inr a:Vc)=Sum.inl b)=ŝ:=re (λq=>nomatch q)
def dt(c:Aa)(w:Ta):PySem.KeyKind c w Vc where
 is:=HB
 hash:=zSY w
 inj:=λv a b g f=>by
  rcases Ju g with⟨i,t,rfl,rfl⟩|⟨x,t,rfl,rfl⟩
  ·rcases Ju f with⟨j,u,rfl,e⟩|⟨y,u,rfl,e⟩
   ·injection e with e1 _;rw[e1]
   ·exact nomatch e
  ·rcases Ju f with⟨j,u,rfl,e⟩|⟨y,u,rfl,e⟩
   ·exact nomatch e
   ·injection e with e1 _;rw[e1]
 byValue:=λk v h=>by
  rcases Ju h with⟨i,t,rfl,rfl⟩|⟨x,t,rfl,rfl⟩<;>rfl
 pyHash:=λd h=>by
  rcases Ju d with⟨i,t,rfl,rfl⟩|⟨x,t,rfl,rfl⟩
  ·exact wpAny_pyHash_int h
  ·exact wpAny_pyHash_str h
 eqBool:=λl d h=>by
  rcases Ju l with⟨i,t,rfl,rfl⟩|⟨x,t,rfl,rfl⟩
  ·rcases Ju d with⟨j,u,rfl,rfl⟩|⟨y,u,rfl,rfl⟩
   ·rw[Ï]at h;exact wpAny_eqBool_int h
   ·rw[ē]at h;exact Oo i t y u _ _ _ _ h
  ·rcases Ju d with⟨j,u,rfl,rfl⟩|⟨y,u,rfl,rfl⟩
   ·rw[Ż]at h;exact Po x t j u _ _ _ _ h
   ·rw[Z9]at h;exact wpAny_eqBool_str h
 «strs»:=λk x t v h=>by
  rcases Ju h with⟨i,u,rfl,e⟩|⟨y,u,rfl,e⟩
  ·exact nomatch e
  ·injection e with e1 _;subst e1;cases v<;>rfl
def OZ a w i t:(dt a w).is (.inl i) (.int i t)=U2:=ă i t
def ò a w x t:(dt a w).is (.inr x) (.str x t)=U2:=Ē x t
inductive V where
 |Nb|bl (b:Bool)|int (i:Int)|str (x:Str)|WG (b:Array UInt8)|rA (b:UInt64)|ref (a:Addr)|ty (n:String)
 deriving DecidableEq
abbrev h8:=List V
def yd:V->Value->Prop
 | .Nb,u=>u=rc
 | .bl b,u=>u=Lj b
 | .int i,u=>∃ t,u=Tl i t
 | .str x,u=>∃ t,u=av x t
 | .WG b,u=>∃ t,u=Value.bytes b t
 | .rA b,u=>∃ t,u=Value.float b t
 | .ref a,u=>u=Xb a
 | .ty n,u=>u=Wh n
abbrev ke:h8->dN->Prop:=Paired yd
def ke.length(r:ke xs a):xs.length=a.length:=Paired.length r
theorem ke.get:∀ {xs:h8} {us:dN} {i:Nat} {x:V},ke xs us->xs[i]?=SY x->∃ u,us[i]?=SY u/\yd x u
 |_,_,_,_,.nil,e=>by simp at e
 |_,_,0,_,.cons r _,e=>by simp at e;subst e;exact⟨_,rfl,r⟩
 |_,_,i+1,x,.cons _ t,e=>by
  obtain⟨u,a,b⟩:=ke.get (i:=i) (x:=x) t (by simpa using e);exact⟨u,by simpa using a,b⟩
theorem ke.set(r:yd x u):∀ {xs:h8} {us:dN} (i:Nat),ke xs us->ke (xs.set i x) (us.set i u)
 |_,_,_,.nil=>.nil
 |_,_,0,.cons _ t=>.cons r t
 |_,_,i+1,.cons q t=>.cons q (ke.set r i t)
theorem ke.append{xs a:h8}{us ws}(h:ke xs us)(s:ke a ws):ke (xs++a) (us++ws):=by
 induction h with
 |nil=>exact s
 |cons r _ i=>exact .cons r i
theorem ke.take:∀ {xs:h8} {us:dN} (n:Nat),ke xs us->ke (xs.take n) (us.take n)
 |_,_,0,_=>.nil
 |_,_,_+1,.nil=>.nil
 |_,_,n+1,.cons r t=>.cons r (ke.take n t)
theorem ke.drop:∀ {xs:h8} {us:dN} (n:Nat),ke xs us->ke (xs.drop n) (us.drop n)
 |_,_,0,r=>r
 |_,_,_+1,.nil=>.nil
 |_,_,n+1,.cons _ t=>ke.drop n t
def Qp:Option V->Option Value->Prop
 |some v,SY u=>yd v u
 |none,ń=>True
 |_,_=>False
def KV{a:Type}:List (a × V)->List (a × Value)->Prop:=Paired λ(p:a × V) (q:a × Value)=>p.1=q.1/\yd p.2 q.2
noncomputable def kV:Vc->V
 | .inl i=>.int i
 | .inr x=>.str x
inductive HO where
 |ia (xs:h8)
 |nb (xs:h8)
 |dK (kvs:List (Vc × V))
 |set (S:Int->Bool) (n:Nat)
 |Eb (C dx:Addr) (fs:List (Str × V))
 |own (x:Addr)
 |xd (fs:List (Str × V))
 |met (f x:Addr)
 |bI (lo hi:Int)
 |ud (o:Obj) (u:HO)
 |ul (ps:Array Value)
 |ext (φ:Heap->Prop)
abbrev Hp:=Addr->Option HO
noncomputable def Fb(H:Hp)(a:Addr)(o:HO):Hp:=λb=>if b=a then SY o else H b
def ng:Fb H a o a=SY o:=by unfold Fb;rw[na rfl]
def ee(h:b≠a):Fb H a o b=H b:=by unfold Fb;rw[ya h]
def wQ{H:Hp}(h:H a=SY o)(c:H b=SY u)(d:o≠u):a≠b:=by
 intro e;subst e;rw[h]at c;exact d$ Ub c
def zev{H:Hp}(h:H a=SY o)(c:H b=ń):a≠b:=by
 intro e;subst e;rw[h]at c;cases c
section
variable(P:Aa)(w:Ta)
inductive Sx(h:Heap)(a:Addr)(xs:h8):Prop
 |mk (f1:xs.length<=sizeLine) (its:dN) (n:Nat) (f2:ke xs its) (f3:h.get? a=SY { cls:=.type "list",data:=.seq its.toArray n }):Sx h a xs
inductive Ey(h:Heap)(a:Addr)(xs:h8):Prop
 |mk (f1:xs.length<=sizeLine) (its:dN) (f2:ke xs its) (f3:Bt h a its.toArray):Ey h a xs
inductive Hy(H:Hp)(h:Heap)(a C dx:Addr)(fs:List (Str × V)):Prop
 |mk (f1:H dx=SY (.own a)) (f2:fs.length<=1000) (f3:dx≠a) (f4:h.get? a=SY (W.instObj C dx)) (mA:Str->Option Value) (f5:h.Ns1 dx mA) (f6:(∀ f,Qp (fs.lookup f) (mA f))) (f7:PySem.Within mA (fs.map (·.1))):Hy H h a C dx fs
def Rk(H:Hp)(h:Heap)(a:Addr):HO->Prop
 | .ia xs=>Sx h a xs
 | .nb xs=>Ey h a xs
 | .dK b=>b.length<=sizeLine/\(a == gj)=ŝ/\∃ i,KV b i/\h.DictOf (dt P w) a i
 | .set S n=>h.SetOf (Mf P w) a S n
 | .Eb C j c=>Hy H h a C j c
 | .own _=>∃ o,h.get? a=SY o
 | .xd c=>∃ g,h.Ns1 a g/\∀ f,Qp (c.lookup f) (g f)
 | .bI lo k=>∃ t u v,h.get? a=SY { cls:=.type "range",data:=.fields #[.int lo t,.int k u,.int 1 v] }
 | .ud o u=>h.get? a=SY o/\Rk H h a u
 | .ul ps=>h.get? a=SY { cls:=.none,data:=.fields ps }
 | .met f x=>h.get? a=SY (W.methodObj (.ref f)$ .ref x)
 | .ext φ=>φ h/\(∃ o,h.get? a=SY o)/\∀ d e:Heap,φ d->(∀ o,d.get? a=SY o->e.get? a=SY o)->φ e
def Fi(H:Hp)(h:Heap):Prop:=∀ a o,H a=SY o->Rk P w H h a o
end
section
variable{P:Aa}{w:Ta}{H H':Hp}{h h':Heap}{a:Addr}{o:HO}
def Rk.lt(x:Rk P w H h a o):a<h.objs.size:=by
 cases o with
 |ia xs=>obtain⟨_,_,_,_,e⟩:=x;exact xa e
 |nb xs=>obtain⟨_,_,_,p⟩:=x;exact p.lt
 |dK c=>obtain⟨_,_,_,_,o,_,_,e,_⟩:=x;exact xa e
 |set S n=>obtain⟨o,_,_,_,e,_⟩:=x;exact xa e
 |Eb C d b=>obtain⟨_,_,_,e,_⟩:=x;exact xa e
 |own y=>obtain⟨_,e⟩:=x;exact xa e
 |xd b=>obtain⟨_,⟨_,_,_,e,_⟩,_⟩:=x;exact xa e
 |bI lo g=>obtain⟨_,_,_,e⟩:=x;exact xa e
 |ud i u=>obtain⟨e,_⟩:=x;exact xa e
 |ul ps=>exact xa$ x
 |met f y=>exact xa$ x
 |ext j=>obtain⟨_,⟨_,e⟩,_⟩:=x;exact xa e
theorem Paired.Mr:∀ {c:List e} {d:List g},Paired F c d->(∀ a b,F a b->G a b)->Paired G c d:=by
 intro _ _ h f;induction h with
 |nil=>exact .nil
 |cons r _ i=>exact .cons (f _ _ r) i
def Rk.Yj(x:Rk P w H h a o)(k:∀ b u,(b=a\/H b=SY (.own a))->h.get? b=SY u->h'.get? b=SY u)
  (B:∀ b,H b=SY (.own a)->H' b=SY (.own a)) (K:∀ b xs,H b=SY (.nb xs)->H' b=SY (.nb xs)):Rk P w H' h' a o:=by
 induction o with
 |ia xs=>obtain⟨z,j,n,r,e⟩:=x;exact⟨z,j,n,r,k _ _ (.inl rfl) e⟩
 |nb xs=>obtain⟨z,j,r,ob,e,c⟩:=x;exact⟨z,j,r,ob,k _ _ (.inl rfl) e,c⟩
 |dK E=>obtain⟨z,y,G,r,ob,i,g,e,c⟩:=x;exact⟨z,y,G,r,ob,i,g,k _ _ (.inl rfl) e,c⟩
 |set S n=>obtain⟨ob,i,g,t,e,c⟩:=x;exact⟨ob,i,g,t,k _ _ (.inl rfl) e,c⟩
 |Eb C I A=>
  obtain⟨d,z,F,e,l,⟨m,i,g,s,c⟩,r,w⟩:=x;exact⟨B _ d,z,F,k _ _ (.inl rfl) e,l,⟨m,i,g,k _ _ (.inr d) s,c⟩,r,w⟩
 |own y=>obtain⟨ob,e⟩:=x;exact⟨ob,k _ _ (.inl rfl) e⟩
 |xd A=>obtain⟨l,⟨m,i,g,e,c⟩,r⟩:=x;exact⟨l,⟨m,i,g,k _ _ (.inl rfl) e,c⟩,r⟩
 |bI lo J=>obtain⟨t,u,v,e⟩:=x;exact⟨t,u,v,k _ _ (.inl rfl) e⟩
 |ud ob u D=>obtain⟨e,q⟩:=x;exact⟨k _ _ (.inl rfl) e,D q⟩
 |ul ps=>
  have e:=x;exact k a _ (.inl rfl) e
 |met f y=>
  have e:=x;exact k a _ (.inl rfl) e
 |ext L=>obtain⟨p,⟨o,e⟩,st⟩:=x;exact⟨st _ _ p λo q=>k _ _ (.inl rfl) q,⟨o,k _ _ (.inl rfl) e⟩,st⟩
def Fi.lt(x:Fi P w H h)(e:H a=SY o):a<h.objs.size:=(x a o e).lt
def Fi.fresh(x:Fi P w H h)(e:h.objs.size<=a):H a=ń:=by
 cases q:H a with
 |none=>rfl
 |some u=>exact absurd (La (x.lt q) e)$ Ld _
def Fi.kept(x:Fi P w H h)(k:∀ b u,h.get? b=SY u->h'.get? b=SY u):Fi P w H h':=λa o e=>
 (x a o e).Yj (λb u c q=>k b u q) (λc q=>q) λc c q=>q
def Fi.laid(x:Fi P w H h)(k:∀ b u,h.get? b=SY u->h'.get? b=SY u)(i:h.objs.size<=a)(d:Rk P w (Fb H a o) h' a o):Fi P w (Fb H a o) h':=λb u e=>by
 have g:=x.fresh i;by_cases f:b=a
 ·subst f;rw[ng]at e;cases e;exact d
 ·rw[ee f]at e;exact(x b u e).Yj (λc v j q=>k c v q) (λc q=>by rw[ee$ zev q g];exact q) λc xs q=>by rw[ee$ zev q g];exact q
end
def Rd(H:Hp)(a:Addr)(u:HO):Prop:=H a=SY u\/∃ o,H a=SY (.ud o u)
def Rd.ok(r:Rd H a u)(x:Fi P w H h):Rk P w H h a u:=by
 rcases r with r|⟨o,r⟩
 ·exact x a u r
 ·obtain⟨_,q⟩:=x a _ r;exact q
def VE:Option HO->Prop
 |some (.ia _)=>True
 |some (.dK _)=>True
 |some (.set _ _)=>True
 |some (.Eb _ _ _)=>True
 |some (.ext _)=>True
 |_=>False
section
variable{P:Aa}{w:Ta}{H:Hp}{h h':Heap}{x e:Addr}{o':HO}
def Fi.write(ok:Fi P w H h)(g:VE$ H x)(p:e=x\/H e=SY (.own x))(k:∀ b u,b≠e->h.get? b=SY u->h'.get? b=SY u)(i:∃ u,h'.get? e=SY u)
  (j:Rk P w (Fb H x o') h' x o'):Fi P w (Fb H x o') h':=λb u q=>by
 have d:∀ c y,H c=SY (.own y)->c≠x:=λc y r z=>by subst z;rw[r]at g;exact g
 have f:∀ c xs,H c=SY (.nb xs)->c≠x:=λc xs r z=>by subst z;rw[r]at g;exact g
 by_cases l:b=x
 ·subst l;rw[ng]at q;cases q;exact j
 ·rw[ee l]at q;by_cases a:b=e
  ·have n:H b=SY (.own x):=by
    simp_all
   rw[q]at n;cases n;obtain⟨v,o⟩:=i;exact⟨v,by rw[a];exact o⟩
  ·refine(ok b u q).Yj (λc v m r=>k c v ?_ r) (λc r=>by rw[ee$ d c b r];exact r) λc xs r=>by rw[ee$ f c xs r];exact r
   rcases m with rfl|m
   ·exact a
   ·rintro rfl
    simp_all
end
structure Un(fs ex:b')(H H':Hp)(h h':Heap):Prop where
 keep:∀ b o,h.get? b=SY o->H b=ń->b ∉ fs->b ∉ ex->h'.get? b=SY o
 slot:∀ b o,h.get? b=SY o->H b=ń->b∈fs->b ∉ ex->∃ sl,h'.get? b=SY { o with slots:=sl }
 free:∀ b o,h.get? b=SY o->H b=ń->b ∉ ex->H' b=ń
 there:∀ b o,h.get? b=SY o->b ∉ ex->∃ o',h'.get? b=SY o'
 xm:∀ b xs,H b=SY (.nb xs)->H' b=SY (.nb xs)
 Ij:∀ b o u,H b=SY (.ud o u)->H' b=SY (.ud o u)
 Kl:∀ b ps,H b=SY (.ul ps)->∃ more,H' b=SY (.ul (ps++more))
section
variable{fs fs' ex ex':b'}{H H1 H2:Hp}{h h1 h2 h':Heap}{a x e:Addr}{o:HO}
def Un.any(u:Un fs ex H H1 h h1){a}(q:h.get? b=SY a)(n:H b=ń)(d:b ∉ ex):∃ e,h1.get? b=SY { a with slots:=e }:=by
 by_cases c:b∈fs
 ·exact u.slot b a q n c d
 ·exact⟨a.slots,u.keep b a q n c d⟩
def Un.kept(k:∀ b u,h.get? b=SY u->h'.get? b=SY u):Un fs ex H H h h':=
 ⟨λb a q c c c=>k b a q,λb a q c c c=>⟨a.slots,k b a q⟩,λc c c n c=>n,λb a q c=>⟨a,k b a q⟩,λc c q=>q,λc c c q=>q,λc ps q=>⟨#[],by rw[q];simp⟩⟩
def Un.refl:Un fs ex H H h h:=Un.kept λa a q=>q
def Un.laid(k:∀ b u,h.get? b=SY u->h'.get? b=SY u)(d:h.objs.size<=a)(c:H a=ń):Un fs ex H (Fb H a o) h h' where
 keep:=λb u q e e e=>k b u q
 slot:=λb u q e e e=>⟨u.slots,k b u q⟩
 free:=λb u q n e=>by rw[ee$ za$ La (xa q) d];exact n
 there:=λb u q e=>⟨u,k b u q⟩
 xm:=λb xs q=>by rw[ee$ zev q c];exact q
 Ij:=λb u xs q=>by rw[ee$ zev q c];exact q
 Kl:=λb ps q=>⟨#[],by rw[ee$ zev q c,q];simp⟩
def Un.write(a:VE$ H x)(l:e=x\/H e=SY (.own x))(k:∀ b u,b≠e->h.get? b=SY u->h'.get? b=SY u)(g:∃ u,h'.get? e=SY u):Un fs ex H (Fb H x o) h h':=by
 have i:∀ b,H b=ń->b≠x:=λb n z=>by subst z;rw[n]at a;exact a
 have d:∀ b,H b=ń->b≠e:=λb n z=>by
  simp_all
 have c:∀ b u,H b=SY u->¬ VE (SY u)->b≠x:=λb u q j z=>by subst z;rw[q]at a;exact j a
 refine⟨λb u q n m m=>k b u (d b n) q,λb u q n m m=>⟨u.slots,k b u (d b n) q⟩,λb u q n m=>by rw[ee$ i b n];exact n,λb u q m=>?_,
  λb xs q=>by rw[ee (c b _ q λz=>z)];exact q,λb u xs q=>by rw[ee (c b _ q λz=>z)];exact q,λb ps q=>⟨#[],by rw[ee (c b _ q λz=>z),q];simp⟩⟩
 by_cases f:b=e;all_goals simp_all
end
noncomputable def PQ(h:Heap)(H:Hp):b':=(List.range h.objs.size).filter λa=>(H a).isSome
def Yx(h:Heap)(H:Hp):Heap:=W.hideAll h$ PQ h H
def A6 h H:(Yx h H).objs.size=h.objs.size:=W.hideAll_size _ _
def zl4(e:h.get? b=SY o)(n:H b=ń):(Yx h H).get? b=SY o:=
 pJ _ e λa=>by
  have q:=(yg.mp a).2
  simp_all
def o6(e:(Yx h H).get? b=SY o):h.get? b=SY o/\H b=ń:=by
 have a:=Xr _ e;refine⟨a,?_⟩;cases q:H b with
 |none=>rfl
 |some x=>
  have c:b∈PQ h H:=yg.mpr ⟨Wi.mpr$ xa a,by simp[q]⟩;have z:(Yx h H).get? b=ń:=W.hideAll_none _ c
  simp_all
noncomputable def ńz(g h:Heap)(L:Addr):List$ Addr × Obj:=(List.range h.objs.size).filterMap λa=>if a=L\/(g.get? a).isSome=U2 then ń else (h.get? a).map λo=>(a,o)
def rest(g h:Heap)(L d:Addr):List$ Addr × Obj:=(ńz g h L).filter λp=>decide$ p.1≠d
structure Mod(K:W.Frag)(mg:Str->Option Value)(base:Heap):Prop where
 fw:K.In base
 glob:base.Ns mainGlobals mg
 blt:∃ mb,base.Ns builtinsNs mb/\∀ x:Str,x ≠ "__name__"->mb x=bootBuiltins x
 nolimit:base.NoLimit
set_option genInjectivity false in
structure Cx where
 prog:Aa
 w:Ta
 K:W.Frag
 mg:Str->Option Value
 base:Heap
 A:Ma
 N:ac
 s₀:Shared
 H₀:Hp
 env:vg
 outer:List vg
 stack:List vg
 ex:b'
 fn:Str->Bool
 Lb:Bool
 pn:g'
 xe:Value->Shared->Prop
noncomputable def Oj(l:List vg):b':=l.filterMap (·.frame)
abbrev Cx.fs(X:Cx):b':=Oj X.outer
def NE(sc:Scope)(x:Str):Prop:=sc.names.lookup x=SY .local\/sc.names.lookup x=SY .cell\/sc.names.lookup x=SY .free
def Loc(sc:Scope)(x:Str):Prop:=sc.names.lookup x=SY .local\/sc.names.lookup x=SY .cell
def zU2(a:vg)(h:Heap)(m:Str->Option Value)(x:Str)(u:Value):Prop:=
 (a.kindOf x=SY .local/\m x=SY u)\/((a.kindOf x=SY .cell\/a.kindOf x=SY .free)/\∃ c,a.cells.lookup x=SY c/\h.IsCell c (SY u))
structure Cx.Ok(X:Cx):Prop where
 mod:Mod X.K X.mg X.base
 kind:X.env.scope.kind=.function
 glob:X.env.globals=mainGlobals
 blt:X.env.builtins=builtinsNs
 above:X.s₀.heap.objs.size<=X.env.locals
 inj:∀ x y c,X.env.cells.lookup x=SY c->X.env.cells.lookup y=SY c->x=y
 has:∀ x,(X.env.kindOf x=SY .cell\/X.env.kindOf x=SY .free)->∃ c,X.env.cells.lookup x=SY c
 VB:∀ x c,X.fn x=U2->X.env.cells.lookup x=SY c->X.s₀.heap.objs.size<=c
 hd:X.Lb=U2->X.A.handled=ń
 frames:X.A.frames=SY X.stack
 Ap:X.stack=X.outer\/(X.stack=X.env::X.outer/\X.env.frame=SY X.env.locals)
 wF:∀ b∈X.ex,b≠X.env.locals/\∀ x c,X.env.cells.lookup x=SY c->c≠b
 bs:∀ b o,X.base.get? b=SY o->X.s₀.heap.get? b=SY o/\X.H₀ b=ń
 su:X.base.objs.size<=X.s₀.heap.objs.size
 Er:∀ b o,X.base.get? b=SY o->b ∉ X.ex
 Ur:∀ b∈X.ex,b ∉ X.fs
 dk:X.s₀.heap.FunFrames X.base X.outer
 Sy:∀ b∈X.fs,X.H₀ b=ń
structure gb(X:Cx)(pins:g')(σ:List (Option V))(H:Hp)(s:Shared):Prop where
 ok:X.Ok
 os:s.os=X.s₀.os
 bare:vh s.gens
 base:Un X.fs X.ex X.H₀ H X.s₀.heap s.heap
 loc:∃ m,s.heap.Ns X.env.locals m/\∀ (i:Nat) (x:Str) (v:V),X.N[i]?=SY x->σ[i]?=SY (SY v)->NE X.env.scope x->∃ u,yd v u/\zU2 X.env s.heap m x u
 cell:∀ x c,X.env.cells.lookup x=SY c->∃ v,s.heap.IsCell c v
 free:H X.env.locals=ń
 Gg:∀ x c,X.env.cells.lookup x=SY c->H c=ń
 pin:∀ p∈X.pn++pins,s.heap.get? p.1=SY p.2/\H p.1=ń/\p.1≠X.env.locals/\p.1 ∉ X.fs/\∀ v,p.2.data≠.cell v
 Kc:Fi X.prog X.w H s.heap
 len:σ.length=X.N.length
section
variable{X:Cx}{pins:List$ Addr × Obj}{σ:List$ Option V}{H H':Hp}{s:Shared}{h':Heap}
def Cx.Ok.RL(ok:X.Ok)(e:X.base.get? b=SY o):b ∉ X.fs:=λa=>by
 have:=(ok.dk.mem a).1
 simp_all
def gb.bs(I:gb X pins σ H s):∀ b o,X.base.get? b=SY o->s.heap.get? b=SY o/\H b=ń:=λb o e=>
 ⟨I.base.keep b o (I.ok.bs b o e).1 (I.ok.bs b o e).2 (I.ok.RL e)$ I.ok.Er b o e,I.base.free b o (I.ok.bs b o e).1 (I.ok.bs b o e).2$ I.ok.Er b o e⟩
def gb.bk(I:gb X pins σ H s):∀ b o,X.base.get? b=SY o->s.heap.get? b=SY o:=λb o e=>(I.bs b o e).1
def gb.mod(I:gb X pins σ H s):Mod X.K X.mg X.base:=I.ok.mod
def gb.Li(I:gb X pins σ H s):X.K.In s.heap:=I.ok.mod.fw.keeps I.bk
def gb.nolimit(I:gb X pins σ H s):s.heap.NoLimit:=I.ok.mod.nolimit.keeps I.bk
def gb.lt(I:gb X pins σ H s):X.env.locals<s.heap.objs.size:=let ⟨_,a,_⟩:=I.loc;a.lt
def gb.sz(I:gb X pins σ H s):X.s₀.heap.objs.size<=s.heap.objs.size:=zb I.ok.above$ jd I.lt
def gb.sD(I:gb X pins σ H s)(h:s.heap.objs.size<=a):a ∉ X.fs:=λb=>by
 obtain⟨_,o,c,_⟩:=I.ok.dk.mem b;exact absurd (La (xa c)$ zb I.sz h)$ Ld _
def gb.OO(I:gb X pins σ H s):∀ x c,X.env.cells.lookup x=SY c->c≠X.env.locals:=λx c e z=>by
 obtain⟨v,o,h,g⟩:=I.cell x c e;obtain⟨m,⟨i,f,d,b,a,_⟩,_⟩:=I.loc
 simp_all
def gb.dk(I:gb X pins σ H s):s.heap.FunFrames X.base X.outer:=by
 have a:∀ l,(∀ b∈Oj l,b∈X.fs)->X.s₀.heap.FunFrames X.base l->s.heap.FunFrames X.base l:=by
  intro l;induction l with
  |nil=>intro _ _;trivial
  |cons env r n=>
   rintro g ⟨i,⟨L,o,f,j,k,h⟩,m⟩;have c:=g L (by unfold Oj;rw[af,f];exact va);obtain⟨p,e⟩:=I.base.slot L o k (I.ok.Sy L c) c λz=>I.ok.Ur L z c;exact⟨i,⟨L,_,f,j,e,h⟩,n (λb d=>g b (by unfold Oj;rw[af,f];exact ja _ d)) m⟩
 exact a X.outer (λq d=>d) I.ok.dk
def gb.stack(I:gb X pins σ H s):s.heap.FunFrames X.base X.stack:=by
 rcases I.ok.Ap with e|⟨e,a⟩
 ·rw[e];exact I.dk
 ·rw[e];obtain⟨m,b,_⟩:=I.loc;exact .cons (by rw[I.ok.kind];decide) a b (Heap.get?_none_of_le$ zb I.ok.su I.ok.above) I.dk
def gb.yq(I:gb X pins σ H s):∀ b∈Oj X.stack,b∈X.env.locals::X.fs:=λb a=>by
 rcases I.ok.Ap with e|⟨e,c⟩
 ·rw[e]at a;exact ja _ a
 ·rw[e]at a;unfold Oj at a
  rwa [af,c]at a
def gb.Aj(I:gb X pins σ H s):∀ b∈Oj X.stack,H b=ń:=λb a=>by
 rcases Ba.mp (I.yq b a)with e|a
 ·rw[e];exact I.free
 ·obtain⟨_,o,c,_⟩:=I.ok.dk.mem a;exact I.base.free b o c (I.ok.Sy b a) λz=>I.ok.Ur b z a
def gb.step{ch:b'}(I:gb X pins σ H s)
  (h:∀ b∈ch,(b∈X.ex\/X.s₀.heap.objs.size<=b)/\b≠X.env.locals/\(∀ x c,X.env.cells.lookup x=SY c->c≠b)/\∀ p∈X.pn++pins,p.1≠b)
  (j:∀ b o,b≠X.env.locals->b ∉ X.fs->b ∉ ch->s.heap.get? b=SY o->H b=ń->h'.get? b=SY o)
  (B:∀ b o,b≠X.env.locals->b∈X.fs->b ∉ ch->s.heap.get? b=SY o->H b=ń->∃ Q,h'.get? b=SY { o with slots:=Q }) (f:∀ b o,b ∉ ch->s.heap.get? b=SY o->H b=ń->H' b=ń)
  (D:∀ b o,b ∉ ch->s.heap.get? b=SY o->∃ L,h'.get? b=SY L)
  (N:∀ b xs,H b=SY (.nb xs)->H' b=SY (.nb xs)) (G:∀ b o u,H b=SY (.ud o u)->H' b=SY (.ud o u)) (M:∀ b ps,H b=SY (.ul ps)->∃ J,H' b=SY (.ul$ ps++J))
  (ns:∀ m,s.heap.Ns X.env.locals m->h'.Ns X.env.locals m) (P:Fi X.prog X.w H' h') (ϊ:vh S) :
  gb X pins σ H' { s with heap:=h',gens:=S,drawn:=d',toks:=t' }:=by
 have K:∀ b o,X.s₀.heap.get? b=SY o->b≠X.env.locals:=λb o e=>za$ La (xa e) I.ok.above;have A:∀ b o,X.s₀.heap.get? b=SY o->b ∉ X.ex->b ∉ ch:=λb o e a C=>by
  rcases(h b C).1 with z|z
  ·exact a z
  ·exact absurd (La (xa e) z)$ Ld _
 have g:∀ x c,X.env.cells.lookup x=SY c->∀ v,s.heap.IsCell c v->h'.IsCell c v:=λx c e v ⟨o,E,O⟩=>by
  have t:c ∉ ch:=λz=>(h c z).2.2.1 x c e rfl;by_cases T:c∈X.fs
  ·obtain⟨Q,q⟩:=B c o (I.OO x c e) T t E (I.Gg x c e);exact⟨_,q,O⟩
  ·exact⟨o,j c o (I.OO x c e) T t E$ I.Gg x c e,O⟩
 refine⟨I.ok,I.os,ϊ,⟨λb o e n C a=>?_,λb o e n C a=>?_,λb o e n a=>?_,λb o e a=>?_,λb xs e=>N b xs$ I.base.xm b xs e,λb o xs e=>G b o xs$ I.base.Ij b o xs e,λb ps e=>?_⟩,?_,λx c e=>?_,?_,λx c e=>?_,λp ό=>?_,P,I.len⟩
 ·exact j b o (K b o e) C (A b o e a) (I.base.keep b o e n C a)$ I.base.free b o e n a
 ·obtain⟨Q,y⟩:=I.base.slot b o e n C a;obtain⟨R,F⟩:=B b _ (K b o e) C (A b o e a) y (I.base.free b o e n a);exact⟨R,F⟩
 ·obtain⟨L,y⟩:=I.base.there b o e a;exact f b L (A b o e a) y$ I.base.free b o e n a
 ·obtain⟨L,y⟩:=I.base.there b o e a;exact D b L (A b o e a) y
 ·obtain⟨m1,y⟩:=I.base.Kl b ps e;obtain⟨m2,F⟩:=M b _ y;exact⟨m1++m2,by rw[F,Yr]⟩
 ·obtain⟨m,hn,hl⟩:=I.loc;refine⟨m,ns m hn,λi x v y F ϋ=>?_⟩;obtain⟨u,r,l⟩:=hl i x v y F ϋ;refine⟨u,r,?_⟩;rcases l with l|⟨k,c,e,z⟩
  ·exact .inl l
  ·exact .inr ⟨k,c,e,g x c e _ z⟩
 ·obtain⟨v,z⟩:=I.cell x c e;exact⟨v,g x c e v z⟩
 ·obtain⟨m,⟨o,_,_,E,_⟩,_⟩:=I.loc;exact f _ o (λz=>(h _ z).2.1 rfl) E I.free
 ·obtain⟨v,o,E,O⟩:=I.cell x c e;exact f c o (λz=>(h c z).2.2.1 x c e rfl) E$ I.Gg x c e
 ·obtain⟨e,n,V,W,d⟩:=I.pin p ό;have t:p.1 ∉ ch:=λz=>(h p.1 z).2.2.2 p ό rfl;exact⟨j p.1 p.2 V W t e n,f p.1 p.2 t e n,V,W,d⟩
def gb.un(I:gb X pins σ H s)(u:Un X.fs [] H H' s.heap h')(g:Fi X.prog X.w H' h'):gb X pins σ H' { s with heap:=h',toks:=t' }:=by
 obtain⟨m,⟨o,p,l,h,r⟩,_⟩:=id I.loc;obtain⟨v,i⟩:=u.any h I.free ⋯;exact I.step (d':=s.drawn) (ch:=[]) (λq z=>nomatch z) (λb o q f q e n=>u.keep b o e n f ⋯) (λb o q f q e n=>u.slot b o e n f ⋯) (λb o q e n=>u.free b o e n ⋯) (λb o q e=>u.there b o e ⋯) u.xm u.Ij u.Kl (λq j=>by
  obtain⟨t,d,c,a,k⟩:=j;rw[h]at a;cases a;exact⟨_,d,c,i,k⟩) g I.bare
def gb.call(I:gb X pins σ H s)(u:Un (Oj X.stack) ch H H' s.heap h')(j:Fi X.prog X.w H' h')(t:vh k)
  (d:∀ b∈ch,(b∈X.ex\/X.s₀.heap.objs.size<=b)/\b≠X.env.locals/\(∀ x c,X.env.cells.lookup x=SY c->c≠b)/\∀ p∈X.pn++pins,p.1≠b) :
  gb X pins σ H' { s with heap:=h',gens:=k,drawn:=d',toks:=t' }:=by
 obtain⟨m,⟨o,B,A,l,r⟩,_⟩:=id I.loc;obtain⟨E,i⟩:=u.any l I.free λz=>(d _ z).2.1 rfl;exact I.step d (λb o i q a e n=>u.keep b o e n (λz=>(Ba.mp$ I.yq b z).elim i q) a) (λb o C C a e n=>u.any e n a) (λb o a e n=>u.free b o e n a) (λb o a e=>u.there b o e a) u.xm u.Ij u.Kl (λC v=>by
  obtain⟨D,h,g,f,y⟩:=v;rw[l]at f;cases f;exact⟨_,h,g,i,y⟩) j t
def gb.turned(I:gb X pins σ H s)(k:∀ b o,b≠it->s.heap.get? b=SY o->h'.get? b=SY o)(y:H it=ń)(f:it≠X.env.locals)
  (i:it∈X.ex\/X.s₀.heap.objs.size<=it) (j:∀ x c,X.env.cells.lookup x=SY c->c≠it) (l:∀ p∈X.pn++pins,p.1≠it):gb X pins σ H { s with heap:=h',toks:=t' }:=by
 have d:∀ b u,H b=SY u->b≠it:=λb u e z=>by rw[z,y]at e;cases e
 refine I.step (ch:=[it]) (λb t=>?_) (λb o m m a e m=>k b o (λz=>a (by simp[z])) e) (λb o m m a e m=>⟨o.slots,k b o (λz=>a (by simp[z])) e⟩) (λm m m m n=>n)
  (λb o a e=>⟨o,k b o (λz=>a (by simp[z])) e⟩) (λm m e=>e) (λm m m e=>e) (λb ps e=>⟨#[],by rw[e];simp⟩) (λm w=>?_) (λb u e=>?_) I.bare
 ·have e:b=it:=by simpa using t
  subst e;exact⟨i,f,j,l⟩
 ·obtain⟨o,h,g,A,r⟩:=w;exact⟨o,h,g,k _ o (Ud f) A,r⟩
 ·refine(I.Kc b u e).Yj (λc v a q=>k c v ?_ q) (λm q=>q) λm m q=>q;rcases a with z|z
  ·rw[z];exact d b u e
  ·exact d c _ z
def gb.tok(I:gb X pins σ H s) t:gb X pins σ H { s with toks:=t }:=I.un Un.refl I.Kc
def gb.kept(I:gb X pins σ H s)(k:∀ b u,s.heap.get? b=SY u->h'.get? b=SY u):gb X pins σ H { s with heap:=h',toks:=t' }:=I.un (Un.kept k)$ I.Kc.kept k
def gb.laid(I:gb X pins σ H s)(k:∀ b u,s.heap.get? b=SY u->h'.get? b=SY u)(c:s.heap.objs.size<=a)(d:Rk X.prog X.w (Fb H a o) h' a o) :
  gb X pins σ (Fb H a o) { s with heap:=h',toks:=t' }:=I.un (Un.laid k c$ I.Kc.fresh c)$ I.Kc.laid k c d
def gb.write(I:gb X pins σ H s)(f:VE$ H x)(d:e=x\/H e=SY (.own x))(k:∀ b u,b≠e->s.heap.get? b=SY u->h'.get? b=SY u)(a:∃ u,h'.get? e=SY u)
  (c:Rk X.prog X.w (Fb H x o) h' x o):gb X pins σ (Fb H x o) { s with heap:=h',toks:=t' }:=I.un (Un.write f d k a)$ I.Kc.write f d k a c
def gb.Ci(I:gb X pins σ H s)(h:∀ p∈a,s.heap.get? p.1=SY p.2/\H p.1=ń/\p.1≠X.env.locals/\p.1 ∉ X.fs/\∀ v,p.2.data≠.cell v):gb X a σ H s:=
 ⟨I.ok,I.os,I.bare,I.base,I.loc,I.cell,I.free,I.Gg,λp b=>(jb.mp b).elim (λz=>I.pin p$ Wa _ z)$ h p,I.Kc,I.len⟩
def FR{N:ac}(e:N.Nodup){i j:Nat}(a:N[i]?=SY x)(b:N[j]?=SY x):i=j:=by
 obtain⟨f,c⟩:=aa.mp a;obtain⟨g,d⟩:=aa.mp b;exact(kw e).mp$ c.trans d.symm
def oP(I:gb X pins σ H s)(hN:X.N.Nodup)(T:X.N[i]?=SY x)(B:Loc X.env.scope x)(r:yd v u)
  (h:∀ s',gb X pins (σ.set i$ SY v) H s'->(∃ a,Yc a s.heap s'.heap/\(a=X.env.locals\/X.env.cells.lookup x=SY a))->Q () s') (hf:X.fn x=U2\/X.env.scope.names.lookup x=SY .local:=by first|exact .inl rfl|exact .inr rfl|assumption):wpAny M A (YF X.env x u) Q E s:=by
 obtain⟨m,hn,hl⟩:=id I.loc;have S:(X.env.scope.kind == .class || (X.env.scope.kind == .module && X.env.locals != X.env.globals))=ŝ:=by rw[I.ok.kind];rfl
 have F:i<σ.length:=by rw[I.len];exact(aa.mp T).1
 have J:=I.OO;have l:∀ {a:Addr} {h':Heap},(∃ o,s.heap.get? a=SY o/\H a=ń)->Yc a s.heap h'->Fi X.prog X.w H h':=fun {a h'} ha f b ob e=>by
  obtain⟨_,_,C⟩:=ha;refine(I.Kc b ob e).Yj (λc w' t q=>(f.2 c ?_).trans q) (λU q=>q) λU U q=>q;rintro rfl;rcases t with rfl|t
  ·rw[C]at e;cases e
  ·rw[C]at t;cases t
 rcases B with G|G
 ·refine wpAny_storeName_local G hn (λh' a0 f=>?_) S;apply b_;intro z_;obtain⟨oL,_,_,a1,_⟩:=id hn;apply z_;refine h _ ⟨I.ok,I.os,I.bare,⟨λb o e n K B=>?_,λb o e n K B=>?_,I.base.free,λb o e B=>?_,I.base.xm,I.base.Ij,I.base.Kl⟩,⟨_,a0,λj y v' g D e3=>?_⟩,λy c e=>?_,I.free,I.Gg,λp hp=>?_,l ⟨oL,a1,I.free⟩ f,by simpa using I.len⟩ ⟨_,f,.inl rfl⟩
  ·exact(f.2 b$ za$ La (xa e) I.ok.above).trans$ I.base.keep b o e n K B
  ·obtain⟨sl,g⟩:=I.base.slot b o e n K B;exact⟨sl,(f.2 b$ za$ La (xa e) I.ok.above).trans g⟩
  ·obtain⟨o',g⟩:=I.base.there b o e B;exact⟨o',(f.2 b$ za$ La (xa e) I.ok.above).trans g⟩
  ·by_cases O:j=i
   ·subst O;rw[T]at g;cases g;rw[Ia F]at D;cases D;exact⟨u,r,.inl ⟨G,by simp⟩⟩
   ·rw[Za$ Ud O]at D;obtain⟨u',r',q⟩:=hl j y v' g D e3;refine⟨u',r',?_⟩;rcases q with⟨k,e⟩|⟨k,c,e,z⟩
    ·refine .inl ⟨k,?_⟩;have:y≠x:=λe=>O$ FR hN g$ e ▸ T;simp[this,e]
    ·exact .inr ⟨k,c,e,z.sameBut f$ J y c e⟩
  ·obtain⟨w',z⟩:=I.cell y c e;exact⟨w',z.sameBut f$ J y c e⟩
  ·obtain⟨e,n,ϊ,nf,d⟩:=I.pin p hp;exact⟨(f.2 p.1 ϊ).trans e,n,ϊ,nf,d⟩
 ·have L:X.fn x=U2:=by
   rcases hf with z|z
   ·exact z
   ·rw[z]at G;cases G
  obtain⟨c,t⟩:=I.ok.has x (.inl G);obtain⟨w',z⟩:=I.cell x c t;refine wpAny_storeName_cell I.ok.kind G t z (λh' P f=>?_);obtain⟨oc,ό,W⟩:=id z;refine h { s with heap:=h' } ⟨I.ok,I.os,I.bare,⟨λb o e n K B=>?_,λb o e n K B=>?_,I.base.free,λb o e B=>?_,I.base.xm,I.base.Ij,I.base.Kl⟩,⟨m,hn.sameBut f$ Ud$ J x c t,λj y v' g D e3=>?_⟩,λy ϋ e=>?_,I.free,I.Gg,λp hp=>?_,l ⟨oc,ό,I.Gg x c t⟩ f,by simpa using I.len⟩ ⟨c,f,.inr t⟩
  ·exact(f.2 b$ za$ La (xa e)$ I.ok.VB x c L t).trans$ I.base.keep b o e n K B
  ·obtain⟨sl,g⟩:=I.base.slot b o e n K B;exact⟨sl,(f.2 b$ za$ La (xa e)$ I.ok.VB x c L t).trans g⟩
  ·obtain⟨o',g⟩:=I.base.there b o e B;exact⟨o',(f.2 b$ za$ La (xa e)$ I.ok.VB x c L t).trans g⟩
  ·by_cases O:j=i
   ·subst O;rw[T]at g;cases g;rw[Ia F]at D;cases D;exact⟨u,r,.inr ⟨.inl G,c,t,P⟩⟩
   ·rw[Za$ Ud O]at D;obtain⟨u',r',q⟩:=hl j y v' g D e3;refine⟨u',r',?_⟩;rcases q with q|⟨k,ϋ,e,z'⟩
    ·exact .inl q
    ·refine .inr ⟨k,ϋ,e,z'.sameBut f ?_⟩;rintro rfl;exact O$ FR hN g$ I.ok.inj _ _ _ e t ▸ T
  ·by_cases R:ϋ=c
   ·subst R;exact⟨_,P⟩
   ·obtain⟨w2,z2⟩:=I.cell y ϋ e;exact⟨w2,z2.sameBut f R⟩
  ·obtain⟨e,n,ϊ,nf,d⟩:=I.pin p hp;refine⟨(f.2 p.1 ?_).trans e,n,ϊ,nf,d⟩;intro q;rw[q,ό]at e;have q':oc=p.2:=Ub e;exact d w' (by rw[<-q'];exact W)
def YK(I:gb X pins σ H s)(c:X.N.Nodup)(e:X.N[i]?=SY x)(f:Loc X.env.scope x)(r:yd v u)
  (h:∀ a,gb X pins (σ.set i$ SY v) H a->Q () a) (d:X.fn x=U2\/X.env.scope.names.lookup x=SY .local:=by first|exact .inl rfl|exact .inr rfl|assumption):wpAny M A (YF X.env x u) Q E s:=
 oP I c e f r (λa b g=>h a b) d
def gb.Lu(I:gb X pins σ H s)(g:s'.os=s.os)(u:Un (Oj X.stack) ch H H' s.heap s'.heap)(d:Fi X.prog X.w H' s'.heap)(f:vh s'.gens)
  (a:∀ b∈ch,(b∈X.ex\/X.s₀.heap.objs.size<=b)/\b≠X.env.locals/\(∀ x c,X.env.cells.lookup x=SY c->c≠b)/\∀ p∈X.pn++pins,p.1≠b):gb X pins σ H' s':=by
 obtain⟨h',h,d',t',i⟩:=s';have e:=g;subst e;exact I.call u d f a
end
abbrev XK:=Value->Option Addr->Hp->Prop
abbrev St:=List$ Option V
abbrev VK:=V->Hp->Prop
abbrev TE:=St->Hp->VK->Prop
abbrev TT:=St->Hp->(Bool->Hp->Prop)->Prop
abbrev TA:=St->Hp->(h8->Hp->Prop)->Prop
set_option genInjectivity false in
structure ll where
 nx:St->Hp->Prop
 rt:VK
 bk:St->Hp->Prop:=λa a=>False
 ct:St->Hp->Prop:=λa a=>False
abbrev TS:=ll->St->Hp->Prop
inductive EP(X:Cx)(pins:g')(σ:St)(Q:VK)(u:Value)(s':Shared):Prop
 |mk (v:V) (H':Hp) (f1:gb X pins σ H' s') (f2:yd v u) (f3:Q v H'):EP X pins σ Q u s'
inductive TP(X:Cx)(pins:g')(σ:St)(Q:Bool->Hp->Prop)(b:Bool)(s':Shared):Prop
 |mk (H':Hp) (f1:gb X pins σ H' s') (f2:Q b H'):TP X pins σ Q b s'
inductive AP(X:Cx)(pins:g')(σ:St)(Q:h8->Hp->Prop)(us:dN)(s':Shared):Prop
 |mk (vs:h8) (H':Hp) (f1:gb X pins σ H' s') (f2:ke vs us) (f3:Q vs H'):AP X pins σ Q us s'
inductive NP(X:Cx)(pins:g')(Q:St->Hp->Prop)(s':Shared):Prop
 |mk (σ':St) (H':Hp) (f1:gb X pins σ' H' s') (f2:Q σ' H'):NP X pins Q s'
inductive RP(X:Cx)(pins:g')(Q:VK)(u:Value)(s':Shared):Prop
 |mk (v:V) (σ':St) (H':Hp) (f1:gb X pins σ' H' s') (f2:yd v u) (f3:Q v H'):RP X pins Q u s'
def SP(X:Cx)(a:List$ Addr × Obj)(D:ll)(f:Flow)(b:Shared):Prop:=
 match f with
 | .next=>NP X a D.nx b
 | .brk=>NP X a D.bk b
 | .cont=>NP X a D.ct b
 | .ret u=>RP X a D.rt u b
def PE(X:Cx)(e:Na)(t:TE):Prop:=
 ∀ a s σ H Q,gb X a σ H s->t σ H Q->wpAny (model X.prog X.w) X.A (Mb e X.env) (EP X a σ Q) X.xe s
def PT(X:Cx)(e:Na)(t:TT):Prop:=
 ∀ a s σ H Q,gb X a σ H s->t σ H Q->wpAny (model X.prog X.w) X.A (JA e X.env$ Mb e X.env) (TP X a σ Q) X.xe s
def PW(X:Cx)(e:Na)(t:TT):Prop:=
 ∀ a pins s σ H Q,gb X pins σ H s->t σ H Q->wpAny (model X.prog X.w) X.A (JA e X.env a) (TP X pins σ Q) X.xe s
def PW.pt(h:PW X e t):PT X e t:=h _
def PA(X:Cx)(b:List Na)(t:TA):Prop:=
 ∀ a pins s σ H Q,gb X pins σ H s->t σ H Q->wpAny (model X.prog X.w) X.A (spliced$ Zb a$ qa b X.env) (AP X pins σ Q) X.xe s
def PS(X:Cx)(st:Stmt)(t:TS):Prop:=
 ∀ a s σ H D,gb X a σ H s->t D σ H->wpAny (model X.prog X.w) X.A (exec st X.env) (SP X a D) X.xe s
def Jv(X:Cx)(st:List Stmt)(t:TS):Prop:=
 ∀ a s σ H D,gb X a σ H s->t D σ H->wpAny (model X.prog X.w) X.A (execs st X.env) (SP X a D) X.xe s
def pd{t:Um c}{Q b}(h:wpAny M A t Q E s)(d:∀ a s,Q a s->b a s):wpAny M A t b E s:=nc h d λe e x=>x
section
variable{X:Cx}
def bin(p:PE X a k)(q:PE X b l){R:V->V->Hp->Prop}(I:gb X c e H s)(h:k e H λx j=>l e j λy d=>R x y d) {Q} {f:Value->Value->Um m}
  (r:∀ v u s2 x y d,gb X c e d s2->yd x v->yd y u->R x y d->wpAny (model X.prog X.w) X.A (f v u) Q X.xe s2) :
  wpAny (model X.prog X.w) X.A (Mb a X.env) (λv g=>wpAny (model X.prog X.w) X.A (Mb b X.env) (λu i=>wpAny (model X.prog X.w) X.A (f v u) Q X.xe i) X.xe g) X.xe s:=by
 refine pd (p c s e H _ I h) λv s1 zZ=>?_;obtain⟨x,j,n,B,t⟩:=zZ;refine pd (q c s1 e j _ n t) λu s2 zZ=>?_;obtain⟨y,d,o,C,z⟩:=zZ;exact r v u s2 x y d o B C z
noncomputable def dS(i:Nat):TE:=λa H Q=>∃ v,a[i]?=SY (SY v)/\Q v H
noncomputable def tC(v:V):TE:=λa H Q=>Q v H
def qQ(n:X.N[i]?=SY x)(t:NE X.env.scope x)(g: ~~~((x == ("__debug__" : Str))=ŝ))(f: ~~~((x == ("__classdict__" : Str))=ŝ)):PE X (.Name x j)$ dS i:=by
 intro d s w H Q I h;obtain⟨v,e,h⟩:=h;obtain⟨m,q,o⟩:=I.loc;obtain⟨u,r,l⟩:=o i x v n e t;have Df:EP X d w Q u s:=⟨v,H,I,r,h⟩
 rcases l with⟨b,p⟩|⟨b,c,k,a⟩
 ·exact zA (Hx I.ok.kind b q p Df) g
 ·rcases b with b|b
  ·exact zA (bz I.ok.kind b k a Df) g
  ·exact zA (wpAny_loadName_free I.ok.kind b k a Df f) g
def E4{i j pos}:PE X (.Constant (.int i) j pos)$ tC$ .int i:=λa a a H a I h=>wpAny_Constant_int ⟨.int i,H,I.tok _,⟨_,rfl⟩,h⟩
def j6{b j pos}:PE X (.Constant (.bool b) j pos)$ tC$ .bl b:=λa a a H a I h=>Constant_bool ⟨.bl b,H,I,rfl,h⟩
def q8{j pos}:PE X (.Constant .none j pos)$ tC .Nb:=λa a a H a I h=>Constant_none ⟨.Nb,H,I,rfl,h⟩
def Ŋ{x j pos}:PE X (.Constant (.str x) j pos)$ tC$ .str x:=λa a a H a I h=>Calls.Constant_str ⟨.str x,H,I.tok _,⟨_,rfl⟩,h⟩
def Gl(X:Cx)(x:Str):Prop:=X.env.kindOf x=SY .globalImplicit
def pA(I:gb X a f H s)(d:Gl X x)(e:X.mg x=SY u)(h:Q u s)
  (c: ~~~((x == ("__debug__" : Str))=ŝ)):wpAny (model X.prog X.w) X.A (Mb (.Name x b) X.env) Q E s:=
 Ym I.ok.kind d (Calls.loadGlobal_global (by rw[I.ok.glob];exact I.mod.glob.keeps I.bk) e h) c
def ax(I:gb X a k H s)(f:Gl X x)(g:X.mg x=ń)(j:bootBuiltins x=SY u)(h:Q u s)
  (i: ~~~(x ≠ "__name__")) (e: ~~~((x == ("__debug__" : Str))=ŝ)):wpAny (model X.prog X.w) X.A (Mb (.Name x b) X.env) Q E s:=by
 obtain⟨l,c,d⟩:=I.mod.blt;exact Ym I.ok.kind f (Calls.loadGlobal_builtin (by rw[I.ok.glob];exact I.mod.glob.keeps I.bk) g (by rw[I.ok.blt];exact c.keeps I.bk) ((d x i).trans j) h) e
def NI(c:Gl X x)(d:X.mg x=SY u)(r:yd v u)(b: ~~~((x == ("__debug__" : Str))=ŝ)):PE X (.Name x a)$ tC v:=
 λe e e H e I h=>pA I c d ⟨v,H,I,r,h⟩ b
def ŝz(c:Gl X x)(d:X.mg x=ń)(f:bootBuiltins x=SY u)(r:yd v u)(e: ~~~(x ≠ "__name__"))(b: ~~~((x == ("__debug__" : Str))=ŝ)):PE X (.Name x a)$ tC v:=
 λg g g H g I h=>ax I c d f ⟨v,H,I,r,h⟩ e b
variable{a b:Na}{ta tb:TE}{pos:Vd}
def PC(X:Cx)(f:km)(a b:Na)(t:TE):Prop:=
 ∀ c s σ H Q,gb X c σ H s->t σ H Q->
  wpAny (model X.prog X.w) X.A (Mb a X.env) (λv d=>wpAny (model X.prog X.w) X.A (Mb b X.env) (λu e=>wpAny (model X.prog X.w) X.A (yb f v u) (EP X c σ Q) X.xe e) X.xe d) X.xe s
def Œ b{a}(h:a≠.In)(e:a≠.NotIn):Td a b=ŝ:=by
 have c:(a == aP)=ŝ:=by cases a<;>first|rfl|exact absurd rfl h
 have d:(a == NC)=ŝ:=by cases a<;>first|rfl|exact absurd rfl e
 cases b with
 |Set x y z=>show (y == 0&&(a == aP||a == NC)&&_)=ŝ;rw[c,d,Bool.or_false,Bool.and_false];rfl
 |_=>rfl
noncomputable def tB(t:TE):TT:=λb H Q=>t b H λx a=>∃ c,x=.bl c/\Q c a
def yhx(h:PC X g a b t)(f:Td g b=ŝ:=by first|exact Œ _ ⋯ ⋯|rfl):PT X (.Compare a [g] [b] pos)$ tB t:=by
 intro e s n H Q I k;refine lw (pd (h e s n H _ I k) λv s1 f=>pd f λu s2 j=>pd j λc s3 ſ=>?_) f;obtain⟨x,H1,i,m,l⟩:=ſ;obtain⟨d,rfl,q⟩:=l;cases m;exact qc ⟨H1,i,q⟩
def Ê(h:PE X e t)(f:∀ a,JA e X.env a=(do let v <-a;wh e.pos;Be [v] (truthy v)):=by intro _;rfl):PT X e$ tB t:=by
 intro b s k H Q I g;refine isTrue_plain (pd (h b s k H _ I g) λv s1 ⟨x,H1,c,j,i⟩=>?_)$ f _;obtain⟨d,rfl,q⟩:=i;cases j;exact qc ⟨H1,c,q⟩
variable{tA tB':TT}{rest:List Na}
noncomputable def yxl(t u:TT):TT:=λb H Q=>t b H λc a=>if c=U2 then u b a Q else Q ŝ a
noncomputable def kY(t u:TT):TT:=λb H Q=>t b H λc a=>if c=U2 then Q U2 a else u b a Q
noncomputable def Ų(t:TT):TT:=λb H Q=>t b H λc a=>Q (!c) a
def Q4(d:PT X a tA):PW X (.BoolOp .And [a] pos) tA:=by
 intro g b s f H Q I h;refine isTrue_and (pd (d b s f H Q I h) λc s1 e=>?_);cases c with
 |true=>exact isTrue_and_nil e
 |false=>exact e
def Ł(d:PT X a tA):PW X (.BoolOp .Or [a] pos) tA:=by
 intro g b s f H Q I h;refine isTrue_or (pd (d b s f H Q I h) λc s1 e=>?_);cases c with
 |false=>exact isTrue_or_nil e
 |true=>exact e
def Ċ(i:PT X a tA)(j:PW X (.BoolOp .And (b::rest) pos) tB'):PW X (.BoolOp .And (a::b::rest) pos)$ yxl tA tB':=by
 intro k d s g H Q I h;refine isTrue_and (pd (i d s g H _ I h) λc s1 ſ=>?_);obtain⟨H1,e,f⟩:=ſ;cases c with
 |true=>exact j k d s1 g H1 Q e f
 |false=>exact⟨H1,e,f⟩
def Ë(i:PT X a tA)(j:PW X (.BoolOp .Or (b::rest) pos) tB'):PW X (.BoolOp .Or (a::b::rest) pos)$ kY tA tB':=by
 intro k d s g H Q I h;refine isTrue_or (pd (i d s g H _ I h) λc s1 ſ=>?_);obtain⟨H1,e,f⟩:=ſ;cases c with
 |true=>exact⟨H1,e,f⟩
 |false=>exact j k d s1 g H1 Q e f
def YZ(e:PT X a tA):PT X (.UnaryOp .Not a pos)$ Ų tA:=by
 intro b s f H Q I h;refine isTrue_not (pd (e b s f H (λc d=>Q (!c) d) I h) λ_ _ zZ=>?_);obtain⟨d,i,q⟩:=zZ;exact ⟨d,i,q⟩
noncomputable def yq1(ta tb:TE):TE:=λb H Q=>ta b H λx a=>∃ c,x=.bl c/\if c=U2 then tb b a Q else Q (.bl ŝ) a
noncomputable def yxv(ta tb:TE):TE:=λb H Q=>ta b H λx a=>∃ c,x=.bl c/\if c=U2 then Q (.bl U2) a else tb b a Q
noncomputable def Ă(ta:TE):TE:=λb H Q=>ta b H λx a=>∃ c,x=.bl c/\Q (.bl$ !c) a
def OY{op}(h:PE X a t):PE X (.BoolOp op [a] pos) t:=λb s d H Q I c=>BoolOp_one$ h b s d H Q I c
def h9(i:PE X a ta)(j:PE X (.BoolOp .And (b::rest) pos) tb):PE X (.BoolOp .And (a::b::rest) pos)$ yq1 ta tb:=by
 intro d s g H Q I h;refine BoolOp_and (pd (i d s g H _ I h) λv s1 ſ=>?_);obtain⟨x,H1,f,k,e⟩:=ſ;obtain⟨c,rfl,e⟩:=e;cases k;refine qc ?_;cases c with
 |true=>exact j d s1 g H1 Q f e
 |false=>exact⟨.bl ŝ,H1,f,rfl,e⟩
def fY(i:PE X a ta)(j:PE X (.BoolOp .Or (b::rest) pos) tb):PE X (.BoolOp .Or (a::b::rest) pos)$ yxv ta tb:=by
 intro d s g H Q I h;refine BoolOp_or (pd (i d s g H _ I h) λv s1 ſ=>?_);obtain⟨x,H1,f,k,e⟩:=ſ;obtain⟨c,rfl,e⟩:=e;cases k;refine qc ?_;cases c with
 |false=>exact j d s1 g H1 Q f e
 |true=>exact⟨.bl U2,H1,f,rfl,e⟩
def nZ(f:PE X a ta):PE X (.UnaryOp .Not a pos)$ Ă ta:=by
 intro b s i H Q I h;refine UnaryOp_ (pd (f b s i H _ I h) λv s1 ſ=>?_);obtain⟨x,H1,e,g,d⟩:=ſ;obtain⟨c,rfl,d⟩:=d;cases g;exact not_of$ qc ⟨.bl$ !c,H1,e,rfl,d⟩
noncomputable def C9(t:TT)(ta tb:TE):TE:=λa H Q=>t a H λc b=>if c=U2 then ta a b Q else tb a b Q
def X7(l:PT X c tA)(j:PE X a ta)(k:PE X b tb):PE X (.IfExp c a b pos)$ C9 tA ta tb:=by
 intro e s f H Q I h;refine wpAny_IfExp (pd (l e s f H _ I h) λd s1 ſ=>?_);obtain⟨H1,g,i⟩:=ſ;cases d with
 |true=>exact j e s1 f H1 Q g i
 |false=>exact k e s1 f H1 Q g i
end
def Me(K:W.Frag)(H:Hp)(a:Addr)(xs:h8):Prop:=
 Rd H a (.ia xs)\/
  ∃ (o:Obj) (b:Array Value) (n:Nat),K.lookup a=SY o/\o.cls=.type "list"/\o.dict=ń/\o.data=.seq b n/\b.size<=sizeLine/\ke xs b.toList
def Kg(K:W.Frag)(H:Hp)(a:Addr)(xs:h8):Prop:=
 Rd H a (.nb xs)\/
  ∃ (o:Obj) (b:Array Value) (n:Nat),K.lookup a=SY o/\o.cls=.type "tuple"/\o.data=.seq b n/\b.size<=sizeLine/\ke xs b.toList
noncomputable def Y1:Value->Option V
 | .none=>SY .Nb
 | .bool b=>SY (.bl b)
 | .int i _=>SY (.int i)
 | .str x _=>SY (.str x)
 | .bytes b _=>SY (.WG b)
 | .float b _=>SY (.rA b)
 | .ref a=>SY (.ref a)
 | .type n=>SY (.ty n)
 |_=>ń
theorem yd.abs(r:yd x u):Y1 u=SY x:=by
 cases x with
 |Nb=>cases r;rfl
 |bl _=>cases r;rfl
 |int _=>obtain⟨t,rfl⟩:=r;rfl
 |str _=>obtain⟨t,rfl⟩:=r;rfl
 |WG _=>obtain⟨t,rfl⟩:=r;rfl
 |rA _=>obtain⟨t,rfl⟩:=r;rfl
 |ref _=>cases r;rfl
 |ty _=>cases r;rfl
def yd.inj(r:yd x u)(q:yd y u):x=y:=Ub$ r.abs.symm.trans q.abs
theorem ke.inj{xs a:h8}{us}(h:ke xs us)(g:ke a us):xs=a:=by
 induction h generalizing a with
 |nil=>cases g;rfl
 |cons r t i=>cases g with|cons b c=>rw[r.inj b,i c]
section
variable{X:Cx}{pins:List$ Addr × Obj}{σ:St}{H:Hp}{s:Shared}{a:Addr}{xs ys:h8}
def Me.of{K}(h:H a=SY (.ia xs)):Me K H a xs:=.inl$ .inl h
def Kg.of{K}(h:H a=SY (.nb xs)):Kg K H a xs:=.inl$ .inl h
def gb.list(I:gb X pins σ H s)(h:Me X.K H a xs):∃ b:dN,ke xs b/\PlainL s.heap a b.toArray/\xs.length<=sizeLine:=by
 rcases h with h|⟨o,b,n,f,c,d,g,i,r⟩
 ·obtain⟨z,b,n,r,e⟩:=h.ok I.Kc;exact⟨b,r,⟨_,n,e,rfl,rfl,rfl⟩,z⟩
 ·refine⟨b.toList,r,⟨o,n,I.Li a o f,c,d,by simpa using g⟩,?_⟩;have e:=r.length;simp at e
  lia
def gb.tuple(I:gb X pins σ H s)(h:Kg X.K H a xs):∃ b:dN,ke xs b/\Bt s.heap a b.toArray/\xs.length<=sizeLine:=by
 rcases h with h|⟨o,b,n,d,c,f,g,r⟩
 ·obtain⟨z,b,r,p⟩:=h.ok I.Kc;exact⟨b,r,p,z⟩
 ·refine⟨b.toList,r,⟨o,I.Li a o d,c,n,by simpa using f⟩,?_⟩;have e:=r.length
  simp_all
def gb.Cj(I:gb X pins σ H s)(h:Me X.K H a xs)(h':Me X.K H a ys):xs=ys:=by
 obtain⟨b,r,⟨o,n,e,_,_,d⟩,_⟩:=I.list h;obtain⟨its',f,⟨i,g,c,_,_,d'⟩,_⟩:=I.list h';rw[e]at c;cases c;rw[d]at d';injection d' with d1 _;have:b=its':=by simpa using vd Array.toList d1
 subst this;exact r.inj f
def gb.Gr(I:gb X pins σ H s)(h:Kg X.K H a xs)(h':Kg X.K H a ys):xs=ys:=by
 obtain⟨b,r,⟨o,e,_,n,d⟩,_⟩:=I.tuple h;obtain⟨its',f,⟨i,c,_,g,d'⟩,_⟩:=I.tuple h';rw[e]at c;cases c;rw[d]at d';injection d' with d1 _;have:b=its':=by simpa using vd Array.toList d1
 subst this;exact r.inj f
end
section
variable{X:Cx}{st:Stmt}{rest:List Stmt}{t u:TS}{e:Na}{te:TE}{pos:Vd}
noncomputable def i5:TS:=λD a H=>D.nx a H
noncomputable def L9(t u:TS):TS:=λD a H=>t { D with nx:=u D } a H
def US:Jv X [] i5:=λb b a H b I h=>nj ⟨a,H,I,h⟩
def kW(e:PS X st t)(g:Jv X rest u):Jv X (st::rest)$ L9 t u:=by
 intro a s i H D I h;refine RF (pd (e a s i H { D with nx:=u D } I h) λf s1 q=>?_);cases f with
 |next=>
  obtain⟨b,c,d,q⟩:=q;exact g a s1 b c D d q
 |ret v=>exact q
 |brk=>exact q
 |cont=>exact q
def V3(b:PS X st t):Jv X [st] t:=by
 intro a s c H D I h;refine RF (pd (b a s c H D I h) λf s1 q=>?_);cases f with
 |next=>exact nj q
 |ret v=>exact q
 |brk=>exact q
 |cont=>exact q
def gb.quiet(I:gb X a b H s):interactive X.env=ŝ:=by simp[interactive,I.ok.kind]
noncomputable def đ(te:TE):TS:=λD a H=>te a H λc b=>D.nx a b
def ó(d:PE X e te)(f:(Ig e ń pos.line X.env=pure ŝ)⁻¹):PS X (.Expr e pos)$ đ te:=by
 intro a s b H D I h;exact wpAny_Expr_any (pd (d a s b H _ I h) (by rintro v s1 ⟨x,H1,c,i,g⟩;exact ⟨b,H1,c,g⟩)) I.quiet f
noncomputable def yxw(te:TE):TS:=λD a H=>te a H D.rt
def N9(d:PE X e te):PS X (.Return (SY e) pos)$ yxw te:=by
 intro a s b H D I h;refine wpAny_Return_some (pd (d a s b H _ I h) λv s1 zZ=>?_);obtain⟨x,H1,c,g,f⟩:=zZ;exact ⟨x,b,H1,c,g,f⟩
noncomputable def G2(c:TT)(t u:TS):TS:=λD a H=>c a H λb d=>if b=U2 then t D a d else u D a d
def jX(m:PT X c j)(k:Jv X a t)(l:Jv X b u):PS X (.If c a b pos)$ G2 j t u:=by
 intro e s f H D I h;refine wpAny_If (pd (m e s f H _ I h) λd s1 ſ=>?_);obtain⟨H1,g,i⟩:=ſ;cases d with
 |true=>exact k e s1 f H1 D g i
 |false=>exact l e s1 f H1 D g i
end
abbrev TG:=V->St->Hp->(St->Hp->Prop)->Prop
abbrev fy:=h8->St->Hp->(St->Hp->Prop)->Prop
def PG(X:Cx)(a:Na)(t:TG):Prop:=
 ∀ b s σ H v u Q,gb X b σ H s->yd v u->t v σ H Q->
  wpAny (model X.prog X.w) X.A (xk a X.env u) (λd c=>NP X b Q c) X.xe s
def yE(X:Cx)(d:List Na)(t:fy):Prop:=
 ∀ a s σ H b us Q,gb X a σ H s->ke b us->t b σ H Q->
  wpAny (model X.prog X.w) X.A (assignInOrder ((Yd d X.env).map (·.2)) us) (λe c=>NP X a Q c) X.xe s
abbrev JI:=V->V->V->Hp->(Hp->Prop)->Prop
def vN(X:Cx)(t:JI):Prop:=
 ∀ a s σ H o i v d c u Q,gb X a σ H s->yd o d->yd i c->yd v u->t o i v H Q->
  wpAny (model X.prog X.w) X.A (bv d c u) (λf e=>∃ b,gb X a σ b e/\Q b) X.xe s
abbrev hJ:=V->V->Hp->VK->Prop
def wM(X:Cx)(b:yk)(t:hJ):Prop:=
 ∀ a s σ H x y v u Q,gb X a σ H s->yd x v->yd y u->t x y H Q->
  wpAny (model X.prog X.w) X.A (ZF b v u) (EP X a σ Q) X.xe s
section
variable{X:Cx}{pos:Vd}
noncomputable def vW(i:Nat):TG:=λv a H Q=>Q (a.set i$ SY v) H
def Θ(c:X.N.Nodup)(e:X.N[i]?=SY x)(f:Loc X.env.scope x)(d:X.fn x=U2\/X.env.scope.names.lookup x=SY .local:=by first|exact .inl rfl|exact .inr rfl|assumption):PG X (.Name x pos)$ vW i:=by
 intro a s j H v u Q I r h;exact AC$ YK I c e f r (λg b=>⟨_,H,b,h⟩) d
noncomputable def n9:fy:=λa b H Q=>a=[]/\Q b H
noncomputable def Β(t:TG)(u:fy):fy:=λc d H Q=>∃ v r,c=v::r/\t v d H λa b=>u r a b Q
def N0:yE X [] n9:=by
 intro a s b H d c Q I r h;obtain⟨rfl,h⟩:=h;cases r;exact assignInOrder_nil ⟨b,H,I,h⟩
def sZ(f:PG X e t)(g:yE X b u)
  (i:((Yd (e::b) X.env).map (·.2)=xk e X.env::(Yd b X.env).map (·.2))⁻¹):yE X (e::b)$ Β t u:=by
 intro a s l H o m Q I r h;obtain⟨v,n,rfl,h⟩:=h;cases r with
 |cons r k=>
  rw[i];refine assignInOrder_cons (pd (f a s l H _ _ _ I r h) λ_ s1 zZ=>?_);obtain⟨c,H1,d,j⟩:=zZ;exact g a s1 c H1 _ _ Q d k j
noncomputable def CZ(K:W.Frag)(n:Nat)(t:fy):TG:=λv b H Q=>∃ a xs,v=.ref a/\Kg K H a xs/\xs.length=n/\t xs b H Q
def Λ(l:X.Lb=U2)(h:yE X d t)
  (p:((Yd d X.env).length=n)⁻¹) (f:((Yd d X.env).findIdx? (·.1)=ń)⁻¹):PG X (.Tuple d k pos)$ CZ X.K n t:=by
 intro c s i H v u Q I r g;obtain⟨a,xs,rfl,q,m,g⟩:=g;cases r;obtain⟨y,z,w,A⟩:=I.tuple q;refine assign_Tuple_tuple (I.ok.hd l) w (by simp[p,<-m,z.length]) f λh' x=>?_;have j:gb X c i H { s with heap:=h' }:=I.kept λb o e=>x b o (za$ xa e) e;exact h c _ i H xs _ Q j ⋯ g
noncomputable def CY(f e:TE)(t:JI):TG:=λv a H Q=>f a H λo b=>e a b λi c=>t o i v c λd=>Q a d
def DV(q:PE X o f)(p:PE X i e)(w:vN X t)
  (n:∀ v,xk (.Subscript o i pos) X.env v=(do
   let b <-Be [v] (Mb o X.env);let c <-Be [v,b] (Mb i X.env)
   wh pos
   Be [v,b,c] (bv b c v)
   release [v,b,c] []):=by intro _;rfl):PG X (.Subscript o i pos)$ CY f e t:=by
 intro a s d H v u Q I r h;rw[n];refine ba$ Yb (pd (q a s d H _ I h) λb s1 zZ=>?_);obtain⟨x,H1,k,C,z⟩:=zZ;refine ba$ Yb$ pd (p a s1 d H1 _ k z) λc s2 zZ=>?_;obtain⟨y,g,l,D,A⟩:=zZ;refine ba$ Zr$ ba$ Yb$ pd (w a s2 d g x y v b c u _ l C D r A) λ_ s3 zZ=>?_;obtain⟨j,m,B⟩:=zZ;exact wpAny_release ⟨d,j,m,B⟩
noncomputable def KQ(c:TE)(g:TG):TS:=λD a H=>c a H λx b=>g x a b D.nx
def pM(i:PE X e b)(j:PG X tg g)(k:(lm [tg] e pos.line X.env=pure ŝ)⁻¹)(l:(om [tg] e X.env=pure ń)⁻¹)
  (f:((Yd [tg] X.env).map (·.2)=[xk tg X.env])⁻¹):PS X (.Assign [tg] e pos)$ KQ b g:=by
 intro a s c H D I h;refine wpAny_Assign_stores (pd (i a s c H _ I h) λv s1 ſ=>?_) k l;obtain⟨x,H1,d,n,m⟩:=ſ;rw[f];exact pd (j a s1 c H1 x v _ d n m) λo s2 q=>q
def Ġ(g:X.N.Nodup)(l:X.N[i]?=SY x)(n:Loc X.env.scope x)(j:PE X e c)(m:(Ig e (SY$ .Name x a) pos.line X.env=pure ŝ)⁻¹)(k:X.fn x=U2\/X.env.scope.names.lookup x=SY .local:=by first|exact .inl rfl|exact .inr rfl|assumption) :
  PS X (.Assign [.Name x a] e pos)$ KQ c$ vW i:=by
 intro b s q H D I h;exact wpAny_Assign_Name (pd (j b s q H _ I h) (by rintro v s1 ⟨y,H1,d,p,o⟩;exact YK d g l n p (λs2 f=>⟨_,H1,f,o⟩) k)) m
noncomputable def EZ(i:Nat)(d:TE)(e:hJ):TS:=λD a H=>∃ x,a[i]?=SY (SY x)/\d a H λy b=>e x y b λz c=>D.nx (a.set i$ SY z) c
def PZ(M:X.N.Nodup)(t:X.N[i]?=SY x)(n:Loc X.env.scope x)(P:PE X e B)(ό:wM X o C)(Q:X.fn x=U2\/X.env.scope.names.lookup x=SY .local:=by first|exact .inl rfl|exact .inr rfl|assumption) :
  PS X (.AugAssign (.Name x f) o e pos)$ EZ i B C:=by
 intro a s E H D I h;apply b_;intro z_;obtain⟨v,L,h⟩:=h;obtain⟨m,T,R⟩:=I.loc;have p:NE X.env.scope x:=by rcases n with k|k;exact .inl k;exact .inr$ .inl k
 apply z_;obtain⟨u,r,l⟩:=R i x v t L p;refine wpAny_AugAssign_Name ?_;have q:wpAny (model X.prog X.w) X.A (Mb e X.env) (λw g=>wpAny (model X.prog X.w) X.A (ZF o u w) (λr j=>wpAny (model X.prog X.w) X.A (YF X.env x r) (λz=>SP X a D .next) X.xe j) X.xe g) X.xe s:=by
  refine pd (P a s E H _ I h) λw s1 zZ=>?_;obtain⟨y,H1,G,ϋ,V⟩:=zZ;refine pd (ό a s1 E H1 v y u w _ G r ϋ V) λz s2 zZ=>?_;obtain⟨zv,F,J,ϊ,W⟩:=zZ;exact YK J M t n ϊ (λs3 K=>⟨_,F,K,W⟩) Q
 rcases l with⟨b,S⟩|⟨b,c,O,d⟩
 ·exact Hx I.ok.kind b T S q
 ·rcases b with b|b
  ·exact bz I.ok.kind b O d q
  ·rcases n with k|k
   ·have:X.env.scope.names.lookup x=SY .free:=b;rw[k]at this;cases this
   ·have:X.env.scope.names.lookup x=SY .free:=b
    simp_all
noncomputable def IU(f:Int->Int->Int):hJ:=λx y H Q=>∃ i j,x=.int i/\y=.int j/\Q (.int$ f i j) H
def LS:wM X .Add (IU λi j=>i+j):=by
 rintro a s f H x y v u Q I d e ⟨i,j,b,c,q⟩;subst b;subst c;obtain⟨t,rfl⟩:=d;obtain⟨t',rfl⟩:=e;exact iadd_int ⟨.int _,H,I.tok _,⟨_,rfl⟩,q⟩
end
set_option genInjectivity false in
structure It where
 go:Nat->Hp->Prop
 LB:Nat->Hp->V->Hp->Prop
 stop:Nat->Hp->Prop
def Bl(X:Cx)(a:List$ Addr × Obj)(H:Hp)(b:Addr):Prop:=
 H b=ń/\b≠X.env.locals/\b ∉ X.fs/\(b∈X.ex\/X.s₀.heap.objs.size<=b)/\(∀ x c,X.env.cells.lookup x=SY c->c≠b)/\∀ p∈X.pn++a,p.1≠b
def gb.Yn(I:gb X a i H s)(d:s.heap.objs.size<=b)(g:f b=ń):Bl X a f b:=by
 refine⟨g,Jd$ La I.lt d,I.sD d,.inr$ zb I.sz d,λx c e z=>?_,λp h z=>?_⟩
 ·obtain⟨v,q⟩:=I.cell x c e;exact absurd (La q.lt$ by simp_all)$ Ld _
 ·exact absurd (La (xa (I.pin p h).1)$ by simp_all)$ Ld _
structure jo(P:Aa)(w:Ta)(K:W.Frag)(tg:Na)(J:It)(fp:b')(it:Addr)(tn:Nat->Heap->Prop):Prop where
 mem:it∈fp
 obj:∀ i h,tn i h->∀ b∈fp,∃ o,h.get? b=SY o/\∀ v,o.data≠.cell v
 keep:∀ i h h',tn i h->(∀ b∈fp,∀ o,h.get? b=SY o->h'.get? b=SY o)->tn i h'
 item:∀ (X:Cx),X.prog=P->X.w=w->X.K=K->X.Lb=U2->∀ (i:Nat) (pins:g') (s:Shared) (σ:St) (H:Hp) (E:Value->Shared->Prop),gb X pins σ H s->(∀ b∈fp,Bl X pins H b)->tn i s.heap->J.go i H->
  wpAny (model P w) X.A (pyNext (.ref it)) (λr s1=>∃ u,r=SY u/\
   wpAny (model P w) X.A (letOwnedTupleGo tg (.ref it) u) (λa s2=>∃ x H',gb X pins σ H' s2/\yd x u/\J.LB i H x H'/\tn (i+1) s2.heap/\∀ b∈fp,H' b=ń) E s1) E s
 done:∀ (X:Cx),X.prog=P->X.w=w->X.K=K->X.Lb=U2->∀ (i:Nat) (pins:g') (s:Shared) (σ:St) (H:Hp) (E:Value->Shared->Prop),gb X pins σ H s->(∀ b∈fp,Bl X pins H b)->tn i s.heap->J.stop i H->
  wpAny (model P w) X.A (pyNext (.ref it)) (λr s1=>r=ń/\gb X pins σ H s1) E s
 self:∀ (A:Ma) (i:Nat) (s:Shared) (Q:Value->Shared->Prop) (E:Value->Shared->Prop),tn i s.heap->Q (.ref it) s->wpAny (model P w) A (pyIter (.ref it)) Q E s
abbrev TI:=St->Hp->(It->Hp->Prop)->Prop
def WT(X:Cx)(a:List$ Addr × Obj)(i:St)(h:Na)(R:It->Hp->Prop)(d:Value)(s2:Shared):Prop:=
 ∃ (f:Addr) (e:b') (g:Nat->Heap->Prop) (J:It) (c:Hp),d=.ref f/\gb X a i c s2/\jo X.prog X.w X.K h J e f g/\g 0 s2.heap/\(∀ b∈e,Bl X a c b)/\R J c
def PI(X:Cx)(c b:Na)(d:TI):Prop:=
 ∀ a s σ H R,gb X a σ H s->d σ H R->
  wpAny (model X.prog X.w) X.A (Mb b X.env) (λv s1=>wpAny (model X.prog X.w) X.A (pyIter v) (WT X a σ c R) X.xe s1) X.xe s
def HI (g : s.heap.get? b = SY o) (e : o.cls = .type n) (f : o.data = .fields d)
    (h : ["enumerate","zip","dict_itemiterator","dict_reverseitemiterator","odict_iterator","itertools.zip_longest","itertools.pairwise"].contains n = ŝ) (a : Q () s) : wpAny M A (letOwnedTupleGo c (.ref b) u) Q E s := by
  cases c <;> first
    | exact ga a
    | (cases u <;> first
        | exact ga a
        | (refine ba$ Hm g ?_
           rw [e, f];show wpAny M A (if (["enumerate","zip","dict_itemiterator","dict_reverseitemiterator","odict_iterator","itertools.zip_longest","itertools.pairwise"].contains n && d[0]? == SY _) = U2 then _ else _) Q E s;rw [ya ⋯];exact ga a))
noncomputable def oO(K:W.Frag)(a:Addr):It:=
 ⟨λi H=>∃ xs x,Me K H a xs/\xs[i]?=SY x,λi H x b=>b=H/\∀ xs,Me K H a xs->xs[i]?=SY x,λi H=>∃ xs,Me K H a xs/\xs.length<=i⟩
noncomputable def vM(K:W.Frag)(a:Addr):It:=
 ⟨λi H=>∃ xs x,Kg K H a xs/\xs[i]?=SY x,λi H x b=>b=H/\∀ xs,Kg K H a xs->xs[i]?=SY x,λi H=>∃ xs,Kg K H a xs/\xs.length<=i⟩
noncomputable def mH(b:Int)(n:Nat):It:=⟨λi c=>i<n,λi H x a=>a=H/\x=.int (b+i),λi c=>n<=i⟩
def iZ{P:Aa}{w:Ta}{K:W.Frag}{tg:Na}(a j:Addr):jo P w K tg (oO K a) [j] j (λi h=>h.IsListIter j a i) where
 mem:=by simp
 obj:=λi h st b g=>by
  have e:b=j:=by simpa using g
  subst e;obtain⟨o,e,c,d⟩:=st
  grind
 keep:=λi h h' st k=>st.at λo e=>k j ⋯ o e
 item:=by
  intro X A C z J i f s L H E I m st B;subst A C z;obtain⟨xs,x,n,D⟩:=B;obtain⟨F,G,p,S⟩:=I.list n;obtain⟨u,Q,T⟩:=G.get D;obtain⟨q,r,O,t,v,y⟩:=m j ⋯;refine wpAny_pyNext_list_item st p.isList (x:=u) (by simpa using Q) λh' l sb=>?_;have M:gb X f L H { s with heap:=h' }:=I.turned (t':=s.toks) (λb o g e=>(sb.2 b g).trans e) q r t v y;obtain⟨o,e,c,d⟩:=id l;exact⟨u,rfl,HI (s:={ s with heap:=h' }) e c d ⋯ ⟨x,H,M,T,⟨rfl,λV R=>by rw[I.Cj R n];exact D⟩,l,λb g=>(m b g).1⟩⟩
 done:=by
  intro X A C z J i f s L H E I m st B;subst A C z;obtain⟨xs,n,D⟩:=B;obtain⟨F,G,p,S⟩:=I.list n;obtain⟨q,r,O,t,v,y⟩:=m j ⋯;have ό:=G.length;exact wpAny_pyNext_list_end (I.ok.hd J) st p.isList (by simp;lia) λh' N=>⟨rfl,I.turned (t':=s.toks) (λb o g e=>N b o g e) q r t v y⟩
 self:=λU U U U U st h=>wpAny_pyIter_listiter st h
def È{P:Aa}{w:Ta}{K:W.Frag}{tg:Na}(a j:Addr):jo P w K tg (vM K a) [j] j (λi h=>h.IsTupleIter j a i) where
 mem:=by simp
 obj:=λi h st b g=>by
  have e:b=j:=by simpa using g
  subst e;obtain⟨o,e,c,d⟩:=st
  simp_all
 keep:=λi h h' st k=>st.at λo e=>k j ⋯ o e
 item:=by
  intro X B D A J i f s L H E I n st C;subst B D A;obtain⟨xs,x,q,F⟩:=C;obtain⟨l,G,p,R⟩:=I.tuple q;obtain⟨u,ό,S⟩:=G.get F;obtain⟨r,t,O,v,y,z⟩:=n j ⋯;refine wpAny_pyNext_tuple_item st (show s.heap.IsTuple a l.toArray from p) (x:=u) ⋯ λh' m sb=>?_;have M:gb X f L H { s with heap:=h' }:=I.turned (λb o g e=>(sb.2 b g).trans e) r t v y z;obtain⟨o,e,c,d⟩:=id m;exact⟨u,rfl,HI e c d ⋯ ⟨x,H,M,S,⟨rfl,λV Q=>by rw[I.Gr Q q];exact F⟩,m,λb g=>(n b g).1⟩⟩
 done:=by
  intro X B D A J i f s L H E I n st C;subst B D A;obtain⟨xs,q,F⟩:=C;obtain⟨l,G,p,R⟩:=I.tuple q;obtain⟨r,t,O,v,y,z⟩:=n j ⋯;have T:=G.length;exact wpAny_pyNext_tuple_end (I.ok.hd J) st (show s.heap.IsTuple a l.toArray from p) (by simp;lia) λh' N=>⟨rfl,I.turned (t':=s.toks) (λb o g e=>N b o g e) r t v y z⟩
 self:=λU U U U U st h=>wpAny_pyIter_tupleiter st h
def x9{P:Aa}{w:Ta}{K:W.Frag}{tg:Na}(c:Addr)(A:Int)(n:Nat):jo P w K tg (mH A n) [c] c (λi h=>IsRangeIter h c (A+(i:Nat) * 1) ((n:Int) - (i:Nat)) 1) where
 mem:=by simp
 obj:=λi h st b d=>by
  simp_all
 keep:=λi h h' st k=>k c ⋯ _ st
 item:=by
  intro X u z r x i a s C H E I g st y;subst u z r;obtain⟨j,l,G,m,p,q⟩:=g c ⋯;refine(Walks.range (I.ok.hd x) c A 1 n).item i s _ _ y st λv h' B J f L=>?_;obtain⟨t,rfl⟩:=J;have D:gb X a C H { s with heap:=h',toks:=B }:=I.turned (λb o d e=>L b o ⋯ e) j l m p q;refine⟨_,rfl,HI (s:={ s with heap:=h',toks:=B }) (n:="range_iterator") f rfl rfl ⋯ ⟨.int _,H,D,⟨t,?_⟩,⟨rfl,rfl⟩,f,λb d=>(g b d).1⟩⟩;simp
 done:=by
  intro X u z r x i a s C H E I g st y;subst u z r;obtain⟨j,l,G,m,p,q⟩:=g c ⋯;exact wpAny_pyNext_range_end (I.ok.hd x) st (by have:n<=i:=y;lia) λh' F=>⟨rfl,I.turned (t':=s.toks) (λb o d e=>F b o d e) j l m p q⟩
 self:=λv v v v v st h=>wpAny_pyIter_rangeiter st h
section
variable{X:Cx}{tg:Na}
def HU(I:gb X d g H s)(k:-(2 ^ 62)<=a)(l:a<2 ^ 62)(m:-(2 ^ 62)<=c)(n:c<2 ^ 62)
  (q:R (mH a (c - a).toNat) H):wpAny (model X.prog X.w) X.A (pyIter$ .ref s.heap.objs.size) (WT X d g tg R) E { s with heap:=s.heap.push { cls:=.type "range",data:=.fields #[.int a t,.int c u,.int 1 v] },toks:=h }:=by
 refine wpAny_pyIter_range (IsRange.new ..) (small_one k l m n) ?_;have f:gb X d g H { s with heap:=s.heap.push { cls:=.type "range",data:=.fields #[.int a t,.int c u,.int 1 v] },toks:=h }:=I.kept λb o e=>da _ e;refine⟨(s.heap.push { cls:=.type "range",data:=.fields #[.int a t,.int c u,.int 1 v] }).objs.size,[(s.heap.push { cls:=.type "range",data:=.fields #[.int a t,.int c u,.int 1 v] }).objs.size],_,_,H,rfl,
  f.kept λb o e=>da _ e,x9 _ a (c - a).toNat,?_,λb p=>?_,q⟩
 ·have i:a+((0:Nat):Int) * 1=a:=by simp
  have j:(((c - a).toNat:Nat):Int) - ((0:Nat):Int)=aG a c 1:=by rw[rangeSize_one];split<;>lia
  show IsRangeIter _ _ _ _ 1;rw[i,j];exact Ea _ rfl
 ·have e:b=(s.heap.push { cls:=.type "range",data:=.fields #[.int a t,.int c u,.int 1 v] }).objs.size:=by simpa using p
  subst e;exact f.Yn (wa _)$ f.Kc.fresh$ wa _
def G5(b:TA):TI:=λd H R=>b d H λc a=>∃ j:Int,c=[.int j]/\-(2 ^ 62)<=j/\j<2 ^ 62/\R (mH 0 j.toNat) a
def BZ(b:TA):TI:=λd H R=>b d H λc a=>∃ i j:Int,c=[.int i,.int j]/\(-(2 ^ 62)<=i/\i<2 ^ 62/\-(2 ^ 62)<=j/\j<2 ^ 62)/\R (mH i (j - i).toNat) a
def Ĵ(k:Gl X "range")(l:X.mg "range" = ń)(i:PA X [a] f)(m:(qa [a] X.env=[(ŝ,Mb a X.env)])⁻¹):PI X tg (.Call (.Name "range" p) [a] [] c)$ G5 f:=by
 intro b s v H R I h;refine Call_$ ax I k l boot_range$ qd (pd (i c b s v H _ I h) λus s1 ſ=>?_) m rfl;obtain⟨w,H1,g,o,d⟩:=ſ;obtain⟨j,e,d,n,q⟩:=d;subst e;cases o with
 |cons r u=>
  cases u;obtain⟨t,rfl⟩:=r;exact call_range_1$ HU g ⋯ ⋯ d n (by simpa using q)
def Ō(o:Gl X "range")(u:X.mg "range" = ń)(n:PA X [a,b] l)(v:(qa [a,b] X.env=[(ŝ,Mb a X.env),(ŝ,Mb b X.env)])⁻¹)(c:(qa [b] X.env=[(ŝ,Mb b X.env)])⁻¹) :
  PI X tg (.Call (.Name "range" p) [a,b] [] f)$ BZ l:=by
 intro d s B H R I h;refine Call_$ ax I o u boot_range$ qd (pd (n f d s B H _ I h) λus s1 ⟨C,H1,m,A,g⟩=>?_) (by rw[v,c]) (by rw[c];rfl);apply b_;intro z_;obtain⟨i,j,e,⟨g,w,x,y⟩,q⟩:=g;subst e;apply z_;cases A with
 |cons r k=>
  cases k with
  |cons z k=>
   cases k;obtain⟨t,rfl⟩:=r;obtain⟨t',rfl⟩:=z;exact call_range_2$ HU m g w x y q
noncomputable def A9(k:TI)(g:TG)(j:TS):TS:=λD a H=>k a H λJ f=>∃ W:Nat->Nat->St->Hp->Prop,(∃ m,W 0 m a f)/\∀ i m a H,W i m a H->
 (J.stop i H/\D.nx a H)\/(J.go i H/\∃ N:St->Hp->Prop,(∀ c b,N c b->∃ e,e<m/\W (i+1) e c b)/\∀ x b,J.LB i H x b->g x a b λd h=>j { D with nx:=N,ct:=N,bk:=D.nx } d h)
noncomputable def lH(a:b')(h:Heap):List$ Addr × Obj:=a.filterMap λb=>(h.get? b).map λo=>(b,o)
def DH(c:b∈a)(e:h.get? b=SY o):(b,o)∈lH a h:=Tj.mpr ⟨b,c,by rw[e];rfl⟩
def Ÿ(d:p∈lH a h):p.1∈a/\h.get? p.1=SY p.2:=by
 obtain⟨b,f,e⟩:=Tj.mp d;cases q:h.get? b with
 |none=>simp_all
 |some o=>
  rw[q]at e;have c:=Ub e;subst c
  simp_all
def gb.pinned(I:gb X a g H s)(h:∀ b∈c,Bl X a H b)(i:∀ b∈c,∃ o,s.heap.get? b=SY o/\∀ v,o.data≠.cell v):gb X (a++lH c s.heap) g H s:=
 I.Ci λp j=>(jb.mp j).elim (λz=>I.pin p$ Qa _ z) λz=>by
  obtain⟨f,e⟩:=Ÿ z;obtain⟨l,m,n,_⟩:=h p.1 f;obtain⟨o,k,d⟩:=i p.1 f
  simp_all
def gb.zj(I:gb X (a++pl) b H s):gb X a b H s:=I.Ci λp c=>I.pin p$ Qa _$ Wa _ c
def nP{V}(G:Eo (model X.prog X.w) X.A X.env X.xe)(hc:X.Lb=U2)(hi:PI X tg q wi)(hg:PG X tg g)(p:Jv X body tb)
  (hs:∀ x,je q X.env x=pure x:=by intro _;rfl):PS X (.For tg q body [] V)$ A9 wi g tb:=by
 intro c s σ H D I h;refine wpAny_For (pd (hi c s σ H _ I h) λv s1 h1=>pd h1 λa1 s2 h2=>?_) hs;apply b_;intro z_;obtain⟨it,R,tn,J,H2,e,I2,T,ϊ,f2,W,⟨m0,w0⟩,P⟩:=h2;subst e;have t:∀ {B:Hp},(∀ b∈R,B b=ń)->∀ b∈R,Bl X c B b:=λhn b p=>⟨hn b p,(f2 b p).2⟩
 apply z_;refine codeAny_forLoop_any (λn s'=>∃ i y B,gb X c y B s'/\tn i s'.heap/\(∀ b∈R,B b=ń)/\W i n y B) ?_ m0 ⟨0,σ,H2,I2,ϊ,λb p=>(f2 b p).1,w0⟩;rintro n s3 ⟨i,z,Q,I3,L,F,w3⟩;rcases P i n z Q w3 with⟨O,qn⟩|⟨go,N,hN,M⟩
 ·refine dh G (pd (T.done X rfl rfl rfl hc i c s3 z Q X.xe I3 (t F) L O) λr s4 zZ=>?_);obtain⟨ό,I4⟩:=zZ;subst ό;exact nj ⟨z,Q,I4,qn⟩
 ·refine dh G (pd (T.item X rfl rfl rfl hc i c s3 z Q X.xe I3 (t F) L go) λr s4 ſ=>?_);obtain⟨u,ό,h4⟩:=ſ;subst ό;refine dh G (pd h4 λr s5 ſ=>?_);apply b_;intro z_;obtain⟨x,H5,I5,r5,y5,E,S⟩:=ſ;apply z_;refine dh G (pd (hg _ s5 z H5 x u _ (I5.pinned (t S)$ T.obj _ _ E) r5$ M x H5 y5) λr s6 ſ=>?_);obtain⟨a0,H6,I6,q6⟩:=ſ;refine dh G (pd (p _ s6 a0 H6 _ I6 q6) λf ϋ C=>?_);have l:∀ {a:St} {j:Hp},gb X _ a j ϋ->N a j->∃ m,m<n/\∃ i y B,gb X c y B ϋ/\tn i ϋ.heap/\(∀ b∈R,B b=ń)/\W i m y B:=fun {a j} k K=>by
   obtain⟨m',hm,w7⟩:=hN a j K;refine⟨m',hm,i+1,a,j,k.zj,T.keep _ _ _ E λb p o e=>(k.pin (b,o)$ Qa _$ Qa _$ DH p e).1,λb p=>?_,w7⟩;obtain⟨o,e,d⟩:=T.obj _ _ E b p;exact(k.pin (b,o)$ Qa _$ Qa _$ DH p e).2.1
  cases f with
  |next=>obtain⟨a,j,k,K⟩:=C;exact l k K
  |cont=>obtain⟨a,j,k,K⟩:=C;exact l k K
  |brk=>obtain⟨a,j,k,C⟩:=C;exact⟨a,j,k.zj,C⟩
  |ret v=>obtain⟨x7,a,j,k,r7,C⟩:=C;exact⟨x7,a,j,k.zj,r7,C⟩
end
abbrev R2:=V->V->Hp->VK->Prop
def Dg(X:Cx)(f:Value->Value->Um Value)(r:R2):Prop:=
 ∀ a s σ H x y v u Q,gb X a σ H s->yd x v->yd y u->r x y H Q->
  wpAny (model X.prog X.w) X.A (f v u) (EP X a σ Q) X.xe s
def QG(X:Cx)(f:Value->Um Value)(r:V->Hp->VK->Prop):Prop:=
 ∀ a s σ H x v Q,gb X a σ H s->yd x v->r x H Q->
  wpAny (model X.prog X.w) X.A (f v) (EP X a σ Q) X.xe s
def zo(X:Cx)(f:Value)(r:h8->Hp->VK->Prop):Prop:=
 ∀ a s σ H xs us Q,gb X a σ H s->ke xs us->r xs H Q->
  wpAny (model X.prog X.w) X.A (call f us) (EP X a σ Q) X.xe s
noncomputable def SA(r:R2)(d e:TE):TE:=λa H Q=>d a H λx b=>e a b λy c=>r x y c Q
def G9(r:V->Hp->VK->Prop)(b:TE):TE:=λc H Q=>b c H λx a=>r x a Q
def rI(C:Int->Int->Prop)(g:Int->Int->V):R2:=λx y H Q=>∃ i j,x=.int i/\y=.int j/\C i j/\Q (g i j) H
noncomputable def Wo(g:Int->Int->V):R2:=λx y H Q=>∃ i j,x=.int i/\y=.int j/\Q (g i j) H
def rU(g:Int->V):V->Hp->VK->Prop:=λx H Q=>∃ i,x=.int i/\Q (g i) H
section
variable{X:Cx}{a b c:Na}{ta tb tc:TE}{pos:Vd}
def YN(m:PE X a ta)(n:PE X b tb){c}{R:V->V->Hp->Prop}(I:gb X c e H s)
  (h:ta e H λx j=>tb e j λy d=>R x y d) {f:Value->Value->Um Value}
  (o:∀ v u s2 x y d,gb X c e d s2->yd x v->yd y u->R x y d->wpAny (model X.prog X.w) X.A (f v u) Q X.xe s2) :
  wpAny (model X.prog X.w) X.A (Mb a X.env) (λv g=>wpAny (model X.prog X.w) X.A (Mb b X.env) (λu i=>wpAny (model X.prog X.w) X.A (f v u) Q X.xe i) X.xe g) X.xe s:=by
 refine pd (m c s e H _ I h) λv s1 zZ=>?_;obtain⟨x,j,k,r,p⟩:=zZ;refine pd (n c s1 e j _ k p) λu s2 zZ=>?_;obtain⟨y,d,l,t,q⟩:=zZ;exact o v u s2 x y d l r t q
def Ĉ(j:Dg X (Nd d) r)(g:PE X a ta)(i:PE X b tb):PE X (.BinOp a d b pos)$ SA r ta tb:=by
 intro c s m H Q I h;exact wpAny_BinOp (YN g i I h λv u s2 x y e f k l q=>j c s2 m e x y v u Q f k l q)
def QZ{c}(g:QG X (unaryOp c) r)(f:PE X a ta):PE X (.UnaryOp c a pos)$ G9 r ta:=by
 intro b s d H Q I h;refine UnaryOp_ (pd (f b s d H _ I h) λv s1 zZ=>?_);obtain⟨x,H1,e,j,i⟩:=zZ;exact g b s1 d H1 x v Q e j i
def bD{g:Int->Int->Int}
  (a:∀ i j t u s Q E,C i j->Q (.int (g i j) s.toks) { s with toks:=s.toks+1 }->wpAny (model X.prog X.w) X.A (f (.int i t)$ .int j u) Q E s) :
  Dg X f (rI C λi j=>.int$ g i j):=by
 rintro b s h H x y v u Q I d e ⟨i,j,rfl,rfl,c,q⟩;obtain⟨t,rfl⟩:=d;obtain⟨t',rfl⟩:=e;exact a i j t t' s _ _ c ⟨.int _,H,I.tok _,⟨_,rfl⟩,q⟩
def bO{g:Int->Int->Int}
  (a:∀ i j t u s Q E,Q (.int (g i j) s.toks) { s with toks:=s.toks+1 }->wpAny (model X.prog X.w) X.A (f (.int i t)$ .int j u) Q E s) :
  Dg X f (Wo λi j=>.int$ g i j):=by
 rintro b s e H x y v u Q I c d ⟨i,j,rfl,rfl,q⟩;obtain⟨t,rfl⟩:=c;obtain⟨t',rfl⟩:=d;exact a i j t t' s _ _ ⟨.int _,H,I.tok _,⟨_,rfl⟩,q⟩
def DG{g:Int->Int->Bool}
  (a:∀ i j t u s Q E,Q (.bool$ g i j) s->wpAny (model X.prog X.w) X.A (f (.int i t)$ .int j u) Q E s) :
  Dg X f (Wo λi j=>.bl$ g i j):=by
 rintro b s e H x y v u Q I c d ⟨i,j,rfl,rfl,q⟩;obtain⟨t,rfl⟩:=c;obtain⟨t',rfl⟩:=d;exact a i j t t' s _ _ ⟨.bl _,H,I,rfl,q⟩
def pU(i j:Int):Prop:=0<j/\j<1073741824
def mR(i j:Int):Prop:=0<=j/\j<=1000000/\i.natAbs<2 ^ 64
def nG(i j:Int):Prop:=(-(2 ^ 64)<i/\i<2 ^ 64)\/(-(2 ^ 64)<j/\j<2 ^ 64)
def nG.ok(h:nG i j):IntMulOk i j:=by
 rcases h with⟨a,b⟩|⟨a,b⟩
 ·exact .of_left$ zX a b
 ·exact .of_right$ zX a b
def m8 k:(0:Int)<=2 ^ k:=by
 rw[two_pow_cast];exact Int.natCast_nonneg _
def Ľ:Dg X (Nd .Add) (Wo λi j=>.int$ i+j):=bO λa a a a a a a q=>add_int q
def E9:Dg X (Nd .Sub) (Wo λi j=>.int$ i - j):=bO λa a a a a a a q=>sub_int q
def G7:Dg X (Nd .Mult) (rI nG λi j=>.int$ i * j):=bD λb b b b b b b a q=>mul_int q a.ok
def hZ:Dg X (Nd .FloorDiv) (rI pU λi j=>.int$ i / j):=bD λi j d d d d d a q=>by
 have b:(0:Int)<j:=a.1;have c:j<1073741824:=a.2;exact floordiv_int ⋯ (by rw[Ao i ⋯];exact q)$ .inl$ PyProof.noPylong_small ⋯
def ygy:Dg X (Nd .Mod) (rI (λb j=>0<j) λi j=>.int$ i % j):=bD λi j b b b b b a q=>by
 exact mod_int' ⋯ (by rw[Int.fmod_eq_emod_of_nonneg i ⋯];exact q)
def ξ:Dg X (Nd .Pow) (rI mR λi j=>.int$ i ^ j.toNat):=bD λb b b b b b b a q=>pow_int_small a.1 a.2.1 a.2.2 q
def Þ:Dg X (Nd .RShift) (rI (λb j=>0<=j) λi j=>.int$ i / 2 ^ j.toNat):=bD λi j b b b b b a q=>
 rshift_int a (by rw[Ao i$ m8 _];exact q)
def X9:Dg X (Nd .BitAnd) (Wo λi j=>.int$ ge i j):=bO λa a a a a a a q=>and_int q
def unI{g:Int->Int}
  (a:∀ i t s Q E,Q (.int (g i) s.toks) { s with toks:=s.toks+1 }->wpAny (model X.prog X.w) X.A (f$ .int i t) Q E s) :
  QG X f (rU λi=>.int$ g i):=by
 rintro b s d H x v Q I c ⟨i,rfl,q⟩;obtain⟨t,rfl⟩:=c;exact a i t s _ _ ⟨.int _,H,I.tok _,⟨_,rfl⟩,q⟩
def o0:QG X (unaryOp .USub) (rU λi=>.int$ -i):=unI λd d d d d q=>neg_int q
end
section
variable{X:Cx}{a b c:Na}{ta tb tc:TE}{pos:Vd}
def WV{a}{c}{k b}(I:gb X a c H s)(q:Q (.bl k) H)(e:k=b):EP X a c Q (.bool b) s:=by
 subst e;exact⟨.bl k,H,I,rfl,q⟩
def EI:Dg X (yb .Lt) (Wo λi j=>.bl$ decide$ i<j):=DG λa a a a a a a q=>lt_int q
def qB:Dg X (yb .LtE) (Wo λi j=>.bl$ decide$ i<=j):=DG λa a a a a a a q=>le_int q
def oW:Dg X (yb .Gt) (Wo λi j=>.bl$ decide$ j<i):=DG λa a a a a a a q=>gt_int q
def PK:Dg X (yb .GtE) (Wo λi j=>.bl$ decide$ j<=i):=DG λa a a a a a a q=>ge_int q
theorem OV:Dg X (yb .Is) (λx y H Q=>y=.Nb/\Q (.bl$ decide$ x=.Nb) H):=by
 rintro a s d H x y v u Q I b c ⟨rfl,q⟩;cases c;refine is_none_gen$ WV I q ?_;cases x<;>first
  |(cases b;rfl)
  |(obtain⟨t,rfl⟩:=b;rfl)
theorem qV:Dg X (yb .IsNot) (λx y H Q=>y=.Nb/\Q (.bl$ !decide (x=.Nb)) H):=by
 rintro a s d H x y v u Q I b c ⟨rfl,q⟩;cases c;refine isnot_none_gen$ WV I q ?_;cases x<;>first
  |(cases b;rfl)
  |(obtain⟨t,rfl⟩:=b;rfl)
def xo b{a}(h: ~~~(a≠.In))(e: ~~~(a≠.NotIn)):Td a b=ŝ:=Œ b h e
def W9(k:Dg X (yb d) r)(g:PE X a ta)(i:PE X b tb)(j:Td d b=ŝ):PE X (.Compare a [d] [b] pos)$ SA r ta tb:=by
 intro c s n H Q I h;exact wpAny_Compare1 (YN g i I h λv u s2 x y e f l m q=>k c s2 n e x y v u Q f l m q) j
noncomputable def zP(t:TE):TT:=λb H Q=>t b H λx a=>∃ k,x=.bl k/\Q k a
def qN(t:Dg X (yb f) r)(o:PE X a ta)(p:PE X b tb)(q:Td f b=ŝ):PT X (.Compare a [f] [b] pos)$ zP$ SA r ta tb:=by
 intro d s g H Q I h;refine lw (pd (o d s g H _ I h) λv s1 ⟨x,H1,l,C,w⟩=>pd (p d s1 g H1 _ l w) λu s2 ⟨y,i,m,D,A⟩=>
  pd (t d s2 g i x y v u _ m C D A) λc s3 ⟨z,j,n,E,k,e,B⟩=>?_) q
 subst e;cases E;exact qc ⟨j,n,B⟩
noncomputable def BW(r f:R2)(ta tb tc:TE):TE:=λa H Q=>ta a H λx c=>tb a c λy d=>r x y d λz b=>∃ k,z=.bl k/\
 (if k=U2 then tc a b λg e=>f y g e Q else Q (.bl ŝ) b)
def p8(J:Dg X (yb l) r)(j:Dg X (yb g) p)(D:PE X a ta)(E:PE X b tb)(F:PE X c tc)
  (G:Ct [l,g] [b,c]=ŝ:=by with_unfolding_all rfl):PE X (.Compare a [l,g] [b,c] pos)$ BW r p ta tb tc:=by
 intro f s i H Q I h;refine Compare_chain (pd (D f s i H _ I h) λv s1 ⟨x,H1,A,N,K⟩=>chain_link (pd (E f s1 i H1 _ A K) λu s2 ⟨y,t,B,q,L⟩=>
  pd (J f s2 i t x y v u _ B N q L) λd s3 ⟨z,m,n,O,k,e,o⟩=>?_)) G
 subst e;cases O;refine qc ?_;cases k with
 |false=>exact ite_ff ⟨.bl ŝ,m,n,rfl,o⟩
 |true=>refine ite_tt$ chain_last (pd (F f s3 i m _ n o) λR s4 zZ=>?_);obtain⟨S,w,C,P,M⟩:=zZ;exact j f s4 i w y S u R Q C q P M
def KZ(N:Dg X (yb l) r)(j:Dg X (yb g) p)(J:PE X a ta)(K:PE X b tb)(L:PE X c tc)
  (M:Ct [l,g] [b,c]=ŝ:=by with_unfolding_all rfl):PT X (.Compare a [l,g] [b,c] pos)$ zP$ BW r p ta tb tc:=by
 intro f s i H Q I h;refine isTrue_chain (pd (J f s i H _ I h) λv s1 ⟨x,H1,B,ό,P⟩=>test_link (pd (K f s1 i H1 _ B P) λu s2 ⟨y,t,C,q,R⟩=>
  pd (N f s2 i t x y v u _ C ό q R) λd s3 ⟨z,m,n,V,k,e,o⟩=>?_)) M
 subst e;cases V;refine qc ?_;cases k with
 |false=>
  obtain⟨k',F,O⟩:=o;cases F;exact ite_ff ⟨m,n,O⟩
 |true=>
  refine ite_tt$ test_last (pd (L f s3 i m _ n o) λϊ s4 zZ=>?_);obtain⟨z',w,D,W,S⟩:=zZ;refine pd (j f s4 i w y z' u ϊ _ D q W S) λd' s5 zZ=>?_;obtain⟨z2,A,E,ϋ,k2,G,T⟩:=zZ;subst G;cases ϋ;exact qc ⟨A,E,T⟩
def vI: sizeLine <2 ^ 63:=by rw[sizeLine_eq];decide
def ÿ:Dg X (Nd .Add) (λx y H Q=>∃ i j,x=.str i/\y=.str j/\i.length+j.length<=sizeLine/\Q (.str$ i++j) H):=by
 rintro a s f H x y v u Q I c d ⟨i,j,rfl,rfl,b,q⟩;obtain⟨t,rfl⟩:=c;obtain⟨t',rfl⟩:=d;exact add_str (λt' e=>⟨.str _,H,I.tok _,⟨_,rfl⟩,q⟩) b
def yr{a}(r:ke [x] a):∃ u,a=[u]/\yd x u:=by
 cases r with
 |cons b c=>cases c;exact⟨_,rfl,b⟩
def RS{a}(r:ke [x,y] a):∃ u b,a=[u,b]/\yd x u/\yd y b:=by
 cases r with
 |cons c d=>
  cases d with
  |cons e f=>cases f;exact⟨_,_,rfl,c,e⟩
end
structure Aq(h:Heap)(x dx C:Addr)(mA:Str->Option Value):Prop where
 obj:h.get? x=SY (W.instObj C dx)
 ns:h.Ns1 dx mA
 ne:dx≠x
set_option tactic.hygienic true in
def ī{h:Heap}(n:h.Ns1 d f):∃ g,h.get? d=SY g/\∀ b,W.lookIn b g=SY (f b):=by
 obtain⟨o,i,r,m,j,k,_,l⟩:=n;refine⟨o,m,λb=>?_⟩;have e:=l b;unfold nsFind findBy at e;rw[<-Array.find?_toList]at e;unfold W.lookIn;rw[j];dsimp only;split
 ·rename_i y q
  simp_all
 ·rename_i q
  rw[q]at e;have a:i.toList.any (·.refKey)=ŝ:=by
   rw[Xk];intro y p;obtain⟨z,t,c⟩:=k y (Array.mem_toList_iff.mp p);simp[zaF,c]
  simp_all
def Aq.look(I:Aq h x c C d):∃ b,W.InstAt h x (W.instObj C c) C (SY b)/\∀ a,W.lookIn a b=SY (d a):=
 let ⟨b,f,e⟩:=ī I.ns
 ⟨b,⟨I.obj,rfl,rfl,f⟩,e⟩
section
variable{prog:Aa}{w:Ta}{A:Ma}{E:Value->Shared->Prop}{s:Shared}{K:W.Frag}{x dx C f:Addr}{mA:Str->Option Value}{name:Str}{v:Value}
def n7(X:K.In s.heap)(I:Aq s.heap x dx C mA)(d:W.plainGet K C name=U2)(e:W.hasDictIn K C=U2)
  (c:W.findIn K (.ref C) name=SY ń) (g:mA name=SY v) (b:W.handedIn v=U2) (h:Q v { s with toks:=s.toks+1 }) :
  wpAny (model prog w) A (getAttr (.ref x) name a) Q E s:=by
 obtain⟨i,J,f⟩:=I.look;exact W.get_value X J (Iq d).1 (W.findObj_own e c rfl$ by simp_all) b h
def Ĺ(X:K.In s.heap)(I:Aq s.heap x dx C mA)(a:W.plainGet K C name=U2)
  (b:W.findIn K (.ref C) name=SY (SY$ .ref f)) (d:W.isFn K (.ref f)=U2) (e:mA name=ń) (h:Q (.ref f,[.ref x]) s) :
  wpAny (model prog w) A (Ah (.ref x) name pl) Q E s:=by
 obtain⟨g,J,c⟩:=I.look;exact W.method_fn X J (Iq a).1 (Iq a).2 b (Uj.mp d) (by show (W.lookIn name g).map (·.isSome)=SY ŝ;rw[c,e];rfl) h
def C0(X:K.In s.heap)(I:Aq s.heap x dx C mA)
  (p:W.findIn K (.ref C) "__setattr__" = SY (SY$ .builtin "object.__setattr__")) (o:W.plainOver K C=U2) (t:W.takerIn K C name=SY ń) (n:W.hasDictIn K C=U2)
  (u:PySem.Within mA j) (q:j.length<=sizeLine)
  (h:∀ h',Aq h' x dx C (λy=>if y=name then SY v else mA y)->Yc dx s.heap h'->Q () { s with heap:=h',toks:=s.toks+2 }) :
  wpAny (model prog w) A (setAttr (.ref x) name v) Q E s:=by
 obtain⟨G,J,D⟩:=I.look;refine W.set_plain X J p (W.osa_open (s:={ s with toks:=s.toks+1 }) (r:=ń) X J o t λb=>?_);apply b_;intro z_;obtain⟨B,m,f⟩:=W.any_some n;have z:s.heap.get? x=SY ⟨.ref C,SY dx,.plain,#[]⟩:=I.obj;apply z_;refine ba$ ga$ ba$ ba$ wpAny_loadPart z$ ba$ W.Looks.here (W.looks_clsIn X m) ?_;rw[f];refine ga (a:=SY dx)$ ba$ ga$ ba (wpAny_nsSet1 I.ns λh' c d=>?_);obtain⟨F,l,k,i,g,e⟩:=c.count (qJ name v u);refine ba$ wpAny_lookBehind i (by rw[g];exact pastItsLine_dict$ zb e (by rw[Ab];lia)) ?_;exact ga$ h _ ⟨(d.2 _$ Ud I.ne).trans I.obj,c,I.ne⟩ d
def í(X:K.In s.heap)(j:W.makesIn K C=U2)
  (i:W.findIn K (.ref C) "__init__" = SY (SY$ .ref f)) (e:W.typeIn K (.ref f)=SY (.type "function"))
  (h:codeAny (model prog w) (A.under$ .builtin "type.__call__" ⟨.ref C::c,b⟩) (.call (.ref f) ⟨.ref (s.heap.objs.size+1)::c,b⟩) (W.InitBack (s.heap.objs.size+1) R)
   { s with heap:=(s.heap.push W.emptyDict).push (W.instObj C s.heap.objs.size) }) :
  codeAny (model prog w) A (.call (.ref C) ⟨c,b⟩) R s:=by
 obtain⟨k,g,d,t,l⟩:=s;exact W.make_core (W.makes_of X j) (SF X i) (λa=>W.bind_fn X a e) (.inl rfl) h
end
noncomputable def Fn(f:Str)(v:V):List (Str × V)->List (Str × V)
 |[]=>[(f,v)]
 |(g,x)::r=>if g=f then (g,v)::r else (g,x)::Fn f v r
theorem xU(f g:Str)(v:V):∀ c:List$ Str × V,(Fn f v c).lookup g=if g=f then SY v else c.lookup g
 |[]=>by
  show List.lookup g [(f,v)]=_;by_cases h:g=f;all_goals simp_all
 |(k,x)::r=>by
  rw[show Fn f v _=(if k=f then (k,v)::r else (k,x)::Fn f v r)from rfl];by_cases b:k=f
  ·rw[na b];by_cases h:g=k
   ·have a:=Uj.mpr h
    simp_all
   ·have a:=Ie.mpr h;simp[List.lookup,a,ya (λe:g=f=>h$ e.trans b.symm)]
  ·rw[ya b];by_cases h:g=k
   ·have a:=Uj.mpr h
    simp_all
   ·have a:=Ie.mpr h;simp[List.lookup,a];exact(xU f g v r)
theorem sK(f:Str)(v:V):∀ a:List$ Str × V,f∈(Fn f v a).map (·.1)/\∀ g,g∈a.map (·.1)->g∈(Fn f v a).map (·.1)
 |[]=>⟨by simp[Fn],λg h=>by simp at h⟩
 |(k,x)::r=>by
  obtain⟨c,d⟩:=sK f v r;rw[show Fn f v _=(if k=f then (k,v)::r else (k,x)::Fn f v r)from rfl];by_cases b:k=f
  ·rw[na b]
   grind
  ·rw[ya b];refine⟨?_,λg h=>?_⟩
   ·rw[Va];exact ja _ c
   ·rw[Va]at h ⊢;rcases Ba.mp h with e|e
    ·exact Ba.mpr$ .inl e
    ·exact ja _$ d g e
theorem MR(f:Str)(v:V):∀ a:List$ Str × V,(Fn f v a).length<=a.length+1
 |[]=>by simp[Fn]
 |(k,x)::r=>by
  have c:=MR f v r;rw[show Fn f v _=(if k=f then (k,v)::r else (k,x)::Fn f v r)from rfl];by_cases b:k=f;all_goals simp_all
def Qp.some_of(r:Qp (SY v) o):∃ u,o=SY u/\yd v u:=by
 cases o with
 |none=>exact(r).elim
 |some u=>exact⟨u,rfl,r⟩
def Qp.none_of(r:Qp ń o):o=ń:=by
 cases o with
 |none=>rfl
 |some u=>exact(r).elim
theorem ŭ(r:yd v u):W.handedIn u=U2:=by
 cases v with
 |Nb=>cases (r);rfl
 |bl b=>cases (r);rfl
 |int i=>obtain⟨t,e⟩:=(r);cases e;rfl
 |str x=>obtain⟨t,e⟩:=(r);cases e;rfl
 |WG b=>obtain⟨t,e⟩:=(r);cases e;rfl
 |rA b=>obtain⟨t,e⟩:=(r);cases e;rfl
 |ref a=>cases (r);rfl
 |ty n=>cases (r);rfl
section
variable{P:Aa}{w:Ta}{H H':Hp}{h h':Heap}{a C dx:Addr}{fs fs':List$ Str × V}
def tG(c:Fi P w H h)(e:H a=SY (.Eb C dx fs)):∃ b,Aq h a dx C b/\(∀ f,Qp (fs.lookup f) (b f))/\PySem.Within b (fs.map (·.1))/\fs.length<=1000/\H dx=SY (.own a):=by
 obtain⟨d,z,g,ob,b,n,r,q⟩:=(c a _ e)
 exact⟨b,⟨ob,n,g⟩,r,q,z,d⟩
end
structure kq(K:W.Frag)(C:Addr):Prop where
 pg:W.plainGet K C Str.empty=U2
 hd:W.hasDictIn K C=U2
 po:W.plainOver K C=U2
 sa:W.findIn K (.ref C) "__setattr__" = SY (SY (.builtin "object.__setattr__"))
def kq.get{K}(c:kq K C) f:W.plainGet K C f=U2:=c.pg
def Ex(K:W.Frag)(C:Addr)(f:Str):Prop:=W.findIn K (.ref C) f=SY ń
theorem Ex.WE{K}(n:Ex K C f):W.takerIn K C f=SY ń:=by
 unfold W.takerIn;rw[n];rfl
structure xu(K:W.Frag)(C:Addr)(m:Str)(f:Addr):Prop where
 at_:W.findIn K (.ref C) m=SY (SY (.ref f))
 fn:W.isFn K (.ref f)=U2
 kp:W.keepIn K (.ref f)=U2
section
variable{X:Cx}{pins:List$ Addr × Obj}{σ:St}{H:Hp}{s:Shared}{a C dx:Addr}{fs:List$ Str × V}{f:Str}{v:V}{A:Ma}{E:Value->Shared->Prop}
def RQ(I:gb X pins σ H s)(e:H a=SY (.Eb C dx fs))(c:kq X.K C)(n:Ex X.K C f)(l:fs.lookup f=SY v)
  (h:∀ u g,gb X pins σ H g->yd v u->Q u g):wpAny (model X.prog X.w) A (getAttr (.ref a) f b) Q E s:=by
 obtain⟨j,O,r,_,_,_⟩:=tG I.Kc e;obtain⟨u,i,d⟩:=Qp.some_of (by rw[<-l];exact r f);exact n7 I.Li O (c.get f) c.hd n i (ŭ d)$ h u _ (I.tok _) d
def SM(I:gb X pins σ H s)(e:H a=SY (.Eb C dx fs))(c:kq X.K C)(k:xu X.K C m g)(l:fs.lookup m=ń)
  (h:Q (.ref g,[.ref a]) s):wpAny (model X.prog X.w) A (Ah (.ref a) m pl) Q E s:=by
 obtain⟨d,O,r,_,_,_⟩:=tG I.Kc e;have b:=Qp.none_of (by rw[<-l];exact r m);exact Ĺ I.Li O (c.get m) k.at_ k.fn b h
def CU(I:gb X pins σ H s)(e:H a=SY (.Eb C dx fs))(c:kq X.K C)(n:Ex X.K C f)(B:fs.length<1000)(x:yd y u)
  (h:∀ j,gb X pins σ (Fb H a$ .Eb C dx$ Fn f y fs) j->Q () j):wpAny (model X.prog X.w) A (setAttr (.ref a) f u) Q E s:=by
 apply b_;intro z_;obtain⟨D,O,r,k,_,i⟩:=tG I.Kc e;have v:(fs.map (·.1)).length<=sizeLine:=by rw[Ha,sizeLine_eq];lia
 apply z_;refine C0 I.Li O c.sa c.po n.WE c.hd k v λh' d sb=>h _ ?_;have p:∃ o,h'.get? dx=SY o:=let ⟨o,_,_,l,_⟩:=d.ns;⟨o,l⟩;refine I.write (e:=dx) (by rw[e];exact True.intro) (.inr i) (λb q m z=>(sb.2 b m).trans z) p ⟨by rw[ee O.ne];exact i,?_,O.ne,d.obj,_,d.ns,λg=>?_,λg t=>?_⟩
 ·have:=MR f y fs;lia
 ·show Qp _ _;rw[xU];by_cases q:g=f
  ·rw[na q,na q];exact x
  grind
 ·by_cases q:g=f
  ·rw[q];exact(sK f y fs).1
  ·refine(sK f y fs).2 g (k g λz=>t ?_)
   simp_all
def gb.made(I:gb X pins σ H s):gb X pins σ (Fb (Fb H s.heap.objs.size$ .own$ s.heap.objs.size+1) (s.heap.objs.size+1)$ .Eb C s.heap.objs.size [])
  { s with heap:=(s.heap.push W.emptyDict).push (W.instObj C s.heap.objs.size) }:=by
 have a:(s.heap.push W.emptyDict).get? s.heap.objs.size=SY W.emptyDict:=Ea s.heap rfl;have d:((s.heap.push W.emptyDict).push$ W.instObj C s.heap.objs.size).get? (s.heap.objs.size+1)=SY (W.instObj C s.heap.objs.size):=by
  have:=Ea (s.heap.push W.emptyDict) (o:=W.instObj C s.heap.objs.size) rfl
  simp_all
 have f:(s.heap.push W.emptyDict).Ns s.heap.objs.size _:=⟨W.emptyDict,#[],_,a,rfl,(λe g=>absurd g ⋯),λb=>rfl⟩
 refine(I.laid (o:=.own _) (t':=s.toks) (λb u q=>da _ q) (wa _) ⟨_,a⟩).laid (λb u q=>da _ q) (TF$ Oc _ _) ?_;have c:s.heap.objs.size≠s.heap.objs.size+1:=za$ Qb _;refine⟨by rw[ee c,ng],yh _,c,d,λb=>ń,(Heap.Ns1.of_empty f).at λo q=>da _ q,λb=>True.intro,λy h=>absurd rfl h⟩
def Ε{a}(g:Ad e f a (Mb e a)=Mb e a)
  (h:wpAny (model b w) A (Mb e a) (λo c=>wpAny (model b w) A (getAttr o f U2) Q E c) E s):wpAny (model b w) A (Mb (.Attribute e f d) a) Q E s:=
 Attribute_any_ h (by rw[arm_eval_Attribute,g])
end
def pY(K:W.Frag)(e:TE)(f:Str):TE:=λg H Q=>e g H λx b=>∃ a C d c v,x=.ref a/\b a=SY (.Eb C d c)/\kq K C/\Ex K C f/\c.lookup f=SY v/\Q v b
def η(K:W.Frag)(h i:TE)(f:Str):TS:=λD c H=>i c H λy g=>h c g λx d=>∃ a C e b,x=.ref a/\d a=SY (.Eb C e b)/\kq K C/\Ex K C f/\b.length<1000/\
 D.nx c (Fb d a$ .Eb C e$ Fn f y b)
def gR(X:Cx)(b:yk)(c:V->V->Hp->VK->Prop):Prop:=
 ∀ a s σ H x y u v Q,gb X a σ H s->yd x u->yd y v->c x y H Q->wpAny (model X.prog X.w) X.A (ZF b u v) (EP X a σ Q) X.xe s
def j8(K:W.Frag)(l m:TE)(k:V->V->Hp->VK->Prop)(f:Str):TS:=λD d H=>l d H λx e=>∃ a C j h v,x=.ref a/\e a=SY (.Eb C j h)/\kq K C/\Ex K C f/\h.lookup f=SY v/\
 m d e λy i=>k v y i λz g=>∃ c b,g a=SY (.Eb C c b)/\b.length<1000/\D.nx d (Fb g a$ .Eb C c$ Fn f z b)
section
variable{X:Cx}{o e value:Na}{f:Str}{pos pos' tpos:Vd}{ta tv:TE}
def l6(k:PE X e ta)(j:Ad e f X.env (Mb e X.env)=Mb e X.env):PE X (.Attribute e f pos)$ pY X.K ta f:=by
 intro b s p H Q I h;refine Ε j (pd (k b s p H _ I h) λu s1 ſ=>?_);obtain⟨x,H1,d,o,a,C,r,t,v,ex,i,c,n,l,q⟩:=ſ;subst ex;obtain rfl:u=Xb a:=o;exact RQ d i c n l λw s2 g m=>⟨v,H1,g,m,q⟩
def â(k:PE X o ta)(p:PE X value tv)(m:Ig value (SY$ .Attribute o f pos') pos.line X.env=pure ŝ):PS X (.Assign [.Attribute o f pos'] value pos)$ η X.K ta tv f:=by
 intro b s d H D I h;refine plainObj_wpAny_Assign_Attribute (pd (p b s d H _ I h) λu s1 ⟨y,H1,e,w,q⟩=>pd (k b s1 d H1 _ e q) λr s2 ⟨x,z,g,v,a,C,A,B,ex,j,c,n,l,t⟩=>?_) m;subst ex;obtain rfl:r=Xb a:=v;exact CU g j c n l w λE i=>⟨d,_,i,t⟩
def ż(F:PE X o ta)(G:PE X value tv)(g:gR X i j):PS X (.AugAssign (.Attribute o f tpos) i value pos)$ j8 X.K ta tv j f:=by
 intro b s d H D I h;refine wpAny_AugAssign_AttributeAny (pd (F b s d H _ I h) λL s1 ſ=>?_);obtain⟨x,H1,m,P,a,C,ό,W,v,ex,B,c,n,l,q⟩:=ſ;subst ex;obtain rfl:L=Xb a:=P;refine RQ m B c n l λu s2 p O=>pd (G b s2 d H1 _ p q) λS s3 zZ=>?_;obtain⟨y,k,r,Q,M⟩:=zZ;refine pd (g b s3 d k v y u S _ r O Q M) λϊ s4 zZ=>?_;obtain⟨z,T,t,R,A,E,e,J,N⟩:=zZ;exact CU t e c n J R λϋ w=>⟨d,_,w,N⟩
def Φ:V->V->Hp->VK->Prop:=λx y H Q=>∃ i j,x=.int i/\y=.int j/\Q (.int$ i+j) H
def R9:gR X .Add Φ:=by
 rintro a s d H x y u v Q I b c ⟨i,j,rfl,rfl,q⟩;obtain⟨t,rfl⟩:=(b)
 obtain⟨t',rfl⟩:=(c)
 exact rJ ⟨.int _,H,I.tok _,⟨_,rfl⟩,q⟩
end
section
variable{X:Cx}{pins:List$ Addr × Obj}{σ:St}{H:Hp}{s:Shared}{A:Ma}{E:Value->Shared->Prop}{Q:Value->Shared->Prop}{c:Value}{b:Bool}
inductive Pl(K:W.Frag)(H:Hp):V->Value->Prop where
 |Nb:Pl K H .Nb (.type "NoneType")
 |bl (x:Bool):Pl K H (.bl x) (.type "bool")
 |int (i:Int):Pl K H (.int i) (.type "int")
 |str (x:Str):Pl K H (.str x) (.type "str")
 |rA (x:UInt64):Pl K H (.rA x) (.type "float")
 |ia {a:Addr} {xs:h8} (e:H a=SY (.ia xs)):Pl K H (.ref a) (.type "list")
 |ud {a:Addr} {o:Obj} {xs:h8} (e:H a=SY (.ud o (.ia xs))):Pl K H (.ref a) (.type "list")
 |nb {a:Addr} {xs:h8} (e:H a=SY (.nb xs)):Pl K H (.ref a) (.type "tuple")
 |dK {a:Addr} {kvs:List (Vc × V)} (e:H a=SY (.dK kvs)):Pl K H (.ref a) (.type "dict")
 |Eb {a C dx:Addr} {fs:List (Str × V)} (e:H a=SY (.Eb C dx fs)) (cl:kq K C) (ha:W.findIn K (.ref C) "__class__" = SY (SY (.builtin "object.__class__")))
   (hn:W.specialIn K (.builtin "object.__class__") "__get__" = SY (SY (.builtin "getset_descriptor.__get__"))) (htk:W.takesIn K (.builtin "object.__class__")=SY U2)
   (hm:W.mroIn K C (.type "object")=SY U2):Pl K H (.ref a) (.ref C)
def fQ(I:gb X pins σ H s)(d:yd x u)(ty:Pl X.K H x t)(e:W.kitOne X.K t c=SY b)(h:∀ v,Q (.bool b) { s with toks:=v }) :
  wpAny (model X.prog X.w) A (call (.builtin "isinstance") [u,c]) Q E s:=by
 cases ty with
 |Nb=>cases (d);exact gf W.kitx_none I.Li True.intro e (λz=>nomatch z) h
 |bl y=>cases (d);exact gf W.kitx_bool I.Li True.intro e (λz=>nomatch z) h
 |int i=>obtain⟨t,q⟩:=(d);cases q;exact gf W.kitx_int I.Li True.intro e (λz=>nomatch z) h
 |str y=>obtain⟨t,q⟩:=(d);cases q;exact gf W.kitx_str I.Li True.intro e (λz=>nomatch z) h
 |rA y=>obtain⟨t,q⟩:=(d);cases q;exact gf W.kitx_float I.Li True.intro e (λz=>nomatch z) h
 |@ia a xs f=>
  cases (d);obtain⟨_,_,n,_,g⟩:=(I.Kc a _ f)
  exact gf AX I.Li ⟨_,g,rfl⟩ e (λz=>nomatch z) h
 |@ud a M xs f=>
  cases (d);obtain⟨_,_,_,n,_,g⟩:=(I.Kc a _ f)
  exact gf AX I.Li ⟨_,g,rfl⟩ e (λz=>nomatch z) h
 |@nb a xs f=>
  cases (d);obtain⟨_,_,_,p⟩:=(I.Kc a _ f)
  apply b_;intro z_;obtain⟨o,g,j,_⟩:=p;apply z_;exact gf W.kitx_tuple I.Li ⟨o,g,j⟩ e (λz=>nomatch z) h
 |@dK a r f=>
  cases (d);obtain⟨_,_,P,_,p⟩:=(show Rk X.prog X.w H s.heap a _ from I.Kc a _ f)
  obtain⟨o,F,D,g,j,_⟩:=p;exact gf BX I.Li ⟨o,g,j.1⟩ e (λz=>nomatch z) h
 |@Eb a C B G f cl l m k hm=>
  cases (show u=Xb a from d);obtain⟨L,O,_⟩:=tG I.Kc f;obtain⟨N,J,_⟩:=O.look;exact gf (W.kitx_own (cl.get _) cl.hd l m k hm) I.Li J e (λz=>nomatch z) h
end
structure Gd(k:Nat)(A:Ma):Prop where
 hd:A.handled=ń
 dp:A.depth+3 * k+5<recursionLimit
 un:A.units+16 * k+200<cLine
def Gd.mono(r:Gd k A)(h:j<=k):Gd j A:=⟨r.hd,by have:=r.dp;lia,by have:=r.un;lia⟩
def Gd.deeper(r:Gd (k+1) A) a:Gd k$ A.deeper a:=
 ⟨r.hd,by have:=r.dp;show A.depth+1+3 * k+5<_;lia,by have:=r.un;show A.units+3+16 * k+200<_;lia⟩
def Gd.in1(r:Gd (k+1) A):Gd k A.in1:=
 ⟨r.hd,by have:=r.dp;show A.depth+3 * k+5<_;lia,by have:=r.un;show A.units+1+16 * k+200<_;lia⟩
theorem zer{A:Ma}:(A.under$ .builtin "type.__call__" ⟨.ref C::b,a⟩).depth=A.depth+1:=by
 rfl
theorem T8{A:Ma}:(A.under$ .builtin "type.__call__" ⟨.ref C::b,a⟩).units=A.units+1:=by
 rfl
def Gd.make(r:Gd (k+1) A) C b a:Gd k$ A.under$ .builtin "type.__call__" ⟨.ref C::b,a⟩:=
 ⟨r.hd,by have:=r.dp;rw[zer];lia,by have:=r.un;rw[T8];lia⟩
def Gd.depth(r:Gd k A):A.depth<recursionLimit:=by have:=r.dp;lia
noncomputable def R0:TA:=λa H Q=>Q [] H
noncomputable def Ś(d:TE)(e:TA):TA:=λa H Q=>d a H λx b=>e a b λxs c=>Q (x::xs) c
section
variable{X:Cx}{e:Na}{es:List Na}{te:TE}{t:TA}{pos:Vd}
def ou:PA X [] R0:=λa a a a H Q I h=>Calls.spliced_nil ⟨[],H,I,.nil,h⟩
def jq(g:PE X e te)(i:PA X es t)(j:(qa (e::es) X.env=(ŝ,Mb e X.env)::qa es X.env)⁻¹):PA X (e::es)$ Ś te t:=by
 intro pos a s b H Q I h;rw[j];show wpAny _ _ _ _ _ s;refine Calls.spliced_cons (pd (g a s b H _ I h) λu s1 zZ=>?_);obtain⟨x,H1,d,m,k⟩:=zZ;refine pd (i pos a s1 b H1 _ d k) λus s2 zZ=>?_;obtain⟨xs,c,f,n,l⟩:=zZ;exact ⟨x::xs,c,f,.cons m n,l⟩
def B3(t:TA):TE:=λb H Q=>t b H λxs a=>xs.length<=sizeLine/\∀ p,a p=ń->Q (.ref p) (Fb a p$ .nb xs)
def þ(t:TA):TE:=λb H Q=>t b H λxs a=>xs.length<=sizeLine/\∀ p,a p=ń->Q (.ref p) (Fb a p$ .ia xs)
def LZ{x1}(h:PA X es t):PE X (.Tuple es x1 pos)$ B3 t:=by
 intro a s g H Q I f;refine wpAny_Tuple_spliced (pd (h pos a s g H _ I f) λus s1 zZ=>?_);obtain⟨xs,H1,c,r,z,q⟩:=zZ;refine ⟨by rw[<-r.length];exact z,?_⟩;have d:=c.Kc.fresh$ wa _;refine⟨.ref s1.heap.objs.size,Fb H1 s1.heap.objs.size _,c.laid (λb u e=>da _ e) (wa _) ?_,rfl,q _ d⟩;exact⟨z,us,r,⟨_,Ea _ rfl,rfl,_,rfl⟩⟩
def yQ(h:PA X es t):PE X (.List es pos)$ þ t:=by
 intro a s g H Q I f;refine wpAny_List_spliced (pd (h pos a s g H _ I f) λus s1 zZ=>?_);obtain⟨xs,H1,c,r,z,q⟩:=zZ;refine ⟨by rw[<-r.length];exact z,?_⟩;have d:H1 s1.heap.objs.size=ń:=c.Kc.fresh$ wa _;refine⟨.ref s1.heap.objs.size,Fb H1 s1.heap.objs.size _,c.laid (t':=s1.toks) (λb u e=>da _ e) (wa _) ?_,rfl,q _ d⟩;exact⟨z,us,0,r,Ea _ rfl⟩
end
abbrev Sp:=h8->Hp->VK->XK->Prop
abbrev Sv:=List vg->Hp->Shared->XK->Value->Shared->Prop
structure uq(P:Aa)(w:Ta)(K:W.Frag)(mg:Str->Option Value)(base:Heap)(A:Ma)(outer:List vg)(s:Shared)(H:Hp):Prop where
 frames:A.frames=SY outer
 mod:Mod K mg base
 bs:∀ b o,base.get? b=SY o->s.heap.get? b=SY o/\H b=ń
 su:base.objs.size<=s.heap.objs.size
 dk:s.heap.FunFrames base outer
 Sy:∀ b∈Oj outer,H b=ń
 Kc:Fi P w H s.heap
 bare:vh s.gens
def CE(a:List vg)(P:Aa)(w:Ta)(H:Hp)(s:Shared)(Q:VK)(u:Value)(b:Shared):Prop:=
 ∃ v c,b.os=s.os/\vh b.gens/\Un (Oj a) [] H c s.heap b.heap/\Fi P w c b.heap/\yd v u/\Q v c
def CR(c:Sv)(a:List vg)(P:Aa)(w:Ta)(H:Hp)(s:Shared)(Q:VK)(E:XK)(r:Fo)(b:Shared):Prop:=
 match r with
 | .ok (.ret u)=>CE a P w H s Q u b
 | .ok _=>False
 | .error e=>c a H s E e b
structure nh(P:Aa)(w:Ta)(K:W.Frag)(mg:Str->Option Value)(base:Heap)(CX:Sv)(k:Nat)(f:Addr)(fd:kf)(ps:ac)(sp:Sp):Prop where
 len:∀ vs H Q E,sp vs H Q E->vs.length=ps.length
 ni:∀ (A:Ma) (outer:List vg) (s:Shared) (H:Hp) (args:Args) (us:dN) (vs:h8) (Q:VK) (E:XK),Gd k A->uq P w K mg base A outer s H->vf s fd args (ps.zip us)->ke vs us->sp vs H Q E->
  codeAny (model P w) A (.call (.ref f) args) (CR CX outer P w H s Q E) s
def nh.mono{K}(F:nh P w K g a d j f e ps i)(h:j<=k) :
  nh P w K g a d k f e ps i:=⟨F.len,λA b s H c m n Q E l=>F.ni A b s H c m n Q E$ l.mono h⟩
def nh.imp{K}(F:nh P w K i base e k f g ps j)
  (h:∀ b H Q E,d b H Q E->j b H Q E):nh P w K i base e k f g ps d:=
 ⟨λb H Q E q=>F.len b H Q E$ h _ _ _ _ q,λA a s H c r b Q E n m l p o=>F.ni A a s H c r b Q E n m l p$ h _ _ _ _ o⟩
def uq.make{K}(e:uq P w K c b A a s H) C f d :
  uq P w K c b (A.under$ .builtin "type.__call__" ⟨.ref C::f,d⟩) a s H:=⟨by first|exact e.frames|(simpa using e.frames),e.mod,e.bs,e.su,e.dk,e.Sy,e.Kc,e.bare⟩
section
variable{X:Cx}{pins:List$ Addr × Obj}{σ:St}{H:Hp}{s s':Shared}
def gb.RC(I:gb X pins σ H s):uq X.prog X.w X.K X.mg X.base X.A X.stack s H:=
 ⟨I.ok.frames,I.ok.mod,I.bs,zb I.ok.su I.sz,I.stack,I.Aj,I.Kc,I.bare⟩
def gb.after(I:gb X pins σ H s)(h:CE X.stack X.prog X.w H s Q u s'):EP X pins σ Q u s':=by
 obtain⟨v,f,i,a,j,c,r,q⟩:=h;obtain⟨k,g,d,t,e⟩:=s';obtain rfl:e=s.os:=i;exact⟨v,f,I.call j c a (λb z=>absurd z ⋯),r,q⟩
end
def Wq(K:W.Frag)(c:kf)(b:ac)(a:dN):Prop:=
 ∀ s us,K.In s.heap->(us++a).length=b.length->vf s c ⟨us,[]⟩ (b.zip$ us++a)
def Wq.all{K}(h:∀ a:dN,a.length=ps.length->bindArgs b ⟨a,[]⟩=pure (ps.zip a)):Wq K b ps []:=λs a d c=>by
 rw[He]at c ⊢;exact .of_eq$ h a c
section
variable{X:Cx}{CX:Sv}{k:Nat}{f C:Addr}{fd:kf}{ps:ac}{sp:Sp}{dvs:h8}{ds:dN}{E:XK}{x m:Str}{p pos apos:Vd}{e o:Na}{es:List Na}{ta:TE}{t:TA}
structure Mk(K:W.Frag)(C f:Addr):Prop where
 makes:W.makesIn K C=U2
 init:W.findIn K (.ref C) "__init__" = SY (SY (.ref f))
 fn:W.isFn K (.ref f)=U2
 kp:W.keepIn K (.ref C)=U2
end
structure Fc(N P:ac)(sc:Scope):Prop where
 kind:sc.kind=.function
 co:sc.isCoroutine=ŝ
 gen:sc.isGenerator=ŝ
 nd:N.Nodup
 pre:N.take P.length=P
 par:∀ x∈P,sc.names.lookup x=SY .local\/sc.names.lookup x=SY .cell
 rz:∀ y∈sc.names,y.2≠.free
theorem uW{b:Str->Option Ee}{x:Str}:∀ {a:List$ Str × Value} {m:Str->Option Value},(∀ v,(x,v) ∉ a)->Ox b a m x=m x
 |[],_,_=>rfl
 |(n,v)::r,m,h=>by
  unfold Ox;rw[uW λw c=>h w$ ja _ c];split
  ·have:x≠n:=by rintro rfl;exact h v va
   simp_all
  ·rfl
theorem nV{b:Str->Option Ee}{x:Str}:∀ {a:List$ Str × Value} {m:Str->Option Value},(∀ v,(x,v) ∉ a)->Dt b a m x=m x
 |[],_,_=>rfl
 |(n,v)::r,m,h=>by
  unfold Dt;rw[nV λw c=>h w$ ja _ c];split
  ·rfl
  ·have:x≠n:=by rintro rfl;exact h v va
   simp_all
theorem IQ{a:Str->Option Ee}{x:Str}{v:Value}:∀ {P:ac} {b:dN} {i:Nat} {m:Str->Option Value},P.Nodup->P[i]?=SY x->b[i]?=SY v->a x=SY .local->
  Ox a (P.zip b) m x=SY v
 |[],_,_,_,_,h,_,_=>by simp at h
 |_::_,[],_,_,_,_,h,_=>by simp at h
 |p::P,w::b,0,m,f,c,d,e=>by
  simp at c d;subst c;subst d;show Ox a ((p,w)::P.zip b) m p=_;unfold Ox;rw[uW λv g=>(Cd.mp f).1 (Rm g).1,na e];simp
 |p::P,w::b,i+1,m,f,c,d,e=>by
  show Ox a ((p,w)::P.zip b) m x=_;exact IQ (Cd.mp f).2 (by simpa using c) (by simpa using d) e
theorem gT{a:Str->Option Ee}{x:Str}{v:Value}:∀ {P:ac} {b:dN} {i:Nat} {m:Str->Option Value},P.Nodup->P[i]?=SY x->b[i]?=SY v->a x≠SY .local->
  Dt a (P.zip b) m x=SY v
 |[],_,_,_,_,h,_,_=>by simp at h
 |_::_,[],_,_,_,_,h,_=>by simp at h
 |p::P,w::b,0,m,f,c,d,e=>by
  simp at c d;subst c;subst d;show Dt a ((p,w)::P.zip b) m p=_;unfold Dt;rw[nV λv g=>(Cd.mp f).1 (Rm g).1,ya e];simp
 |p::P,w::b,i+1,m,f,c,d,e=>by
  show Dt a _ m x=_;unfold Dt;exact gT (i:=i) (Cd.mp f).2 (by trivial) ⋯ e
noncomputable def Cw(N:ac)(a:h8):St:=a.map SY++List.replicate (N.length - a.length) ń
noncomputable def yp(g:Sv)(P:Aa)(w:Ta)(K:W.Frag)(mg:Str->Option Value)(base:Heap)(N:ac)(b:Str)(a:Scope)(f:Addr)(d:Value)(A:Ma)(outer:List vg)(s:Shared)(H:Hp)(E:XK):Cx where
 prog:=P
 w:=w
 K:=K
 mg:=mg
 base:=base
 A:=A.deeper (fg b a s.heap.objs.size f d)
 N:=N
 s₀:=s
 H₀:=H
 env:=fg b a s.heap.objs.size f d
 outer:=outer
 stack:=fg b a s.heap.objs.size f d::outer
 ex:=[]
 Lb:=U2
 fn:=λj=>U2
 pn:=[]
 xe:=λe i=>wpAny (model P w) (A.deeper$ fg b a s.heap.objs.size f d) (leaving (fg b a s.heap.objs.size f d) e) (λj c=>g outer H s E e c) (λh c=>g outer H s E h c) i
def rX{sc:Scope}(h:sc.names.lookup x=SY .cell):∃ c,(bG n sc.names []).lookup x=SY c:=by
 exact Zd.mp$ AA sc.names n []$ .inl h
def R7{K}
  (S:Fc N ps a) (R:A.handled=ń) (j:uq P w K I base A d s H) (ϋ:t.length=ps.length) (r:ke t J)
  (x:InCallC s s.heap.objs.size (Ox (fg g a s.heap.objs.size f D).kindOf (ps.zip J) λU=>ń) (bG (s.heap.objs.size+1) a.names []) (Dt (fg g a s.heap.objs.size f D).kindOf (ps.zip J) λU=>ń) s1) :
  gb (yp L P w K I base N g a f D A d s H E) [] (Cw N t) H s1:=by
 have T:ps.length<=N.length:=by have:=vd List.length S.pre;rw[We]at this;lia
 obtain⟨F,ϊ,rfl,M⟩:=x.done;have o:∀ b:Addr,b ∉ (yp L P w K I base N g a f D A d s H E).ex:=λb z=>absurd (show b∈([]:b')from z) ⋯;refine⟨⟨j.mod,S.kind,rfl,rfl,wa _,λy z c F l=>?_,λy m=>?_,λy c U h=>?_,λU=>R,cq j.frames,.inr ⟨rfl,rfl⟩,λb z=>absurd z$ o b,j.bs,j.su,λb U U=>o b,λb z=>absurd z$ o b,j.dk,j.Sy⟩,
  rfl,j.bare,Un.kept M,⟨_,x.toInCall.ns,λi y v F l X=>?_⟩,λy c h=>⟨_,x.cell y c h⟩,j.Kc.fresh$ wa _,λy c h=>?_,λp B=>absurd (show p∈([]:List _)from B) ⋯,j.Kc.kept M,?_⟩
 ·exact name_of_addr x.apart (ie F)$ ie l
 ·have m:a.names.lookup y=SY .cell\/a.names.lookup y=SY .free:=m;rcases m with m|m
  ·exact rX m
  ·exact absurd rfl$ S.rz _$ ie m
 ·exact jd$ x.above y c$ ie h
 ·have G:i<t.length:=by
   unfold Cw at l;by_cases G:i<t.length
   ·exact G
   ·rw[Gb (by simpa using G)]at l;rw[Bp]at l;split at l<;>cases l
  have Q:t[i]?=SY v:=by
   unfold Cw at l;rw[Ya (by simpa using G),Ca]at l
   grind
  obtain⟨u,O,ό⟩:=r.get Q;have B:ps[i]?=SY y:=by
   rw[<-S.pre,Qo ⋯];exact F
  have C:ps.Nodup:=by rw[<-S.pre];exact S.nd.sublist$ List.take_sublist _ _
  refine⟨u,ό,?_⟩;rcases S.par y (ua B)with k|k
  ·exact .inl ⟨k,IQ C B O k⟩
  ·apply b_;intro z_;obtain⟨c,e⟩:=rX (n:=s.heap.objs.size+1) k;apply z_;refine .inr ⟨.inl k,c,e,?_⟩;have q:=x.cell y c e
   rwa [gT C B O (by show a.names.lookup y≠_;rw[k];decide)]at q
 ·exact j.Kc.fresh$ jd$ x.above y c$ ie h
 ·unfold Cw;show _=N.length;rw[db,Ha,List.length_replicate]
  lia
def t7{K:W.Frag}{dV kV C pm g ct oc}{an od} (lk:K.lookup f=SY ⟨oc,od,.func$ W.fnOf l d h body a dV kV C pm an g ct,ό⟩) (O:W.codeIn K g d=U2) (S:Fc N ps a)
  (G:∀ m H Q E,ϊ m H Q E->m.length=ps.length)
  (p:∀ A c s H m Q E,Gd k (A.deeper$ fg d a s.heap.objs.size f g)->ϊ m H Q E->
   ∃ t,Jv (yp L P w K M base N d a f g A c s H E) body t/\t { nx:=λU j=>Q .Nb j,rt:=Q } (Cw N m) H) :
  nh P w K M base L (k+1) f (W.fnOf l d h body a dV kV C pm an g ct) ps ϊ:=by
 refine⟨G,λA c s H a0 us m Q E R D hb r F=>?_⟩;have KX:K.In s.heap:=D.mod.fw.keeps λb o e=>(D.bs b o e).1;have T:=D.mod.nolimit.keeps λb o e=>(D.bs b o e).1;have z:∀ y∈ps.zip us,a.names.lookup y.1=SY .local\/(a.names.lookup y.1=SY .cell/\((bG (s.heap.objs.size+1) a.names []).lookup y.1).isSome=U2):=λ⟨n,v⟩ hy=>by
  rcases S.par n (Rm hy).1 with q|q
  ·exact .inl q
  ·exact .inr ⟨q,AA _ _ _$ .inl q⟩
 refine codeAny_call_function R.depth (KX _ _ lk) rfl S.co S.gen rfl (W.codeRec_of KX O)$ hb _ _ _ _ ?_;refine wpAny_newFunctionEnv_cells S.kind z λa1 he s1 x=>?_;subst he;refine⟨T.keeps x.toInCall.keep,codeAny_func ?_⟩;obtain⟨t,ht,hq⟩:=p A c s H m Q E (R.deeper _) F;have I:gb (yp L P w K M base N d a f g A c s H E) [] (Cw N m) H s1:=R7 S R.hd D (G _ _ _ _ F) r x;refine nc (ht [] s1 _ H _ I hq) (λfl ϋ B=>?_) λe ϋ B=>B;have Df:∀ {i:St} {j:Hp} {v:V} {u:Value},gb (yp L P w K M base N d a f g A c s H E) [] i j ϋ->yd v u->Q v j->CE c P w H s Q u ϋ:=
  fun {i j v u} J X q=>⟨v,j,J.os,J.bare,J.base,J.Kc,X,q⟩
 cases fl with
 |ret u=>
  obtain⟨v,i,j,J,X,q⟩:=B;exact Df J X q
 |next=>
  obtain⟨i,j,J,q⟩:=B;exact Df (v:=V.Nb) (u:=rc) J rfl q
 |brk=>
  obtain⟨_,_,_,q⟩:=B;trivial
 |cont=>
  obtain⟨_,_,_,q⟩:=B;exact False.elim q
section
variable{X:Cx}{x:Str}{p pos:Vd}{e:Na}{es:List Na}{t:TA}{id T:String}{r:h8->Hp->VK->Prop}
def KM(r:h8->Hp->VK->Prop)(t:TA):TE:=λc H Q=>t c H λb a=>r b a Q
def JF(i:zo X (.builtin id) r)(k:Gl X x)(l:X.mg x=ń)(n:bootBuiltins x=SY (.builtin id))(g:PA X (e::es) t)(m: ~~~(x ≠ "__name__"))(b: ~~~((x == ("__debug__" : Str))=ŝ))
  (j:(qa (e::es) X.env=(ŝ,Mb e X.env)::qa es X.env)⁻¹) (c:((Zb pos$ qa es X.env).any (·.1)=ŝ)⁻¹):PE X (.Call (.Name x p) (e::es) [] pos)$ KM r t:=by
 intro a s d H Q I h;exact Pe$ ax I k l n (sJ (pd (g pos a s d H _ I h) (by rintro us s1 ⟨u,H1,f,q,o⟩;exact i a s1 d H1 u us Q f q o)) j c) m b
def AM(i:zo X (.type T) r)(k:Gl X x)(l:X.mg x=ń)(n:bootBuiltins x=SY (.type T))(g:PA X (e::es) t)(m: ~~~(x ≠ "__name__"))(b: ~~~((x == ("__debug__" : Str))=ŝ))
  (j:(qa (e::es) X.env=(ŝ,Mb e X.env)::qa es X.env)⁻¹) (c:((Zb pos$ qa es X.env).any (·.1)=ŝ)⁻¹):PE X (.Call (.Name x p) (e::es) [] pos)$ KM r t:=by
 intro a s d H Q I h;exact Pe$ ax I k l n (qd (pd (g pos a s d H _ I h) (by rintro us s1 ⟨u,H1,f,q,o⟩;exact i a s1 d H1 u us Q f q o)) j c) m b
end
end L2
namespace HT
section
open PySem.SeqAt
open PySem.AutoSeq1 (wpAny_loadPart')
open PySem.MeetsSeq PySem.MeetsSeq2 PySem.MeetsSeq3
end
section
variable{prog:Aa}{w:Ta}{A:Ma}{E:Value->Shared->Prop}{s:Shared}
def sx(y:Bt s.heap t d.toArray)(v:Bt s.heap b a.toArray)(z:d≠[])
  (u:a=[]->Q (.ref t) s) (C:a≠[]->Q (.ref s.heap.objs.size) { s with heap:=s.heap.push { cls:=.type "tuple",data:=.seq (d++a).toArray } })
  (x:d.length+a.length<=sizeLine):wpAny (model prog w) A (Nd .Add (.ref t)$ .ref b) Q E s:=by
 obtain⟨⟨cls,m,data,r⟩,j,o,n,p⟩:=id y;obtain⟨⟨l,f,k,i⟩,c,g,q,h⟩:=id v;simp only at o p g h;subst o p g h;have e:d.toArray++a.toArray=(d++a).toArray:=by simp
 by_cases B:a=[]
 ·exact Mu ⟨_,j,rfl⟩ ⟨_,c,rfl⟩ Bo js Jh oh (eh _ _)
   (tuple_addW1 t b d.toArray a.toArray n q m f r i (by simpa using z)$ by grind) ⟨j,c,u B⟩
 ·refine Mu ⟨_,j,rfl⟩ ⟨_,c,rfl⟩ Bo js Jh oh (eh _ _)
   (tuple_addW2 t b d.toArray a.toArray n q m f r i ⋯ ⋯$ by simp_all) ⟨j,c,?_⟩
  grind
noncomputable def Hf(n d:Nat):Option Int->Nat
 |none=>d
 |some v=>if v<0 then (v+(n:Int)).toNat else min v.toNat n
def o8 n d(a:d<=n) o:Hf n d o<=n:=by
 cases o with
 |none=>exact a
 |some v=>
  show (if v<0 then (v+(n:Int)).toNat else min v.toNat n)<=n;all_goals grind
def sR v(n d:Nat):(if v<0 then max (v+(n:Int)) 0 else min v n)=((Hf n d (SY v):Nat):Int):=by
 show (if v<0 then max _ 0 else min v n)=(if v<0 then (v+n).toNat else min v.toNat n)
 grind
def Ģ b a(n:Nat):Xj b a 1 n =(((Hf n 0 b:Nat):Int),(Hf n n a:Int)):=by
 refine DX ?_ ?_
 ·cases b with
  |none=>rfl
  |some v=>exact sR v n 0
 ·cases a with
  |none=>rfl
  |some v=>exact sR v n n
def Z0(i j:Nat):gg i j 1=j - i:=by
 unfold gg;have a:(1:Int) > 0:=by lia
 simp only[a];split<;>lia
def AR(p:zk v o)(h:Q o s):wpAny (model prog w) A (cG v) Q E s:=by
 cases p with
 |none=>exact RO h
 |int i t=>exact slicePart_int h
def sX{n:Nat}(i:s.heap.IsSliceOf e vl f .none)(pl:zk vl a)(j:zk f d)
  (h:Q (((Hf n 0 a:Nat):Int),1,Hf n n d - Hf n 0 a) s):wpAny (model prog w) A (dG (.ref e)$ pure n) Q E s:=by
 obtain⟨k,c,g,b⟩:=id i;refine ba$ ba$ rk c b rfl$ ba$ rk c b rfl$ ba$ rk c b rfl$ ga$ ba$ RO ?_;refine ba$ AR pl$ ba$ AR j$ ba$ ga ?_;show wpAny _ _ (match Xj a d 1 n with|(a,d)=>pure (a,_,gg a d 1)) _ _ s;rw[Ģ a d n];show wpAny _ _ (pure _) _ _ s;rw[Z0];exact ga h
def Ĳ(xs:Array Value)(i k:Nat):((List.range k).filterMap λ(m:Nat)=>xs[(i +(m:Int) * 1).toNat]?).toArray=((xs.toList.drop i).take k).toArray:=by
 have e:(λ(m:Nat)=>xs[(i+(m:Int) * 1).toNat]?)=λm=>xs[i+m]?:=by
  funext m;have:(i+(m:Int) * 1).toNat=i+m:=by lia
  rw[this]
 have:=pick_run xs i k;have a:((λx=>xs[x]?) ∘ λx=>i+x)=λm=>xs[i+m]?:=rfl
 simp_all
def Fj(e:Bt s.heap t a)(l:s.heap.IsSliceOf k vl n .none)(pl:zk vl b)(v:zk n d)
  (r:¬ (Hf a.size 0 b=0/\Hf a.size a.size d=a.size))
  (h:Q (.ref s.heap.objs.size) { s with heap:=s.heap.push { cls:=.type "tuple",data:=.seq ((a.toList.drop$ Hf a.size 0 b).take$ Hf a.size a.size d - Hf a.size 0 b).toArray } })
  (p:a.size<=sizeLine):wpAny (model prog w) A (ai (.ref t)$ .ref k) Q E s:=by
 have c:sizeOk$ .seq ((a.toList.drop$ Hf a.size 0 b).take$ Hf a.size a.size d - Hf a.size 0 b).toArray:=by
  show ((a.toList.drop _).take _).toArray.size<=sizeLine;rw[Ua,We,nw,gc]
  lia
 have x:Hf a.size a.size d<=a.size:=o8 _ _ (wa _) d;obtain⟨u,j,g,o⟩:=id l;have f:s.TypeIs (.ref k) "slice":=⟨u,j,g⟩
 unfold ai;try with_reducible refine Yb ?_
 first|refine ba$ ga ?_|skip
 refine ba$ BC e.typeIs ⋯ ?_;refine ba$ Ed (name:=ui "__getitem__") e.typeIs ic
  (Mc ic e.typeIs cz ?_$ BA _ _)
 show wpAny _ _ (Mj (.ref t) >>= _) _ _ s;refine ba$ EX e ?_;refine ba$ dj f ?_;rw[na ⋯];refine ba$ sX l pl v ?_;have i:¬ ((((Hf a.size 0 b:Nat):Int) == 0 && (1:Int) == 1 && (Hf a.size a.size d - Hf a.size 0 b) == a.size)=U2):=by
  intro q;rw[Da,Da]at q;have y:((Hf a.size 0 b:Nat):Int)=0:=eq_of_beq q.1.1;have z:Hf a.size a.size d - Hf a.size 0 b=a.size:=eq_of_beq q.2;exact r ⟨by lia,by lia⟩
 show wpAny _ _ (if (((Hf a.size 0 b:Nat):Int) == 0 && (1:Int) == 1 && (Hf a.size a.size d - Hf a.size 0 b) == a.size)=U2 then _ else _) _ _ s;rw[ya i,Ĳ];first
  |exact ba (m:=wg _) _
  |exact ba (m:=wg _)$ Dc (ba$ ga$ ga ⟨_,rfl,ga h⟩) c
  |exact ba$ ba (m:=wg _)$ Dc (ga$ ga ⟨_,rfl,ga h⟩) c
  |exact ba _
end
end HT
namespace L2
open Spec
abbrev TO:=St->Hp->(Option Int->Hp->Prop)->Prop
def PO(X:Cx)(e:Option Na)(t:TO):Prop:=
 ∀ a s σ H Q,gb X a σ H s->t σ H Q->
  wpAny (model X.prog X.w) X.A (evalPart e X.env) (λu c=>∃ o b,gb X a σ b c/\zk u o/\Q o b) X.xe s
noncomputable def zz7:TO:=λa H Q=>Q ń H
noncomputable def ß(t:TE):TO:=λb H Q=>t b H λx a=>∃ i,x=.int i/\Q (SY i) a
def VJ:∀ {b},ke (a.map V.int) b->xh b a:=by
 induction a with
 |nil=>intro b r;rw[Yh]at r;cases r;exact .nil
 |cons n a c=>
  intro b r;cases r with
  |cons d e=>
   obtain⟨t,rfl⟩:=d;exact .cons n t$ c e
section
variable{X:Cx}{e:Na}{te:TE}{lo hi:Option Na}{tl th:TO}{pos p2:Vd}
def Y9:PO X ń zz7:=by
 intro a s b H Q I h;exact ga ⟨ń,H,I,.none,h⟩
def E1(h:PE X e te):PO X (SY e)$ ß te:=by
 intro a s g H Q I c;refine pd (h a s g H _ I c) λu s1 ſ=>?_;obtain⟨x,H1,b,f,d⟩:=ſ;obtain⟨i,rfl,q⟩:=d;obtain⟨t,rfl⟩:=f;exact⟨SY i,H1,b,.int i t,q⟩
def Dv(X:Cx)(r:V->Option Int->Option Int->Hp->VK->Prop):Prop:=
 ∀ a s σ H x v vl c lo hi b Q,gb X a σ H s->yd x v->s.heap.IsSliceOf b vl c .none->zk vl lo->zk c hi->r x lo hi H Q->
  ∃ T d,typeLookup (.type T) "__getitem__" = pure (SY$ .builtin d)/\s.TypeIs v T/\wpAny (model X.prog X.w) X.A (ai v$ .ref b) (EP X a σ Q) X.xe s
def Dv.or(h:Dv X r)(h':Dv X d):Dv X (λx lo hi H Q=>r x lo hi H Q\/d x lo hi H Q):=by
 intro a s i H x v vl g lo hi f Q I e b pl c q;rcases q with q|q
 ·exact h a s i H x v vl g lo hi f Q I e b pl c q
 ·exact h' a s i H x v vl g lo hi f Q I e b pl c q
def T9(r:V->Option Int->Option Int->Hp->VK->Prop)(te:TE)(tl th:TO):TE:=λa H Q=>te a H λx b=>tl a b λl c=>th a c λu d=>r x l u d Q
theorem ω(w:Dv X r)(o:PE X e te)(t:PO X lo tl)(z:PO X hi th):PE X (.Subscript e (.Slice lo hi ń p2) pos)$ T9 r te tl th:=by
 intro a s c H Q I h;refine CA (pd (o a s c H _ I h) λv s1 zZ=>?_);obtain⟨x,H1,i,D,A⟩:=zZ;refine wpAny_Slice$ pd (t a s1 c H1 _ i A) λvl s2 zZ=>?_;obtain⟨l,g,j,pl,B⟩:=zZ;refine pd (z a s2 c g _ j B) λd s3 zZ=>?_;obtain⟨u,f,k,pu,C⟩:=zZ;refine ga ?_;have m:gb X a c f { s3 with heap:=s3.heap.push { cls:=.type "slice",data:=.fields #[vl,d,.none] } }:=k.kept (t':=s3.toks) λb ob q=>da _ q;obtain⟨T,E,n,y,p⟩:=w a { s3 with heap:=s3.heap.push { cls:=.type "slice",data:=.fields #[vl,d,.none] } } c f x v vl d l u s3.heap.objs.size Q m D (CC ..) pl pu C;exact tail_any y n p (by with_unfolding_all rfl)
def kB(xs:h8)(lo hi:Option Int):h8:=(xs.drop$ HT.Hf xs.length 0 lo).take$ HT.Hf xs.length xs.length hi - HT.Hf xs.length 0 lo
def tW xs lo hi:(kB xs lo hi).length<=xs.length:=by
 unfold kB;rw[We,nw]
 lia
def FV(K:W.Frag):V->Option Int->Option Int->Hp->VK->Prop:=λx lo hi H Q=>∃ a xs,x=.ref a/\Kg K H a xs/\
 ¬ (HT.Hf xs.length 0 lo=0/\HT.Hf xs.length xs.length hi=xs.length)/\∀ p,H p=ń->Q (.ref p) (Fb H p$ .nb$ kB xs lo hi)
def t9:Dv X$ FV X.K:=by
 rintro f s o H x v vl n lo hi m Q I l g pl k ⟨a,xs,rfl,i,h,q⟩;cases l;obtain⟨d,r,e,j⟩:=I.tuple i;have c:d.toArray.size=xs.length:=by rw[Ua];exact r.length.symm
 refine⟨"tuple",_,ic.lookup,e.typeIs,(HT.Fj e g pl k (by rw[c];exact h) ?_$ by simp_all)⟩;rw[c];refine⟨.ref s.heap.objs.size,_,I.laid (λb ob q=>da _ q) (wa _) ?_,rfl,q _$ I.Kc.fresh$ wa _⟩;exact⟨zb (tW xs lo hi) j,_,(r.drop _).take _,Nu _ _⟩
def KY(K:W.Frag):R2:=λx y H Q=>∃ a b xs c,x=.ref a/\y=.ref b/\Kg K H a xs/\Kg K H b c/\xs≠[]/\xs.length+c.length<=sizeLine/\
 (c=[]->Q (.ref a) H)/\(c≠[]->∀ p,H p=ń->Q (.ref p) (Fb H p$ .nb$ xs++c))
def ke.bo(r:ke xs a):a=[] ↔ xs=[]:=by
 cases r with
 |nil=>simp
 |cons _ _=>simp
def Ļ:Dg X (Nd .Add)$ KY X.K:=by
 rintro g s t H x y v u Q I o p ⟨a,b,xs,r,rfl,rfl,h,i,j,e,m,n⟩;cases o;cases p;obtain⟨k,d,l,_⟩:=I.tuple h;obtain⟨f,c,p2,_⟩:=I.tuple i;refine HT.sx l p2 (λz=>j$ d.bo.mp z) (λz=>⟨.ref a,H,I,rfl,m$ c.bo.mp z⟩) (λz=>⟨.ref s.heap.objs.size,_,I.laid (λb ob q=>da _ q) (wa _) ?_,rfl,n (λw=>z$ c.bo.mpr w) _$ I.Kc.fresh$ wa _⟩) (by rw[<-d.length,<-c.length];exact e);exact⟨by rw[db];exact e,_,d.append c,Nu _ _⟩
end
noncomputable def Yp(n:Nat)(i:Int):Option Nat:=if 0<=i then (if i<n then SY i.toNat else ń)else if -(n:Int)<=i then SY (i+n).toNat else ń
def rq{a:Type}(xs:List a)(i:Int):Option a:=(Yp xs.length i).bind λj=>xs[j]?
def WU(h:Yp n i=SY j):seqIndex? i n=SY j/\j<n/\- n <=i/\i<n:=by
 unfold Yp at h;by_cases b:0<=i
 ·rw[na b]at h;by_cases a:i<n
  ·rw[na a]at h;have e:i.toNat=j:=Ub h;exact⟨by rw[Ix b a,e],by lia,by lia,a⟩
  ·rw[ya a]at h;cases h
 ·rw[ya b]at h;by_cases a:-(n:Int)<=i
  ·rw[na a]at h;have e:(i+n).toNat=j:=Ub h;exact⟨by rw[Ou ⋯ a,e],by lia,a,by lia⟩
  all_goals grind
def cR{xs}{v:a}(h:rq xs i=SY v):∃ j,seqIndex? i xs.length=SY j/\xs[j]?=SY v/\j<xs.length/\-(xs.length:Int)<=i/\i<xs.length:=by
 unfold rq at h;cases e:Yp xs.length i with
 |none=>simp_all
 |some j=>
  rw[e]at h;obtain⟨b,c,d,f⟩:=WU e;exact⟨j,b,h,c,d,f⟩
def ut{xs}{j:Nat}{v:a}(h:xs[j]?=SY v):rq xs j =SY v:=by
 have b:=(aa.mp h).1;have e:Yp xs.length j=SY j:=by
  unfold Yp
  simp_all
 unfold rq;rw[e];exact h
def kU(b:Na):Prop:=∀ o i,Uo b ŝ o i=operate [o,i] (ai o i)
def ww(X:Cx)(r:R2):Prop:=
 ∀ b a pins s σ H x y v u Q,gb X pins σ H s->yd x v->yd y u->r x y H Q->
  Uo a ŝ v u=operate [v,u] (ai v u)->wpAny (model X.prog X.w) X.A (aY b a v u) (EP X pins σ Q) X.xe s
def Ry(X:Cx)(b:String)(r:V->h8->Hp->VK->Prop):Prop:=
 ∀ a s σ H x xs v us Q,gb X a σ H s->yd x v->ke xs us->r x xs H Q->
  wpAny (model X.prog X.w) X.A (call (.builtin b)$ v::us) (EP X a σ Q) X.xe s
section
variable{X:Cx}{a b:Na}{ta tb:TE}{pos:Vd}
def ww.or(h:ww X r)(h':ww X e):ww X (λx y H Q=>r x y H Q\/e x y H Q):=by
 intro b a c s i H x y v u Q I f g q d;rcases q with q|q
 ·exact h b a c s i H x y v u Q I f g q d
 ·exact h' b a c s i H x y v u Q I f g q d
def ŵ(i:ww X r)(f:PE X a ta)(g:PE X b tb)(j:kU b):PE X (.Subscript a b pos)$ SA r ta tb:=by
 intro c s m H Q I h;exact CA (YN f g I h λv u s2 x y d e k l q=>i a b c s2 m d x y v u Q e k l q$ j _ _)
noncomputable def GK(K:W.Frag):R2:=λx y H Q=>∃ p xs i v,x=.ref p/\y=.int i/\Me K H p xs/\rq xs i=SY v/\Q v H
noncomputable def rM(K:W.Frag):R2:=λx y H Q=>∃ p xs i v,x=.ref p/\y=.int i/\Kg K H p xs/\rq xs i=SY v/\Q v H
def O7:ww X$ GK X.K:=by
 intro f e a s m H x y v u Q I F G h l;obtain⟨p,xs,i,z,rfl,rfl,E,C,q⟩:=h;cases F;obtain⟨t,rfl⟩:=G;obtain⟨c,r,pl,N⟩:=I.list E;obtain⟨j,b,o,L,A,B⟩:=cR C;obtain⟨w,n,d⟩:=r.get o;have D:=r.length;have M:=vI;have Df:EP X a m Q w s:=⟨z,H,I,d,q⟩
 by_cases g:0<=i
 ·have k:i.toNat=j:=by
   rw[Ix g B]at b;exact Ub b
  exact item_listR pl.isList g ⋯ (by rw[k];simpa using n) Df l
 ·have k:(i+(c.toArray.size:Int)).toNat=j:=by
   rw[Ou ⋯ A]at b;rw[Ua,<-D];exact Ub b
  exact Pu (x:=w) pl.isList.typeIs DC.lookup
   (wpAny_getItem_list_neg (Q:=λr J=>r=w/\EP X a m Q r J) pl.isList ⋯ ⋯ ⋯ ⋯ ⟨rfl,Df⟩) l
def Ĥ:ww X$ rM X.K:=by
 intro d c a s A H x y v u Q I n o h l;obtain⟨p,xs,i,z,rfl,rfl,k,g,q⟩:=h;cases n;obtain⟨t,rfl⟩:=o;obtain⟨m,r,pl,G⟩:=I.tuple k;obtain⟨j,e,f,C,D,E⟩:=cR g;obtain⟨w,B,b⟩:=r.get f;have F:=vI;have Df:EP X a A Q w s:=⟨z,H,I,b,q⟩
 exact Pu pl.typeIs slot_tuple_getitem.lookup
  (getItem_tuple pl ⋯ ⋯ (by rw[Ua,<-r.length];exact e) ⋯ ⟨rfl,Df⟩) l
def dZ(a:dN) n j u:Fe (·.setIfInBounds j u) { cls:=.type "list",data:=.seq a.toArray n }={ cls:=.type "list",data:=.seq (a.set j u).toArray n }:=by
 simp[Fe]
def gb.ia{b}{c}{H}{s}{p}{xs}(I:gb X b c H s)(h:H p=SY (.ia xs)) :
  ∃ (a:dN) (n:Nat),ke xs a/\s.heap.get? p=SY { cls:=.type "list",data:=.seq a.toArray n }/\xs.length<=sizeLine:=by
 obtain⟨z,a,n,r,e⟩:=I.Kc p _ h;exact⟨a,n,r,e,z⟩
def gb.cA{a}{c its':dN}(I:gb X a j H s)(h:H p=SY (.ia xs))
  (l:s.heap.get? p=SY { cls:=.type "list",data:=.seq c.toArray n }) (i:f { cls:=.type "list",data:=.seq c.toArray n }={ cls:=.type "list",data:=.seq its'.toArray d }) (r:ke g its') (m:g.length<=sizeLine) t :
  gb X a j (Fb H p$ .ia g) { s with heap:=s.heap.update p f,toks:=t }:=by
 have e:(s.heap.update p f).get? p=SY { cls:=.type "list",data:=.seq its'.toArray d }:=by
  rw[yc f l (by rw[i]<;>rfl),i]
 refine I.write (by rw[h];trivial) (.inl rfl) (λb u k q=>(Ae _ _$ Ud k).trans q) ⟨_,e⟩ ?_;exact⟨m,its',d,r,e⟩
def M6:V->V->V->Hp->(Hp->Prop)->Prop:=λo i v H Q=>∃ p xs k j,o=.ref p/\i=.int k/\H p=SY (.ia xs)/\Yp xs.length k=SY j/\Q (Fb H p$ .ia$ xs.set j v)
def C3:vN X M6:=by
 rintro h s G H o i v F E u Q I y x z ⟨p,xs,k,j,rfl,rfl,g,w,q⟩;cases y;obtain⟨t,rfl⟩:=x;obtain⟨a,n,r,c,D⟩:=I.ia g;obtain⟨f,A,l,m⟩:=WU w;have B:=r.length;have C:=vI;have d:=
  I.cA g c (dZ a n j u) (r.set z j) ⋯ s.toks
 by_cases e:0<=k
 ·have b:k.toNat=j:=by
   rw[Ix e m]at f
   simp_all
  exact W.ki_setAt c e ⋯ ⋯ (by rw[b];exact⟨_,d,q⟩)
 ·have b:(k+a.toArray.size).toNat=j:=by
   rw[Ou ⋯ l]at f
   simp_all
  exact W.ki_setBack c ⋯ ⋯ ⋯ (by rw[b];exact⟨_,d,q⟩)
def Ė b a n:(Ak b a ń n).1=((HT.Hf n 0 b:Nat):Int)/\(Ak b a ń n).2.1=((HT.Hf n n a:Nat):Int)/\(Ak b a ń n).2.2=1:=by
 refine⟨?_,?_,rfl⟩
 ·cases b with
  |none=>rfl
  |some i=>
   simp only[Ak,HT.Hf,Option.getD_none,show (1:Int) > 0 by decide,Mi];by_cases h:i<0
   ·simp only[h,Mi]<;>lia
   ·simp only[h,yt]<;>lia
 ·cases a with
  |none=>trivial
  |some i=>
   simp[Ak,HT.Hf,show 1 > 0 by decide,Mi];by_cases h:i<0
   ·simp only[h,Mi]<;>lia
   ·simp only[h,yt]<;>lia
theorem Į(a:dN) b c:slicePick a.toArray b c ń=((a.drop$ HT.Hf a.length 0 b).take$ HT.Hf a.length a.length c - HT.Hf a.length 0 b).toArray:=by
 obtain⟨d,e,f⟩:=Ė b c a.toArray.size;unfold slicePick;rw[d,e,f];simp only[sliceRange_one,pick_run]<;>rfl
def fP(K:W.Frag):V->Option Int->Option Int->Hp->VK->Prop:=λx c b H Q=>∃ a xs,x=.ref a/\Me K H a xs/\∀ p,H p=ń->Q (.ref p) (Fb H p$ .ia$ kB xs c b)
def qY:Dv X$ fP X.K:=by
 rintro e s p H x v vl o k f n Q I m g pl l ⟨a,xs,rfl,h,q⟩;cases m;obtain⟨j,r,d,i⟩:=I.list h;have c:=r.length;refine⟨"list",_,DC.lookup,d.isList.typeIs,(wpAny_getItem_list_slice d.isList g pl l .none ⋯ ?_$ by simp_all)⟩;rw[Į,<-c];refine⟨.ref s.heap.objs.size,_,I.laid (λb ob q=>da _ q) (wa _) ?_,rfl,q _$ I.Kc.fresh$ wa _⟩;exact⟨zb (tW xs k f) i,_,0,(r.drop _).take _,Ea _ rfl⟩
noncomputable def xi:V->Bool
 | .Nb=>U2
 | .bl _=>U2
 | .int _=>U2
 | .str _=>U2
 |_=>ŝ
noncomputable def Uh:V->V->Bool
 | .Nb,.Nb=>U2
 | .bl a,.bl b=>a == b
 | .bl a,.int b=>(if a then 1 else 0) == b
 | .int a,.bl b=>a == (if b then 1 else 0)
 | .int a,.int b=>a == b
 | .str a,.str b=>a == b
 |_,_=>ŝ
def RN(f:yd y u)(c:yd x v)(g:xi y=U2)(e:xi x=U2):Wc A s u v$ Uh y x:=by
 cases y with
 |Nb=>
  cases f;cases x with
  |Nb=>cases c;exact Vj _
  |bl b=>cases c;exact FX b
  |int b=>obtain⟨t,rfl⟩:=c;exact GX b t
  |str b=>obtain⟨t,rfl⟩:=c;exact HX b t
  |_=>exact absurd (show ŝ=U2 from e) qb
 |bl a=>
  cases f;cases x with
  |Nb=>cases c;exact IX a
  |bl b=>cases c;exact JX a b
  |int b=>obtain⟨t,rfl⟩:=c;exact LX a b t
  |str b=>obtain⟨t,rfl⟩:=c;exact MX a b t
  |_=>exact absurd (show ŝ=U2 from e) qb
 |int a=>
  obtain⟨d,rfl⟩:=f;cases x with
  |Nb=>cases c;exact OX a d
  |bl b=>cases c;exact PX a d b
  |int b=>obtain⟨t,rfl⟩:=c;exact QX a d b t
  |str b=>obtain⟨t,rfl⟩:=c;exact Oo a d b t
  |_=>exact absurd (show ŝ=U2 from e) qb
 |str a=>
  obtain⟨d,rfl⟩:=f;cases x with
  |Nb=>cases c;exact RX a d
  |bl b=>cases c;exact SX a d b
  |int b=>obtain⟨t,rfl⟩:=c;exact Po a d b t
  |str b=>obtain⟨t,rfl⟩:=c;exact UX a d b t
  |_=>exact absurd (show ŝ=U2 from e) qb
 |_=>exact absurd (show ŝ=U2 from g) qb
def qA(x:V)(u:Value):Bool:=match u with
 | .none=>Uh .Nb x
 | .bool b=>Uh (.bl b) x
 | .int i _=>Uh (.int i) x
 | .str z _=>Uh (.str z) x
 |_=>ŝ
def rP(r:yd y u)(f:xi y=U2):qA x u=Uh y x:=by
 cases y with
 |Nb=>cases r;rfl
 |bl b=>cases r;rfl
 |int i=>obtain⟨t,rfl⟩:=r;rfl
 |str z=>obtain⟨t,rfl⟩:=r;rfl
 |_=>trivial
theorem ME{x:V}:∀ {xs:h8} {us:dN},ke xs us->xs.all xi=U2->us.any (qA x)=xs.any λy=>Uh y x
 |_,_,.nil,_=>rfl
 |y::xs,u::us,.cons r t,f=>by
  rw[Je,Da]at f;rw[mf,mf,rP r f.1,ME t f.2]
theorem VD{A:Ma}{s:Shared}{x:V}{v:Value}(c:yd x v)(b:xi x=U2):∀ {xs:h8} {us:dN},ke xs us->xs.all xi=U2->∀ u∈us,Wc A s u v (qA x u)
 |_,_,.nil,_=>λu a=>by cases a
 |y::xs,u::us,.cons r t,f=>λd a=>by
  rw[Je,Da]at f;rcases Ba.mp a with rfl|a
  ·rw[rP r f.1];exact RN r c f.1 b
  ·exact VD c b t f.2 d a
def vC(x:V)(xs:h8):Bool:=xs.any λy=>Uh y x
def RI(K:W.Frag)(a:Bool):R2:=λx y H Q=>∃ p xs,y=.ref p/\(Me K H p xs\/Kg K H p xs)/\xi x=U2/\xs.all xi=U2/\Q (.bl$ if a then !vC x xs else vC x xs) H
def nN:Dg X (yb .In)$ RI X.K ŝ:=by
 rintro f s j H x y v u Q I g i ⟨p,xs,rfl,b,d,c,q⟩;cases i;rcases b with b|b
 ·obtain⟨a,r,pl,h⟩:=I.list b;refine pw _ pl.isList (λw e=>VD g d r c w (by simpa using e)) ⟨.bl _,H,I,rfl,?_⟩;rw[show a.toArray.any _=a.any (qA x) by simp,ME r c];exact q
 ·obtain⟨a,r,pl,h⟩:=I.tuple b;refine Qu _ pl (λw e=>VD g d r c w ⋯) ⟨.bl _,H,I,rfl,?_⟩;rw[show a.toArray.any _=a.any (qA x) by simp,ME r c];exact q
def TR:Dg X (yb .NotIn)$ RI X.K U2:=by
 rintro f s j H x y v u Q I g i ⟨p,xs,rfl,b,d,c,q⟩;cases i;rcases b with b|b
 ·obtain⟨a,r,pl,h⟩:=I.list b;refine Cs _ pl.isList (λw e=>VD g d r c w (by simpa using e)) ⟨.bl _,H,I,rfl,?_⟩;rw[show a.toArray.any _=a.any (qA x) by simp,ME r c];exact q
 ·obtain⟨a,r,pl,h⟩:=I.tuple b;refine mr _ pl (λw e=>VD g d r c w ⋯) ⟨.bl _,H,I,rfl,?_⟩;rw[show a.toArray.any _=a.any (qA x) by simp,ME r c];exact q
def X8:zo X (.builtin "len") (λxs H Q=>∃ p ys,xs=[.ref p]/\(Me X.K H p ys\/Kg X.K H p ys)/\Q (.int ys.length) H):=by
 rintro e s i H xs h Q I r ⟨p,ys,rfl,b,q⟩;obtain⟨u,rfl,rfl⟩:=yr r;have g:=vI;rcases b with b|b
 ·obtain⟨c,d,pl,f⟩:=I.list b;have a:=d.length;exact Calls.call_len_list pl.isList (by simp only[Ua]<;>lia) ⟨.int ys.length,H,I.tok _,⟨s.toks+1,by rw[Ua,a]⟩,q⟩
 ·obtain⟨c,d,pl,f⟩:=I.tuple b;have a:=d.length;exact len_tuple pl (by simp only[Ua]<;>lia) ⟨.int ys.length,H,I.tok _,⟨s.toks+1,by rw[Ua,a]⟩,q⟩
def Z7:zo X (.type "list") (λxs H Q=>∃ p f,xs=[.ref p]/\(Me X.K H p f\/Kg X.K H p f)/\∀ l,H l=ń->Q (.ref l) (Fb H l$ .ia f)):=by
 rintro k s y H xs z Q I r ⟨p,f,rfl,h,q⟩;obtain⟨u,rfl,rfl⟩:=yr r;have Df:∀ (a:dN),ke f a->f.length<=sizeLine->∀ (h':Heap) c,(∀ b x,s.heap.get? b=SY x->h'.get? b=SY x)->
   h'.get? s.heap.objs.size=SY { cls:=.type "list",dict:=ń,data:=.seq a.toArray c,slots:=#[] }->EP X k y Q _ { s with heap:=h' }:=λa d i h' c j e=>
  ⟨.ref s.heap.objs.size,_,I.laid (t':=s.toks) j (wa _) (show Rk X.prog X.w _ h' _ (.ia f)from⟨i,a,c,d,e⟩),rfl,q _$ I.Kc.fresh$ wa _⟩
 rcases h with h|h
 ·obtain⟨a,d,pl,i⟩:=I.list h;have g:=d.length;obtain⟨o,v,m,n,t⟩:=pl.isList;exact VX p (.inl rfl) v m t (λh' c j e=>Df a d i h' c j e) (by simp<;>lia)
 ·obtain⟨a,d,pl,i⟩:=I.tuple h;have g:=d.length;obtain⟨o,v,m,n,t⟩:=pl;exact VX p (.inr rfl) v m t (λh' c j e=>Df a d i h' c j e) (by simp<;>lia)
def T3:zo X (.type "tuple") (λxs H Q=>∃ p d,xs=[.ref p]/\((Me X.K H p d/\∀ l,H l=ń->Q (.ref l) (Fb H l$ .nb d))\/(Kg X.K H p d/\Q (.ref p) H))):=by
 intro a s m H xs v Q I r h;obtain⟨p,d,rfl,h⟩:=h;obtain⟨u,rfl,rfl⟩:=yr r;rcases h with⟨f,q⟩|⟨f,q⟩
 ·obtain⟨c,g,pl,k⟩:=I.list f;have j:=g.length;refine call_tuple_list pl.isList (λh' t=>?_) ⋯;have i:gb X a m H { s with heap:=h' }:=I.kept t;have n:gb X a m _ { s with heap:=h'.push { cls:=.type "tuple",data:=.seq c.toArray } }:=
   i.laid (λb o e=>da _ e) (wa _) (show Rk X.prog X.w _ _ _ (.nb d)from⟨k,c,g,Nu _ _⟩)
  exact⟨.ref h'.objs.size,_,n,rfl,q _$ i.Kc.fresh$ wa _⟩
 ·obtain⟨c,g,pl,k⟩:=I.tuple f;exact call_tuple_same pl ⟨.ref p,H,I,rfl,q⟩
def UQ(K:W.Frag)(T:String)(x:V)(H:Hp):Prop:=match x with
 | .str _=>T = "str"
 | .int _=>T = "int"
 | .ref p=>(T = "list"/\∃ xs,Me K H p xs)\/(T = "tuple"/\∃ o,K.lookup p=SY o/\o.cls=.type "tuple"/\o.dict=ń)\/
   (T = "dict"/\∃ a,H p=SY (.dK a))\/(T = "set"/\∃ S n,H p=SY (.set S n))
 |_=>False
def I0(I:gb X d m H s)(r:yd x v)(ty:UQ X.K T x H) :
  s.TypeIs v T/\∀ a,v=.ref a->∃ ob,s.heap.get? a=SY ob/\ob.dict=ń:=by
 cases x with
 |str z=>
  apply b_;intro z_;obtain⟨t,rfl⟩:=r;cases (show T = "str" from ty);apply z_;exact⟨typeIs_str s z t,λq e=>nomatch e⟩
 |int i=>
  obtain⟨t,rfl⟩:=r;cases (show T = "int" from ty);exact⟨typeIs_int s i t,λq e=>nomatch e⟩
 |ref p=>
  cases r;rcases ty with⟨rfl,xs,j⟩|⟨rfl,o,b,h,g⟩|⟨rfl,b⟩|⟨rfl,S,n,b⟩
  ·apply b_;intro z_;obtain⟨k,_,pl,_⟩:=I.list j;apply z_;refine⟨pl.isList.typeIs,λa e=>?_⟩;cases e;obtain⟨o,n,e,c,g,_⟩:=pl;exact⟨o,e,g⟩
  ·refine⟨⟨o,I.Li p o b,h⟩,λa e=>?_⟩;cases e;exact⟨o,I.Li _ o b,g⟩
  ·have z:∃ o,s.heap.get? p=SY o/\o.ExactDict:=by
    obtain⟨l,b⟩:=b;obtain⟨_,_,_,_,o,_,_,e,ex,_⟩:=I.Kc p _ b;exact⟨o,e,ex⟩
   apply b_;intro z_;obtain⟨o,e,ex⟩:=z;apply z_;refine⟨⟨o,e,ex.1⟩,λa f=>?_⟩;cases f;exact⟨o,e,ex.2.1⟩
  ·obtain⟨o,_,_,_,e,ex,_⟩:=I.Kc p _ b;refine⟨⟨o,e,ex.1⟩,λa f=>?_⟩;cases f;exact⟨o,e,ex.2.1⟩
 |_=>exact False.elim ty
def lY(K:W.Frag)(T:String)(r:V->h8->Hp->VK->Prop)(d:TE)(t:TA):TE:=λb H Q=>d b H λx a=>UQ K T x a/\t b a λxs c=>r x xs c Q
variable{o e:Na}{es:List Na}{to:TE}{t:TA}{name:Str}{apos cpos:Vd}{T id:String}{r:V->h8->Hp->VK->Prop}
def Ŝ(pa:Jm T)(g:bP T name id)(i:ev (.builtin id)=pure (.type "method_descriptor"))(y:Ry X id r)(z:PE X o to)(w:PA X (e::es) t)
  (c:(Ad o name X.env (Mb o X.env)=Mb o X.env)⁻¹)
  (f:(((Zb cpos$ qa (e::es) X.env).all (λx=>!x.1) && (Rg cpos$ Ke [] X.env).all (λx=>x.1.isSome)
   && decide ((e::es).length+([]:List ij).length+(if ([]:List ij).isEmpty then 0 else 1)<30))=U2)⁻¹)
  (d:((apos.endLine == cpos.line)=U2)⁻¹) (A:(qa (e::es) X.env=(ŝ,Mb e X.env)::qa es X.env)⁻¹) (b:((Zb cpos$ qa es X.env).any (·.1)=ŝ)⁻¹) :
  PE X (.Call (.Attribute o name apos) (e::es) [] cpos)$ lY X.K T r to t:=by
 intro a s j H Q I h;refine Ru c f d rfl (pd (z a s j H _ I h) λv s1 ſ=>?_);obtain⟨x,H1,k,m,ty,B⟩:=ſ;obtain⟨q,u⟩:=I0 k m ty;refine⟨T,id,pa,g,i,q,u,?_⟩;have l:=w cpos a s1 j H1 _ k B;rw[A]at l ⊢;exact Vh (by show (ŝ || (Zb cpos$ qa es X.env).any (·.1))=ŝ;rw[b]<;>rfl)$ Ni (pd l (by rintro us s2 ⟨E,n,p,D,C⟩;exact y a s2 j n x E v us Q p m D C))
end
def DR(X:Cx)(b:String)(r:V->h8->Hp->VK->Prop):Prop:=
 ∀ a s σ H x xs v us Q,gb X a σ H s->yd x v->ke xs us->r x xs H Q->
  wpAny (model X.prog X.w) X.A (call (.builtin b)$ v::us) (EP X a σ Q) X.xe s
theorem ke.one{x:V}{us}(h:ke [x] us):∃ u,us=[u]/\yd x u:=by
 cases h with|cons r h=>cases h;exact⟨_,rfl,r⟩
theorem ke.two{x y:V}{us}(h:ke [x,y] us):∃ u v,us=[u,v]/\yd x u/\yd y v:=by
 cases h with|cons r h=>cases h with|cons q h=>cases h;exact⟨_,_,rfl,r,q⟩
section
variable{X:Cx}{pins:List$ Addr × Obj}{σ:St}{H:Hp}{s:Shared}{l b:Addr}{xs ys zs:h8}
def gb.iE{a its':dN}(I:gb X pins σ H s)(b:H l=SY (.ia xs))
  (e:s.heap.get? l=SY { cls:=.type "list",data:=.seq a.toArray n }) (d:f a.toArray=its'.toArray) (h:ke ys its') (i:ys.length<=sizeLine) :
  gb X pins σ (Fb H l$ .ia ys) { s with heap:=s.heap.update l (Fe f),toks:=t' }:=by
 have q:=zaA e f;rw[d]at q;refine I.write (by rw[b];exact trivial) (.inl rfl) (λj u c g=>(Ae s.heap _$ Ud c).trans g) ⟨_,q⟩ ?_;exact⟨i,its',_,h,q⟩
def gb.gA(I:gb X pins σ H s)(b:ke ys a)(c:ys.length<=sizeLine) :
  gb X pins σ (Fb H s.heap.objs.size$ .ia ys) { s with heap:=s.heap.push { cls:=.type "list",data:=.seq a.toArray },toks:=t' }:=
 I.laid (λd d q=>da _ q) (wa _) ⟨c,a,0,b,Ea _ rfl⟩
def gb.fresh(I:gb X pins σ H s):H s.heap.objs.size=ń:=I.Kc.fresh$ wa _
def gb.bu(I:gb X pins σ H s)(b:H l=SY (.ia xs)):xs.length<=sizeLine/\∃ (a:dN) (n:Nat),ke xs a/\xs.length=a.length/\s.heap.get? l=SY { cls:=.type "list",data:=.seq a.toArray n }:=by
 obtain⟨z,a,n,r,e⟩:=I.Kc l _ b;exact⟨z,a,n,r,r.length,e⟩
def MY(h:n<=sizeLine):Ag n=ŝ:=by
 unfold Ag
 simp_all
end
section
variable{X:Cx}
def CN:V->h8->Hp->VK->Prop:=λx a H Q=>∃ l xs y,x=.ref l/\a=[y]/\H l=SY (.ia xs)/\xs.length<sizeLine/\Q .Nb (Fb H l$ .ia$ xs++[y])
def fN:DR X "list.append" CN:=by
 rintro c s m H x k v j Q I g f ⟨l,xs,y,rfl,rfl,b,i,q⟩;cases g;obtain⟨u,rfl,d⟩:=f.one;obtain⟨z,a,n,r,h,e⟩:=I.bu b;refine call_meets F.slot_list_append ⟨_,e,rfl⟩ F.entry_list_append (F.args_list_append_2 _ _) (PySem.list_append l a.toArray n u$ by simp_all) ⟨e,⟨.Nb,_,I.iE b e ⋯ (r.append$ .cons d .nil) ?_,rfl,q⟩⟩;rw[db,List.length_singleton]
 lia
def HV:V->h8->Hp->VK->Prop:=λx c H Q=>∃ l b xs a,x=.ref l/\c=[.ref b]/\H l=SY (.ia xs)/\H b=SY (.ia a)/\xs.length+a.length<=sizeLine/\Q .Nb (Fb H l$ .ia$ xs++a)
def G4:DR X "list.extend" HV:=by
 intro i s G H x C v B Q I w t h;obtain⟨l,b,xs,E,rfl,rfl,g,k,A,q⟩:=h;cases w;obtain⟨u,rfl,rfl⟩:=t.one;obtain⟨z,c,n,r,y,e⟩:=I.bu g;obtain⟨D,a,o,p,m,j⟩:=I.bu k;have f:c.toArray.size+a.toArray.size<=sizeLine:=by rw[Ua,Ua];lia
 have d:¬ (!c.toArray.isEmpty && Ag (c.toArray.size+a.toArray.size))=U2:=by
  rw[MY f,dz];exact qb
 refine call_meets F.slot_list_extend ⟨_,e,rfl⟩ F.entry_list_extend (F.args_list_extend_2 _ _)
  (AutoSeq1.list_extend_list_list_0 l c.toArray n b a.toArray o d (by rw[Ua];lia)$ by lia) ⟨e,j,?_⟩
 refine⟨.Nb,_,I.iE (its':=c++a) g e ⋯ (r.append p) ?_,rfl,q⟩;rw[db]
 lia
def Ĩ:R2:=λx y H Q=>∃ l b xs a,x=.ref l/\y=.ref b/\H l=SY (.ia xs)/\H b=SY (.ia a)/\xs.length+a.length<=sizeLine/\∀ p,H p=ń->Q (.ref p) (Fb H p$ .ia$ xs++a)
def sP:Dg X (Nd .Add) Ĩ:=by
 rintro d s C H x y v u Q I m o ⟨l,b,xs,B,rfl,rfl,i,h,t,q⟩;cases m;cases o;obtain⟨z,c,n,r,p,e⟩:=I.bu i;obtain⟨A,a,w,k,j,f⟩:=I.bu h;refine PySem.P.add_list e f ?_ ⋯;have g:c.toArray++a.toArray=(c++a).toArray:=by simp
 rw[g];exact⟨.ref _,_,I.gA (r.append k) ⋯,rfl,q _ I.fresh⟩
end
section
variable{prog:Aa}{w:Ta}{A:Ma}{E:Value->Shared->Prop}{s:Shared}
set_option maxRecDepth 100000 in
end
end L2
namespace Att
open W Calls
def x8:∀ c d,WellAll P h d (c.map CJ)->xh d c:=by
 intro c;induction c with
 |nil=>
  intro d w;cases w;exact .nil
 |cons n c e=>
  intro d w;cases w with
  |cons a b=>
   cases a;exact .cons _ _$ e _ b
def J8{l:OpenLaw}(x:l.most=SY n)
  (b:l.row.toRowW.claim.pre args=U2) (j:WellAll P h e args) :
  ∃ a m c,e=[Xb a]/\args=[WData.list$ c.map CJ]/\h.get? a=SY { cls:=.type "list",data:=.seq m.toArray }/\xh m c/\c.length<=n:=by
 have i:WShape.hasAll [] args [.list .int]=U2:=(pre_splitW b).1;have s:l.pre.holds [] { args:=args }=U2:=(pre_splitW b).2;obtain⟨d,r,rfl,o,p⟩:=hasAllW_cons i;obtain rfl:=hasAllW_nil p;obtain⟨xs,rfl,q⟩:=hasW_list o;obtain⟨c,rfl⟩:=items_int q;have g:c.length<=n:=by
  have k:(WTm.not$ .lt (.lit$ .int (n:Int))$ .len$ .arg 0).holds [] { args:=[.list$ c.map .int] }=U2:=by
   have k:=(holds_andW s).1
   grind
  have w:=condW_of k$ w_not$ w_lt w_lit$ w_len_list$ w_arg rfl
  grind
 cases j with
 |cons u v=>
  cases v;cases u with
  |list t f=>exact⟨_,_,c,rfl,rfl,t,x8 c _ f,g⟩
theorem TY(l:OpenLaw) a:l.row.toRowW.claim.post a (.bool U2) a=U2:=
 postW_of
  (show WShape.has [] (.bool U2) .bool=U2 by first|rfl|decide|simp)
  (w_eq_bool (w_res rfl) w_lit) rfl
def cp{l:OpenLaw}
  (T:l.most=SY n) (z:d.params.defaults=[])
  (j:∀ w e b u C k o D t g a i v,
   Ground q c [] E w e u C b.heap->F w b.heap->
   b.heap.get? k=SY o->o.data=.func (docDef d.name d.params d.body d.scope D t g)->b.heap.CodeRec t d.name->u d.name=SY (.ref k)->
   b.heap.get? a=SY { cls:=.type "list",data:=.seq i.toArray }->xh i v->v.length<=n->b.gens=#[]->
   codeAny (model l.prog w) mn (.call (.ref k) ⟨[.ref a],[]⟩) (λr x=>r=.ok (.ret$ .bool U2)/\OldK b.heap x.heap/\x.os=b.os/\vh x.gens) b) :
  WalkO q c E F l.row.toRowW d [] (λf i=>PySem.call f i):=by
 intro w e b u C G ϋ k o D t g L kV ό P y I A Q H K X s J W B R;obtain rfl:L=.none:=Dflts.none I z;obtain rfl:kV=.none:=Dflts.noKw I;obtain⟨a,i,v,rfl,rfl,p,h,m⟩:=J8 T s B;refine enter_call (qf (j w e b u C k o D t g a i v G ϋ ό (fd_plain P) y A p h m Q) λr x V=>?_);obtain⟨rfl,M,N,O⟩:=V;exact⟨.inl ⟨.bool U2,.bool U2,[],rfl,λU=>rfl,.bool U2,TY l _,λU=>⟨List.Pairwise.nil,λU S=>(nomatch S)⟩⟩,M,N,O⟩
end Att
namespace L2
open Spec
theorem xD:∀ {a:dN} {ns:em},xh a ns->ke (ns.map V.int) a
 |_,_,.nil=>.nil
 |_,_,.cons n t h=>.cons ⟨t,rfl⟩ (xD h)
noncomputable abbrev QQ{K:W.Frag}{h:Heap}(_:K.In h):W.Frag:=K
noncomputable def Vl(s:Stmt):Arguments:=match s with
 | .FunctionDef _ a _ _ _ _ _ _ _ _=>a
 |_=>{ posonlyargs:=[],args:=[],vararg:=ń,kwonlyargs:=[],kw_defaults:=[],kwarg:=ń,defaults:=[] }
noncomputable def Sj(s:Stmt):List Stmt:=match s with
 | .FunctionDef _ _ b _ _ _ _ _ _ _=>b
 |_=>[]
noncomputable def Gf(s:Stmt):Scope:=match s with
 | .FunctionDef _ _ _ _ _ _ sc _ _ _=>sc
 |_=>{ kind:=.function,names:=[],isGenerator:=ŝ,isCoroutine:=ŝ }
noncomputable abbrev E0:XK:=λa a a=>False
inductive TC(K:W.Frag)(x qual:Str)(st:Stmt)(f:Addr)(fd:kf):Prop
 |mk (oc:Value) (od:Option Addr) (kV doc pm:Value) (an:Option Addr) (cdv ct:Value) (osl:Array (Option Value)) (f1:fd=W.fnOf x qual (Vl st) (Sj st) (Gf st) .none kV doc pm an cdv ct) (f2:K.lookup f=SY ⟨oc,od,.func fd,osl⟩) (f3:W.codeIn K cdv qual=U2):TC K x qual st f fd
structure iJ(K:W.Frag)(x qual:Str)(st:Stmt)(f:Addr)(fd:kf):Prop where
 ex:TC K x qual st f fd
 kp:W.keepIn K (.ref f)=U2
section
variable{P:Aa}{w:Ta}{K:W.Frag}{mg:Str->Option Value}{base:Heap}
def xP{st}{kV d h b ct}(l:K.lookup f=SY ⟨i,j,.func$ W.fnOf x a (Vl st) (Sj st) (Gf st) .none kV d h g b ct,e⟩)
  (c:W.codeIn K b a=U2) (k:W.keepIn K (.ref f)=U2):iJ K x a st f$ W.fnOf x a (Vl st) (Sj st) (Gf st) .none kV d h g b ct:=⟨⟨i,j,kV,d,h,g,b,ct,e,rfl,l,c⟩,k⟩
end
def EQ(h:n<=1000):n<sizeLine:=Su h ⋯
section
variable{X:Cx}
def pv i(c:(X.N[i]?=SY x)⁻¹)(e:NE X.env.scope x:=by first|exact Or.inl rfl|exact Or.inr$ Or.inl rfl|exact Or.inr$ Or.inr rfl)(d: ~~~((x == ("__debug__" : Str))=ŝ))
  (a: ~~~((x == ("__classdict__" : Str))=ŝ)):PE X (.Name x b)$ dS i:=qQ c e d a
end
end L2
namespace Lake
open Spec L2
def lU(a:c):∃ b,b=a:=⟨a,rfl⟩
def ae{b:Type}(a:b):b:=Classical.choose$ lU a
@[simp] theorem zp(a:b):ae a=a:=zaB$ lU a
inductive D where
 |Nb|bl (b:Bool)|int (i:Int)|str (x:Str)|nb (xs:List D)|Vi (ns:em)|ref (n:Nat)
 |ia (xs:List D)|Pa (ks:List Vc) (xs:List D)|obj (c:Nat) (ns:ac) (xs:List D)|Bv (c:Nat)|gt (ss:ac)
abbrev i':=List D
inductive Ob where
 |ia (xs:i')
 |Pa (kvs:List (Vc × D))
 |Eb (c:Nat) (fs:List (Str × D))
 |vc (kvs:List (Vc × D))
abbrev Ga:=List Ob
abbrev St:=L2.St
abbrev Ev:=List$ Option D
set_option genInjectivity false in
structure Xn where
 cls:Nat
inductive Ck(α:Type) where
 |ok (a:α) (σ:Ga)
 |ex (x:Xn) (σ:Ga)
 |Ib
abbrev M(a:Type):=Ga->Ck a
noncomputable def ret{b:Type}(a:b):M b:=λc=>.ok a c
noncomputable def Ib{a:Type}:M a:=λb=>.Ib
noncomputable def Ck.bind{c d:Type}(o:Ck c)(k:c->M d):Ck d:=match o with
 | .ok a b=>k a b
 | .ex x b=>.ex x b
 | .Ib=>.Ib
def Ic{a b:Type}(m:M a)(k:a->M b):M b:=λc=>(m c).bind k
inductive Fl where
 |nx (ρ:Ev)|rt (d:D)|bk (ρ:Ev)|ct (ρ:Ev)|xc (ρ:Ev) (x:Xn)
set_option genInjectivity false in
structure Tab where
 P:Addr
 line:Int
 col:Int
 qual:Str
set_option genInjectivity false in
structure Tx where
 eo:List Tab
 bm:Addr
set_option genInjectivity false in
structure Tb where
 K:W.Frag
 ca:Nat->Addr
 tx:Tx
def Wt(q:Str)(c:Addr):Heap->Prop:=λh=>∃ o a t,h.get? c=SY o/\o.data=.fields a/\a[1]?=SY (.str q t)
def nS(a:Addr):Heap->Prop:=λh=>∃ o,h.get? a=SY o/\o.cls=.type "module"/\o.dict=SY builtinsNs/\o.data=.plain
def Sq(T:Tb)(a:b')(H:Hp):Prop:=∀ t∈T.tx.eo,(T.tx.bm ∉ a/\∃ b,H T.tx.bm=SY (.ud b$ .ext$ nS T.tx.bm))/\t.P ∉ a/\∃ ps,H t.P=SY (.ul ps)/\(ps=#[]\/∃ c,ps=#[pc t.line,pc t.col,.ref c]/\c ∉ a/\H c=SY (.ext$ Wt t.qual c))
def Sq.grow(h:Sq T d H)(k:∀ b u,H b=SY u->a b=SY u):Sq T d a:=λt m=>by
 obtain⟨⟨f,o,g⟩,i,ps,j,l⟩:=h t m;exact⟨⟨f,o,k _ _ g⟩,i,ps,k _ _ j,l.imp id (by rintro ⟨c,e,n,z⟩;exact ⟨c,e,n,k _ _ z⟩)⟩
def Sq.sub(h:Sq T a H)(k:∀ b∈d,b∈a):Sq T d H:=λt m=>by
 obtain⟨⟨f,g⟩,i,ps,j,l⟩:=h t m;exact⟨⟨λz=>f$ k _ z,g⟩,λz=>i$ k _ z,ps,j,l.imp id (by rintro ⟨c,e,n,z⟩;exact ⟨c,e,λy=>n$ k _ y,z⟩)⟩
def Sq.more(h:Sq T a H)(o:H p=ń):Sq T (a++[p]) H:=λt l=>by
 obtain⟨⟨i,m,f⟩,j,ps,g,k⟩:=h t l;have d:∀ {b:Addr} {u:HO},H b=SY u->b ∉ a->b ∉ a++[p]:=fun {b u} e n z=>(jb.mp z).elim n λy=>by
  simp_all
 exact⟨⟨d f i,m,f⟩,d g j,ps,g,k.imp id (by rintro ⟨c,e,n,z⟩;exact ⟨c,e,d z n,z⟩)⟩
def Sq.out(h:Sq T g H)(r:∀ b,b≠a->i b=H b)(q:a∈g\/∃ f,H a=SY (.dK f)):Sq T g i:=λt s=>by
 obtain⟨⟨k,v,m⟩,l,ps,o,p⟩:=h t s;have j:∀ {b:Addr} {u:HO},H b=SY u->b ∉ g->(∀ f,u≠.dK f)->i b=SY u:=fun {b u} e n d=>by
  rw[r b (λz=>by
   subst z;rcases q with y|⟨f,y⟩
   ·exact n y
   ·rw[e]at y;cases y;exact d f rfl)]
  exact e
 exact⟨⟨k,v,j m k (λw z=>by cases z)⟩,l,ps,j o l (λw z=>by cases z),p.imp id (by rintro ⟨c,e,n,z⟩;exact ⟨c,e,n,j z n (λw y=>by cases y)⟩)⟩
noncomputable def Tb.cv(T:Tb)(x:Xn):Value:=.ref$ T.ca x.cls
noncomputable def ZD(c:Nat):Option Nat:=if c<100 then ń else SY (c / 100 - 1)
def Ń(C:Addr)(c:Option Addr)(a:Addr):Heap->Prop:=λh=>∃ o,h.get? a=SY o/\o.cls=.ref C/\∀ b,c=SY b->o.dict=SY b/\∃ d,o.data=.fields d
def HZ(b:Addr)(n:Nat):Heap->Prop:=λh=>∃ o,h.get? b=SY o/\∃ a c t,o.data=.dict a c/\StrKeys a/\nsFind a "pot" = SY (.int n t)
def wG(K:W.Frag)(H:Hp)(a:Addr)(c:em):Prop:=
 (∃ o,H a=SY (.ud o$ .ia$ c.map V.int))\/
  ∃ (o:Obj) (b:Array Value) (n:Nat),K.lookup a=SY o/\o.cls=.type "list"/\o.dict=ń/\o.data=.seq b n/\b.size<=sizeLine/\ke (c.map V.int) b.toList
def wG.seq{K}(h:wG K H a b):Me K H a$ b.map V.int:=by
 rcases h with⟨o,h⟩|h
 ·exact .inl$ .inr ⟨o,h⟩
 ·exact .inr h
def mB(K:W.Frag)(a:Addr)(c:ac):Prop:=∃ (o:Obj) (b:Array Value) (n:Nat),K.lookup a=SY o/\o.cls=.type "tuple"/\o.data=.seq b n/\b.size<=sizeLine/\ke (c.map V.str) b.toList
mutual
def Ja(T:Tb)(d:b')(H:Hp):D->V->Prop
 | .Nb,v=>v=.Nb
 | .bl b,v=>v=.bl b
 | .int i,v=>v=.int i
 | .str x,v=>v=.str x
 | .nb ds,v=>∃ p f,v=.ref p/\H p=SY (.nb f)/\Db T d H ds f
 | .Vi ns,v=>∃ a,v=.ref a/\wG T.K H a ns
 | .ref n,v=>∃ a,v=.ref a/\d[n]?=SY a
 | .ia ds,v=>∃ a f,v=.ref a/\a ∉ d/\H a=SY (.ia f)/\Db T d H ds f
 | .Pa ks ds,v=>∃ a e,v=.ref a/\a ∉ d/\Rd H a (.dK e)/\e.map (·.1)=ks/\Db T d H ds (e.map (·.2))
 | .obj c ns ds,v=>∃ a k h,v=.ref a/\a ∉ d/\H a=SY (.Eb (T.ca c) k h)/\h.map (·.1)=ns/\Db T d H ds (h.map (·.2))
 | .Bv c,v=>∃ a j,v=.ref a/\a ∉ d/\H a=SY (.ext$ Ń (T.ca c) j a)/\∀ n,ZD c=SY n->∃ g,j=SY g/\g ∉ d/\H g=SY (.ext$ HZ g n)
 | .gt ss,v=>∃ a,v=.ref a/\mB T.K a ss
def Db(T:Tb)(b:b')(H:Hp):i'->h8->Prop
 |[],a=>a=[]
 |d::ds,a=>∃ v r,a=v::r/\Ja T b H d v/\Db T b H ds r
end
def Kp(o b:HO):Prop:=b=o\/(∃ d a,o=.dK a/\b=.ud d (.dK a))\/∃ e c,o=.ul e/\b=.ul c
def Kp.trans(x:Kp a b)(y:Kp b c):Kp a c:=by
 rcases x with rfl|⟨g,d,rfl,rfl⟩|⟨ps,e,rfl,rfl⟩
 ·exact y
 ·rcases y with rfl|⟨_,_,z,_⟩|⟨_,_,z,_⟩
  ·exact .inr$ .inl ⟨g,d,rfl,rfl⟩
  all_goals simp_all
 ·rcases y with rfl|⟨_,_,z,_⟩|⟨_,f,_,rfl⟩
  ·exact .inr$ .inr ⟨ps,e,rfl,rfl⟩
  ·cases z
  ·exact .inr$ .inr ⟨ps,f,rfl,rfl⟩
structure Tc(μ:b')(H:Hp)(μ':b')(H':Hp):Prop where
 pre:∃ r,μ'=μ++r
 nb:∀ p xs,H p=SY (.nb xs)->H' p=SY (.nb xs)
 ud:∀ p o u,H p=SY (.ud o u)->H' p=SY (.ud o u)
 keep:∀ p o,H p=SY o->p ∉ μ->(∃ o',H' p=SY o'/\Kp o o')/\p ∉ μ'
def Tc.refl a H:Tc a H a H:=⟨⟨[],by simp⟩,λb b h=>h,λb b b h=>h,λb b h n=>⟨⟨_,h,.inl rfl⟩,n⟩⟩
def Tc.trans(a:Tc g H c e)(b:Tc c e d f):Tc g H d f:=by
 obtain⟨⟨r,rfl⟩,A,k,s⟩:=a;obtain⟨⟨z,rfl⟩,B,l,t⟩:=b;exact⟨⟨r++z,by simp⟩,λp xs h=>B p xs$ A p xs h,λp o u h=>l p o u$ k p o u h,λp o h n=>let ⟨⟨x,m,i⟩,v⟩:=s p o h n;let ⟨⟨y,q,j⟩,w⟩:=t p x m v;⟨⟨y,q,i.trans j⟩,w⟩⟩
def Tc.Oh(e:Tc f H b d) p o(h:H p=SY o)(n:p ∉ f)(i:(∀ a,o≠.dK a)/\∀ ps,o≠.ul ps:=by exact⟨(λl z=>by cases z),(λl z=>by cases z)⟩):d p=SY o/\p ∉ b:=by
 obtain⟨⟨k,g,c⟩,j⟩:=e.keep p o h n;rcases c with rfl|⟨_,a,z,_⟩|⟨ps,_,z,_⟩;all_goals simp_all
def Tc.rd(e:Tc k H b f) p a(h:Rd H p$ .dK a)(n:p ∉ k):Rd f p (.dK a)/\p ∉ b:=by
 rcases h with h|⟨d,h⟩
 ·obtain⟨⟨l,g,c⟩,j⟩:=e.keep p _ h n;rcases c with rfl|⟨d,i,z,rfl⟩|⟨_,_,z,_⟩
  ·exact⟨.inl g,j⟩
  ·cases z;exact⟨.inr ⟨d,g⟩,j⟩
  ·cases z
 ·exact⟨.inr ⟨d,e.ud _ _ _ h⟩,(e.keep p _ h n).2⟩
def Tc.get(e:Tc c H b d){n:Nat}(h:c[n]?=SY a):b[n]?=SY a:=by
 obtain⟨⟨r,rfl⟩,_,_⟩:=e;rw[Ya (aa.mp h).1];exact h
mutual
theorem Ja.mono{T:Tb}{w m:b'}{H s:Hp}(e:Tc w H m s):∀ (d:D) (v:V),Ja T w H d v->Ja T m s d v
 | .Nb,v,h=>by simpa [Ja]using h
 | .bl b,v,h=>by simpa [Ja]using h
 | .int i,v,h=>by simpa [Ja]using h
 | .str x,v,h=>by simpa [Ja]using h
 | .nb ds,v,h=>by
  rw[Ja]at h ⊢;obtain⟨p,k,g,f,j⟩:=h;exact⟨p,k,g,e.nb _ _ f,Db.mono e ds k j⟩
 | .Vi ns,v,h=>by
  rw[Ja]at h ⊢;obtain⟨a,g,f⟩:=h;refine⟨a,g,?_⟩;rcases f with⟨o,f⟩|f
  ·exact .inl ⟨o,e.ud _ _ _ f⟩
  ·exact .inr f
 | .ref n,v,h=>by
  rw[Ja]at h ⊢;obtain⟨a,g,f⟩:=h;exact⟨a,g,e.get f⟩
 | .ia ds,v,h=>by
  rw[Ja]at h ⊢;obtain⟨a,k,g,f,j,l⟩:=h;exact⟨a,k,g,(e.Oh _ _ j f).2,(e.Oh _ _ j f).1,Db.mono e ds k l⟩
 | .Pa ks ds,v,h=>by
  rw[Ja]at h ⊢;obtain⟨a,k,g,f,j,r,l⟩:=h;exact⟨a,k,g,(e.rd _ _ j f).2,(e.rd _ _ j f).1,r,Db.mono e ds _ l⟩
 | .obj c ns ds,v,h=>by
  rw[Ja]at h ⊢;obtain⟨a,A,k,g,f,j,r,l⟩:=h;exact⟨a,A,k,g,(e.Oh _ _ j f).2,(e.Oh _ _ j f).1,r,Db.mono e ds _ l⟩
 | .Bv c,v,h=>by
  rw[Ja]at h ⊢;obtain⟨a,z,g,f,j,l⟩:=h;exact⟨a,z,g,(e.Oh _ _ j f).2,(e.Oh _ _ j f).1,λn q=>let ⟨y,B,t,u⟩:=l n q;⟨y,B,(e.Oh _ _ u t).2,(e.Oh _ _ u t).1⟩⟩
 | .gt ss,v,h=>by rw[Ja]at h ⊢;exact h
theorem Db.mono{T:Tb}{g a:b'}{H f:Hp}(e:Tc g H a f):∀ (b:i') (c:h8),Db T g H b c->Db T a f b c
 |[],c,h=>by simpa [Db]using h
 |d::b,c,h=>by
  rw[Db]at h ⊢;obtain⟨v,r,i,j,k⟩:=h;exact⟨v,r,i,Ja.mono e d v j,Db.mono e b r k⟩
end
def Db.nil:Db T a H [] []:=by rw[Db]
def Db.cons{T}{b}{H}{d}{v}{c}{a}(e:Ja T b H d v)(f:Db T b H c a):Db T b H (d::c)$ v::a:=by
 rw[Db];exact⟨v,a,rfl,e,f⟩
theorem Db.length:∀ {b:i'} {a:h8},Db T e H b a->b.length=a.length
 |[],a,h=>by rw[Db]at h;subst h;rfl
 |d::b,a,h=>by
  obtain⟨v,r,rfl,_,c⟩:=h;simp[Db.length c]
theorem Db.get:∀ {b:i'} {a:h8} {i:Nat} {d:D},Db T f H b a->b[i]?=SY d->∃ v,a[i]?=SY v/\Ja T f H d v
 |[],a,i,d,h,e=>by simp at e
 |d::b,a,0,x,h,e=>by
  obtain⟨v,r,rfl,g,c⟩:=h
  simp_all
 |d::b,a,i+1,x,h,e=>by
  obtain⟨v,r,rfl,g,c⟩:=h;simpa using Db.get c ⋯
theorem Db.append:∀ {e a:i'} {c b:h8},Db T g H e c->Db T g H a b->Db T g H (e++a) (c++b)
 |[],a,c,b,h,f=>by rw[Db]at h;subst h;simpa using f
 |d::e,a,c,b,h,f=>by
  obtain⟨v,r,rfl,i,j⟩:=h;exact Db.cons i$ Db.append j f
theorem Db.set(g:Ja T e H d v):∀ {b:i'} {a:h8} (i:Nat),Db T e H b a->Db T e H (b.set i d) (a.set i v)
 |[],a,i,h=>by rw[Db]at h;subst h;simpa using Db.nil
 |x::b,a,0,h=>by
  obtain⟨w,r,rfl,f,c⟩:=h;exact Db.cons g c
 |x::b,a,i+1,h=>by
  obtain⟨w,r,rfl,f,c⟩:=h;exact Db.cons f$ Db.set g i c
theorem Db.drop:∀ {b:i'} {a:h8} (n:Nat),Db T c H b a->Db T c H (b.drop n) (a.drop n)
 |b,a,0,h=>by simpa using h
 |[],a,n+1,h=>by rw[Db]at h;subst h;simpa using Db.nil
 |x::b,a,n+1,h=>by
  obtain⟨w,r,rfl,e,d⟩:=h;simpa using Db.drop n d
theorem Db.take:∀ {b:i'} {a:h8} (n:Nat),Db T c H b a->Db T c H (b.take n) (a.take n)
 |b,a,0,h=>by simpa using Db.nil
 |[],a,n+1,h=>by rw[Db]at h;subst h;simpa using Db.nil
 |x::b,a,n+1,h=>by
  obtain⟨w,r,rfl,d,e⟩:=h;exact Db.cons d$ Db.take n e
def Wr(T:Tb)(a:b')(H:Hp):List (Str × D)->List (Str × V)->Prop:=Paired λp q=>p.1=q.1/\Ja T a H p.2 q.2
def gi(T:Tb)(a:b')(H:Hp):List (Vc × D)->List (Vc × V)->Prop:=Paired λp q=>p.1=q.1/\Ja T a H p.2 q.2
def Tn(T:Tb)(e:b')(H:Hp)(a:Addr):Ob->Prop
 | .ia ds=>∃ b,H a=SY (.ia b)/\Db T e H ds b
 | .Pa d=>∃ b,H a=SY (.dK b)/\gi T e H d b
 | .Eb c g=>∃ f b,H a=SY (.Eb (T.ca c) f b)/\Wr T e H g b
 | .vc d=>∃ h b,H a=SY (.ud h$ .dK b)/\gi T e H d b
structure gd(T:Tb)(μ:b')(H:Hp)(σ:Ga):Prop where
 len:μ.length=σ.length
 nd:μ.Nodup
 obs:∀ (n:Nat) (o:Ob),σ[n]?=SY o->∃ a,μ[n]?=SY a/\Tn T μ H a o
 tb:Sq T μ H
def Gh(T:Tb)(a:b')(H:Hp)(ρ:Ev)(st:St):Prop:=ρ.length=st.length/\∀ (i:Nat) (d:D),ρ[i]?=SY (SY d)->∃ v,st[i]?=SY (SY v)/\Ja T a H d v
def Gh.mono{st}(e:Tc c H a b)(h:Gh T c H ρ st):Gh T a b ρ st:=
 ⟨h.1,λi d q=>let ⟨v,f,g⟩:=h.2 i d q;⟨v,f,Ja.mono e d v g⟩⟩
set_option tactic.hygienic true in
def Gh.set{st}(h:Gh T a H ρ st) i(r:Ja T a H d v):Gh T a H (ρ.set i$ SY d)$ st.set i$ SY v:=by
 refine⟨by simpa using h.1,λj x q=>?_⟩;rw[Jf]at q;by_cases b:i=j
 ·subst b;rw[na rfl]at q;split at q
  ·rename_i c
   cases q;exact⟨v,by rw[Jf,na rfl,na (by rw[<-h.1];exact c)],r⟩
  ·cases q
 ·rw[ya b]at q;obtain⟨w,e,f⟩:=h.2 j x q
  simp_all
def Ç(e:Addr)(b d:Value)(h:Heap):Prop:=∃ c a,h.get? e=SY c/\c.cls=b/\c.data=.fields a/\1<a.size/\a[0]?=SY d/\a[1]?=SY .none
def Jo(B:Heap)(l:List vg)(e:Addr)(a b:Value)(h:Heap):Prop:=B.StaysIn h/\B.get? e=ń/\h.FunFrames B l/\((∃ c,h.TracedAtW B e a b c)\/Ç e a b h)
def č(o:Obj)(n:Nat):Prop:=∃ a b t,o.data=.dict a b/\StrKeys a/\nsFind a "pot" = SY (.int n t)
def CF(f:Option Nat)(e:Addr)(B h g:Heap)(d:Hp):Prop:=∀ n,f=SY n->∃ a b c,h.get? e=SY c/\c.dict=SY a/\B.get? a=SY b/\č b n/\d a=ń/\g.get? a=ń
inductive dF(outer:List vg)(H:Hp)(s:Shared)(cls:Value)(fd:Option Nat)(H':Hp)(e:Value)(s':Shared):Prop
 |mk (ea:Addr) (a0:Value) (B:Heap) (f1:e=.ref ea) (f2:Jo B outer ea cls a0 s'.heap) (f3:H' ea=ń) (f4:s.heap.get? ea=ń) (f5:(∀ b o,H' b=SY o->∃ ob,B.get? b=SY ob)) (f6:(∀ b o,s.heap.get? b=SY o->H b=ń->b ∉ Oj outer->B.get? b=SY o)) (f7:(∀ b o,s.heap.get? b=SY o->b ∉ Oj outer->∃ o',B.get? b=SY o')) (f8:CF fd ea B s'.heap s.heap H'):dF outer H s cls fd H' e s'
structure Ez(P:Aa)(w:Ta)(outer:List vg)(H:Hp)(s:Shared)(cls:Value)(fd:Option Nat)(H':Hp)(e:Value)(s':Shared):Prop where
 ex:dF outer H s cls fd H' e s'
 os:s'.os=s.os
 bare:vh s'.gens
 un:Un (Oj outer) [] H H' s.heap s'.heap
 Kc:Fi P w H' s'.heap
noncomputable def Ol(P:Aa)(w:Ta):Sv:=λa H s E e f=>∃ b d c,Ez P w a H s b d c e f/\E b d c
structure QB(X:Cx)(st:St)(cls:Value)(fd:Option Nat)(H':Hp):Prop where
 rH:∀ (pins:g') (H:Hp) (s:Shared) (e:Value) (s':Shared),gb X pins st H s->Ez X.prog X.w X.stack H s cls fd H' e s'->X.xe e s'
noncomputable abbrev XE(X:Cx)(d:St):XK:=λa c b=>QB X d a c b
def Vb{d e:Type}(T:Tb)(E:XK)(R:b'->Hp->d->e->Prop)(f:b')(H:Hp)(o:Ck d)(Q:e->Hp->Prop):Prop:=match o with
 | .ok a σ=>∀ b g c,Tc f H b c->gd T b c σ->R b c a g->Q g c
 | .ex x σ=>∀ b c,Tc f H b c->gd T b c σ->E (T.cv x) (ZD x.cls) c
 | .Ib=>False
def Vb.mono{R}{o:Ck j}{Q:k->Hp->Prop}(e:Tc l H c i)(h:Vb T E R l H o Q):Vb T E R c i o Q:=by
 cases o with
 |ok a σ=>exact λb g d f r q=>h b g d (e.trans f) r q
 |ex x σ=>exact λb d f r=>h b d (e.trans f) r
 |Ib=>exact h
def Vb.imp{R}{o:Ck e}{Q d:f->Hp->Prop}(h:Vb T E R i H o Q)(k:∀ g b,Q g b->d g b):Vb T E R i H o d:=by
 cases o with
 |ok a σ=>exact λc g b j r q=>k _ _$ h c g b j r q
 |ex x σ=>exact h
 |Ib=>exact h
def Vb.bind{R:b'->Hp->j->u->Prop}{p}{m}{k:j->M t}{Q:v->Hp->Prop}{o}
  (h:Vb T E p l H (Ic m k i) Q) (f:∀ a b c g d,m i=.ok a b->Tc l H c d->gd T c d b->R c d a g->Vb T E p c d (k a b) Q->o g d):Vb T E R l H (m i) o:=by
 unfold Ic at h;cases e:m i with
 |ok a b=>
  rw[e]at h;exact λn g w s r q=>f a b n g w e s r q$ h.mono s
 |ex x b=>rw[e]at h;exact h
 |Ib=>rw[e]at h;exact h
def Vb.here{R}{d:c}{g:b}{Q}(h:Vb T E R a H (.ok d e) Q)(r:gd T a H e)(p:R a H d g):Q g H:=h a g H (Tc.refl _ _) r p
inductive zB(T:Tb)(st:St)(H:Hp)(P:b'->Ev->Ga->Prop):Prop
 |mk (μ:b') (ρ:Ev) (σ:Ga) (e:Gh T μ H ρ st) (r:gd T μ H σ) (p:P μ ρ σ):zB T st H P
section
variable(T:Tb)(X:Cx)
def tF(f:Ev->M D):TE:=λa H Q=>zB T a H λb c d=>Vb T (XE X a) (Ja T) b H (f c d) Q
def zM:b'->Hp->Bool->Bool->Prop:=λc c a b=>b=a
def tT(f:Ev->M Bool):TT:=λa H Q=>zB T a H λb c d=>Vb T (XE X a) zM b H (f c d) Q
def tL(f:Ev->M (i')):TA:=λa H Q=>zB T a H λb c d=>Vb T (XE X a) (Db T) b H (f c d) Q
set_option genInjectivity false in
inductive Mp where
 |nx (st:St)|rt (v:V)|bk (st:St)|ct (st:St)|xc (st:St) (cls:Value) (fd:Option Nat)
def aq(T:Tb)(b:b')(H:Hp):Fl->Mp->Prop
 | .nx a,.nx st=>Gh T b H a st
 | .rt d,.rt v=>Ja T b H d v
 | .bk a,.bk st=>Gh T b H a st
 | .ct a,.ct st=>Gh T b H a st
 | .xc a x,.xc st cls fd=>Gh T b H a st/\cls=T.cv x/\fd=ZD x.cls
 |_,_=>False
def iq(X:Cx)(D:ll):Mp->Hp->Prop
 | .nx st,H=>D.nx st H
 | .rt v,H=>D.rt v H
 | .bk st,H=>D.bk st H
 | .ct st,H=>D.ct st H
 | .xc st cls fd,H=>QB X st cls fd H
noncomputable abbrev EN:XK:=λa a a=>False
def tS(g:Ev->M Fl):TS:=λD a H=>zB T a H λb ρ c=>Vb T EN (aq T) b H (g ρ c)$ iq X D
end
noncomputable def xs{c:Type}(d:Ev)(m:M c)(k:c->M Fl):M Fl:=λe=>match m e with
 | .ok a b=>k a b
 | .ex x b=>.ok (.xc d x) b
 | .Ib=>.Ib
def Vb.xs{D}{R}{st}{m:M p}{k}{s:t->Hp->Prop}(u:Gh T l H ρ st)
  (h:Vb T EN (aq T) l H (Lake.xs ρ m k n)$ iq X D) (f:∀ a b c g i,m n=.ok a b->Tc l H c i->gd T c i b->R c i a g->Vb T EN (aq T) c i (k a b) (iq X D)->s g i):Vb T (XE X st) R l H (m n) s:=by
 unfold Lake.xs at h;cases e:m n with
 |ok a b=>
  rw[e]at h;exact λd g o j r q=>f a b d g o e j r q$ h.mono j
 |ex x b=>
  rw[e]at h;intro d o j r;exact h d (.xc st _ _) o j r ⟨u.mono j,rfl,rfl⟩
 |Ib=>rw[e]at h;exact h
abbrev FE(T:Tb)(X:Cx)(e:Na)(f:Ev->M D):Prop:=PE X e$ tF T X f
abbrev FT(T:Tb)(X:Cx)(e:Na)(f:Ev->M Bool):Prop:=PT X e$ tT T X f
abbrev FW(T:Tb)(X:Cx)(e:Na)(f:Ev->M Bool):Prop:=PW X e$ tT T X f
abbrev FA(T:Tb)(X:Cx)(a:List Na)(f:Ev->M (i')):Prop:=PA X a$ tL T X f
abbrev FS(T:Tb)(X:Cx)(a:Stmt)(g:Ev->M Fl):Prop:=PS X a$ tS T X g
abbrev Ul(T:Tb)(X:Cx)(a:List Stmt)(g:Ev->M Fl):Prop:=Jv X a$ tS T X g
noncomputable def Uf:Nat:=1000
def zy(h:n<=Uf):n<=sizeLine:=jd$ EQ h
def PV(h:n<Uf):n<sizeLine:=EQ$ jd h
def zI{l:List g}(h:l.Nodup){i j:Nat}{a:g}(k:l[i]?=SY a)(m:l[j]?=SY a):i=j:=by
 obtain⟨c,d⟩:=aa.mp k;obtain⟨e,f⟩:=aa.mp m;have b:=Co.mp h;rcases qw i j with z|z|z
 ·exact absurd (d.trans f.symm)$ b i j c e z
 ·exact z
 ·exact absurd (f.trans d.symm)$ b j i e c z
section
variable{T:Tb}{μ μ':b'}{H H':Hp}{σ:Ga}
def WJ(e:Tc μ H μ' H'){xs}{b}(h:Paired (λ p q =>p.1=q.1/\Ja T μ H p.2 q.2) xs b) :
  Paired (λ(p:a × D) (q:a × V)=>p.1=q.1/\Ja T μ' H' p.2 q.2) xs b:=L2.Paired.Mr h λp q z=>⟨z.1,Ja.mono e _ _ z.2⟩
theorem Tn.mono(e:Tc μ H μ' H')(d:H' a=H a):∀ {o:Ob},Tn T μ H a o->Tn T μ' H' a o
 | .ia ds,⟨b,h,r⟩=>⟨b,d.trans h,Db.mono e _ _ r⟩
 | .Pa f,⟨b,h,r⟩=>⟨b,d.trans h,WJ e r⟩
 | .Eb c j,⟨g,b,h,r⟩=>⟨g,b,d.trans h,WJ e r⟩
 | .vc f,⟨i,b,h,r⟩=>⟨i,b,d.trans h,WJ e r⟩
theorem Tn.some:∀ {o:Ob},Tn T μ H a o->∃ u,H a=Option.some u/\(∀ xs,u≠.nb xs)
 | .ia ds,⟨d,h,r⟩=>⟨_,h,(λi z=>by cases z)⟩
 | .Pa b,⟨d,h,r⟩=>⟨_,h,(λi z=>by cases z)⟩
 | .Eb c f,⟨e,d,h,r⟩=>⟨_,h,(λi z=>by cases z)⟩
 | .vc b,⟨g,d,h,r⟩=>⟨_,h,(λi z=>by cases z)⟩
theorem Tn.nF:∀ {o:Ob},(∀ b,o≠.vc b)->Tn T μ H a o->∃ u,H a=Option.some u/\(∀ xs,u≠.nb xs)/\(∀ e w,u≠.ud e w)
 | .ia ds,_,⟨d,h,r⟩=>⟨_,h,(λi z=>by cases z),(λi i z=>by cases z)⟩
 | .Pa b,_,⟨d,h,r⟩=>⟨_,h,(λi z=>by cases z),(λi i z=>by cases z)⟩
 | .Eb c g,_,⟨f,d,h,r⟩=>⟨_,h,(λi z=>by cases z),(λi i z=>by cases z)⟩
 | .vc b,n,_=>absurd rfl (n b)
def gd.keep(r:gd T μ H σ)(e:Tc μ H μ H')(k:∀ a∈μ,H' a=H a)(t:Sq T μ H'):gd T μ H' σ:=
 ⟨r.len,r.nd,λn o h=>let ⟨a,b,c⟩:=r.obs n o h;⟨a,b,c.mono e$ k a$ ua b⟩,t⟩
def gd.mem(r:gd T μ H σ)(h:a∈μ):∃ u,H a=SY u/\(∀ xs,u≠.nb xs):=by
 obtain⟨n,c⟩:=pr h;have e:n<σ.length:=by rw[<-r.len];exact(aa.mp c).1
 obtain⟨a',b,d⟩:=r.obs n σ[n] ⋯;rw[c]at b;cases b;exact d.some
def Zj(a:H p=ń):Tc μ H μ$ Fb H p o:=
 ⟨⟨[],by simp⟩,λq xs h=>by rw[ee$ zev h a];exact h,λq b u h=>by rw[ee$ zev h a];exact h,λq b h n=>⟨⟨b,by rw[ee$ zev h a];exact h,.inl rfl⟩,n⟩⟩
def gd.fresh(r:gd T μ H σ)(c:H p=ń):gd T μ (Fb H p o) σ:=
 r.keep (Zj c) (λa d=>by obtain⟨u,h,_⟩:=r.mem d;rw[ee$ zev h c]) (r.tb.grow λb u h=>by rw[ee$ zev h c];exact h)
def Dw(a:H p=ń):Tc μ H (μ++[p])$ Fb H p o:=
 ⟨⟨[p],rfl⟩,(Zj (μ:=μ) a).nb,(Zj (μ:=μ) a).ud,λq b h n=>⟨((Zj a).keep q b h n).1,λz=>(jb.mp z).elim n λz=>zev h a ⋯⟩⟩
def gd.push(r:gd T μ H σ)(c:H p=ń)(s:Tn T (μ++[p]) (Fb H p o) p ob):gd T (μ++[p]) (Fb H p o)$ σ++[ob]:=by
 refine⟨by simp[r.len],?_,λn x h=>?_,(r.tb.more c).grow λb u h=>by rw[ee$ zev h c];exact h⟩
 ·rw[Yk];refine⟨r.nd,by simp,λa l b m e=>?_⟩;have i:b=p:=by simpa using m
  subst i;subst e;obtain⟨u,h,_⟩:=r.mem l
  simp_all
 ·by_cases f:n<σ.length
  ·rw[Ya f]at h;obtain⟨a,k,d⟩:=r.obs n x h;obtain⟨u,q,_⟩:=d.some;exact⟨a,by rw[Ya (by rw[r.len];exact f)];exact k,d.mono (Dw c)$ ee$ zev q c⟩
  ·rw[Gb ⋯]at h;have g:n - σ.length=0:=by
    have:=(aa.mp h).1;simp at this;lia
   rw[g]at h;simp at h;subst h;have j:n=μ.length:=by rw[r.len];lia
   subst j
   grind
def yD(r:gd T μ H σ):Ja T (μ++[p]) (Fb H p o) (.ref σ.length)$ .ref p:=by
 rw[Ja];exact⟨p,rfl,by rw[<-r.len];simp⟩
def qu(f:a∈μ)(c:H a=SY u)(d:∀ xs,u≠.nb xs)(e:∀ b w,u≠.ud b w):Tc μ H μ$ Fb H a o:=
 ⟨⟨[],by simp⟩,λq xs h=>by rw[ee$ wQ h c (λz=>d xs z.symm)];exact h,λq b w h=>by rw[ee$ wQ h c (λz=>e b w z.symm)];exact h,λq b h n=>⟨⟨b,by rw[ee (λz=>n ⋯)];exact h,.inl rfl⟩,n⟩⟩
def gd.write(r:gd T μ H σ)(d:μ[n]?=SY a)(t:Tn T μ (Fb H a o) a ob)(q:∀ c,σ[n]?≠SY (.vc c):=by intro c z;simp_all [Ce]):Tc μ H μ (Fb H a o)/\gd T μ (Fb H a o) (σ.set n ob):=by
 obtain⟨u,p,f,g⟩:∃ u,H a=SY u/\(∀ xs,u≠.nb xs)/\(∀ ob w,u≠.ud ob w):=by
  have s:n<σ.length:=by rw[<-r.len];exact(aa.mp d).1
  obtain⟨a',f,g⟩:=r.obs n σ[n] ⋯;rw[d]at f;cases f;exact g.nF λc z=>q c ⋯
 have e:Tc μ H μ$ Fb H a o:=qu (ua d) p f g;refine⟨e,by simp[r.len],r.nd,λm x h=>?_,r.tb.out (λb l=>ee l)$ .inl$ ua d⟩;rw[Jf]at h;by_cases i:n=m
 ·subst i
  simp_all
 ·rw[ya i]at h;obtain⟨b,j,k⟩:=r.obs m x h;refine⟨b,j,k.mono e (ee λz=>i ?_)⟩;subst z;exact zI r.nd d j
def gd.at(r:gd T μ H σ)(h:Ja T μ H (.ref n) v)(e:σ[n]?=SY o):∃ a,v=.ref a/\μ[n]?=SY a/\Tn T μ H a o:=by
 obtain⟨a,rfl,d⟩:=h;obtain⟨a',b,c⟩:=r.obs n o e
 simp_all
end
noncomputable def ka(i:Nat):Ev->M D:=λa b=>match a[i]? with
 |some (SY d)=>.ok d b
 |_=>.Ib
noncomputable def eC(d:D):Ev->M D:=λa=>ret d
noncomputable def qM(o:D->D->M D)(m:M D)(x:D):M D:=Ic m$ o x
def Sa(o:D->D->M D)(a b:Ev->M D):Ev->M D:=λc=>Ic (a c)$ qM o$ b c
noncomputable def be(o:D->M D)(a:Ev->M D):Ev->M D:=λb=>Ic (a b) o
noncomputable def aB(d:D):M Bool:=match d with
 | .bl b=>ret b
 |_=>Ib
noncomputable def kj{a:Type}(p q:M a)(c:Bool):M a:=if c=U2 then p else q
noncomputable def bL(c:Bool):M Bool:=ret$ !c
def my{a:Type}(k:Bool->M a)(d:D):M a:=Ic (aB d) k
def eT(f:Ev->M D):Ev->M Bool:=λa=>Ic (f a) aB
noncomputable def jp(a b:Ev->M Bool):Ev->M Bool:=λc=>Ic (a c)$ kj (b c)$ ret ŝ
noncomputable def My(a b:Ev->M Bool):Ev->M Bool:=λc=>Ic (a c)$ kj (ret U2)$ b c
def vu(a:Ev->M Bool):Ev->M Bool:=λb=>Ic (a b) bL
noncomputable def qL(a b:Ev->M D):Ev->M D:=λc=>Ic (a c)$ my$ kj (b c)$ ret$ .bl ŝ
noncomputable def OU(a b:Ev->M D):Ev->M D:=λc=>Ic (a c)$ my$ kj (ret$ .bl U2)$ b c
noncomputable def xM(c:Bool):M D:=ret$ .bl$ !c
def hX(a:Ev->M D):Ev->M D:=λb=>Ic (a b)$ my xM
noncomputable def Nz(t:Ev->M Bool)(a b:Ev->M D):Ev->M D:=λc=>Ic (t c)$ kj (a c)$ b c
noncomputable def ib:Ev->M (i'):=λa=>ret []
noncomputable def LK(x:D)(xs:i'):M$ i':=ret$ x::xs
def dL(m:M$ i')(x:D):M$ i':=Ic m$ LK x
def Fa(e:Ev->M D)(r:Ev->M (i')):Ev->M (i'):=λa=>Ic (e a)$ dL$ r a
def Uv(a:i'):M D:=if a.length<=Uf then ret (.nb a)else Ib
def yf(a:Ev->M (i')):Ev->M D:=λb=>Ic (a b) Uv
noncomputable def dA(b:i'):M D:=λa=>.ok (.ref a.length)$ a++[.ia b]
def fH(a:i'):M D:=if a.length<=Uf then dA a else Ib
def No(a:Ev->M (i')):Ev->M D:=λb=>Ic (a b) fH
def pC(a:i'):M D:=if a.length<=Uf then ret (.ia a)else Ib
def Zi(a:Ev->M (i')):Ev->M D:=λb=>Ic (a b) pC
def mj(T:Tb)(r:R2)(o:D->D->M D):Prop:=∀ (E:XK) a H b x y v u Q,gd T a H b->Ja T a H x v->Ja T a H y u->Vb T E (Ja T) a H (o x y b) Q->r v u H Q
def jS(T:Tb)(r:V->Hp->VK->Prop)(o:D->M D):Prop:=∀ (E:XK) a H b x v Q,gd T a H b->Ja T a H x v->Vb T E (Ja T) a H (o x b) Q->r v H Q
def Hr(T:Tb)(r:h8->Hp->VK->Prop)(o:i'->M D):Prop:=∀ (E:XK) a H c xs b Q,gd T a H c->Db T a H xs b->Vb T E (Ja T) a H (o xs c) Q->r b H Q
end Lake
open Lake.D renaming int->Z,ref->Y,ia->ύ,str->ϐ,nb->ϒ,bl->ϓ,Nb->Ϛ,Pa->Ϭ,obj->ϵ
open Lake.Ck renaming ok->U,Ib->ϗ
open Lake.Ob renaming ia->ώ,Pa->Ϗ,Eb->ϔ,vc->ϥ
open Or renaming inl->ϑ,inr->ϕ
open PySem.W renaming Frag->ϖ,kitOne->Ϫ,fnOf->ϭ,kla_obj->ϲ,keepIn->Ϸ,mroIn->Ϲ,codeIn->ϻ
open Lake.Fl renaming nx->Ϙ
open L2.V renaming ref->ϙ,int->Ϥ,bl->Ϩ
open PySem.Expr renaming Name->ϛ,Attribute->Ϝ,Call->ϟ,Subscript->ϣ,Tuple->ϰ,ListComp->ϳ,BoolOp->ϴ
open L2.HO renaming dK->ϝ,ud->ϧ,ext->ϫ,ia->ϯ
open PySem.Value renaming builtin->Ϟ
open PySem.Paired renaming cons->Ϡ,nil->Ϣ
open PySem.ScopeKind renaming function->ϡ
open PySem.Data renaming seq->Ϧ,fields->ϩ
open Lake.Tc renaming refl->Ϯ
open False renaming elim->ϱ
open Lake.Mp renaming nx->ϸ
open PySem.Stmt renaming Assign->Ϻ
variable{T:Lake.Tb}{X:L2.Cx}
namespace Lake
open Spec L2
section
variable{a b c:Na}{fa fb:Ev->M D}{ta tb:Ev->M Bool}{pos:Vd}
def Hl i(h:(X.N[i]?=SY x)⁻¹)(m:NE X.env.scope x:=by first|exact Or.inl rfl|exact Or.inr$ Or.inl rfl|exact Or.inr$ Or.inr rfl)(j: ~~~((x == ("__debug__" : Str))=ŝ))
  (c: ~~~((x == ("__classdict__" : Str))=ŝ)):FE T X (ϛ x pos)$ ka i:=by
 rintro b s st H Q I ⟨n,ρ,p,k,l,a⟩;refine qQ h m j c b s st H Q I ?_;unfold ka at a;cases e:ρ[i]? with
 |none=>rw[e]at a;exact a.elim
 |some o=>
  cases o with
  |none=>rw[e]at a;exact a.elim
  |some d=>
   rw[e]at a;obtain⟨v,f,g⟩:=k.2 i d e;exact⟨v,f,a.here l g⟩
def RB(h:PE X e$ tC v)(r:∀ b H,Ja T b H d v):FE T X e$ eC d:=by
 rintro a s g H Q I ⟨b,ρ,j,i,f,c⟩;exact h a s g H Q I$ Vb.here c f$ r _ _
def IH{j}:FE T X (.Constant (.int i) j pos)$ eC$ Z i:=RB E4 λa a=>by rw[Ja]
def e8{j}:FE T X (.Constant (.bool i) j pos)$ eC$ ϓ i:=RB j6 λa a=>by rw[Ja]
def r8{j}:FE T X (.Constant .none j pos)$ eC Ϛ:=RB q8 λa a=>by rw[Ja]
def xV{j}:FE T X (.Constant (.str i) j pos)$ eC$ ϐ i:=RB Ŋ λa a=>by rw[Ja]
def jZ(b:Gl X x)(c:X.mg x=SY u)(r:yd (Ϥ i) u)(a: ~~~((x == ("__debug__" : Str))=ŝ)):FE T X (ϛ x pos)$ eC$ Z i:=RB (NI b c r a) λd d=>by rw[Ja]
def two(m:mj T r o)(h:tF T X (Sa o fa fb) f H Q):SA r (tF T X fa) (tF T X fb) f H Q:=by
 obtain⟨z,ρ,A,e,l,k⟩:=h;exact⟨z,ρ,A,e,l,k.bind λx c a v B C i t n q=>⟨a,ρ,c,e.mono i,t,q.bind λy d b u g C j w p s=>m _ b g d x y v u Q w (Ja.mono j _ _ n) p s⟩⟩
def uv(g:Dg X (Nd d) r)(i:mj T r o)(e:FE T X a fa)(f:FE T X b fb):FE T X (.BinOp a d b pos)$ Sa o fa fb:=
 λc s j H Q I h=>Ĉ g e f c s j H Q I$ two i h
def Op(i:Dg X (yb d) r)(j:mj T r o)(e:FE T X a fa)(f:FE T X b fb)(g:Td d b=ŝ):FE T X (.Compare a [d] [b] pos)$ Sa o fa fb:=
 λc s k H Q I h=>W9 i e f g c s k H Q I$ two j h
def GN(f:ww X r)(i:mj T r o)(d:FE T X a fa)(e:FE T X b fb)(g:kU b):FE T X (ϣ a b pos)$ Sa o fa fb:=
 λc s j H Q I h=>ŵ f d e g c s j H Q I$ two i h
def O0(j:QG X (unaryOp e) r)(m:jS T r o)(g:FE T X a fa):FE T X (.UnaryOp e a pos)$ be o fa:=by
 intro b s t H Q I h;refine QZ j g b s t H Q I ?_;obtain⟨u,ρ,w,i,l,k⟩:=h;exact⟨u,ρ,w,i,l,k.bind λx d c v f z y q n p=>m _ c f d x v Q q n p⟩
def gF{a}{b}{k:Bool->M e}{Q:f->Hp->Prop}(r:Ja T a H d v)(h:Vb T E b a H (Ic (aB d) k g) Q):∃ c,d=ϓ c/\v=Ϩ c/\Vb T E b a H (k c g) Q:=by
 cases d with
 |bl c=>rw[Ja]at r;exact⟨c,rfl,r,h⟩
 |_=>exact h.elim
def BH{b}{a}(r:Ja T a H d v)(h:Vb T E zM a H (aB d b) Q):∃ c,v=Ϩ c/\Vb T E zM a H (U c b) Q:=by
 cases d with
 |bl c=>rw[Ja]at r;exact⟨c,r,h⟩
 |_=>exact h.elim
def Gq(m:Dg X (yb e) r)(t:mj T r o)(g:FE T X a fa)(i:FE T X b fb)(l:Td e b=ŝ):FT T X (.Compare a [e] [b] pos)$ eT$ Sa o fa fb:=by
 intro c s st H Q I h;refine qN m g i l c s st H Q I$ two t ?_;obtain⟨y,ρ,A,j,p,n⟩:=h;refine⟨y,ρ,A,j,p,n.bind λd B z v C d E x u w=>?_⟩;obtain⟨k,f,q⟩:=BH u w;exact⟨k,f,q.here x rfl⟩
def rL(h:FE T X e f)(i:∀ a,JA e X.env a=(do let v <-a;wh e.pos;Be [v] (truthy v)):=by intro _;rfl):FT T X e$ eT f:=by
 intro b s st H Q I m;refine Ê h i b s st H Q I ?_;obtain⟨r,ρ,u,g,l,j⟩:=m;refine⟨r,ρ,u,g,l,j.bind λd w t v x d y p n o=>?_⟩;obtain⟨k,c,q⟩:=BH n o;exact⟨k,c,q.here p rfl⟩
def QU(h:FT T X a ta):FT T X (.UnaryOp .Not a pos)$ vu ta:=by
 intro b s l H Q I g;refine YZ h b s l H Q I ?_;obtain⟨m,ρ,o,d,f,e⟩:=g;exact⟨m,ρ,o,d,f,e.bind λc p n v q c r k i j=>by cases i;exact j.here k rfl⟩
variable{rest:List Na}
def nQ(h:FT T X a ta):FW T X (ϴ .And [a] pos) ta:=Q4 h
def J6(h:FT T X a ta):FW T X (ϴ .Or [a] pos) ta:=Ł h
theorem MW(h:FT T X a ta)(l:FW T X (ϴ .And (b::rest) pos) tb):FW T X (ϴ .And (a::b::rest) pos)$ jp ta tb:=by
 intro r e s q H Q I o;refine Ċ h l r e s q H Q I ?_;obtain⟨t,ρ,u,i,n,m⟩:=o;refine⟨t,ρ,u,i,n,m.bind λc g f v w x k j p d=>?_⟩;cases p;cases c with
 |true=>unfold kj at d;rw[na rfl]at d ⊢;exact⟨f,ρ,g,i.mono k,j,d⟩
 |false=>unfold kj at d;rw[ya qb]at d ⊢;exact d.here j rfl
def Ŀ(h:FT T X a ta)(l:FW T X (ϴ .Or (b::rest) pos) tb):FW T X (ϴ .Or (a::b::rest) pos)$ My ta tb:=by
 intro r e s q H Q I o;refine Ë h l r e s q H Q I ?_;obtain⟨t,ρ,u,i,n,m⟩:=o;refine⟨t,ρ,u,i,n,m.bind λc g f v w x k j p d=>?_⟩;cases p;cases c with
 |true=>unfold kj at d;rw[na rfl]at d ⊢;exact d.here j rfl
 |false=>unfold kj at d;rw[ya qb]at d ⊢;exact⟨f,ρ,g,i.mono k,j,d⟩
def CI{op}(h:FE T X a fa):FE T X (ϴ op [a] pos) fa:=OY h
def IF(h:FE T X a fa)(m:FE T X (ϴ .And (b::rest) pos) fb):FE T X (ϴ .And (a::b::rest) pos)$ qL fa fb:=by
 intro e s u H Q I p;refine h9 h m e s u H Q I ?_;obtain⟨w,ρ,x,i,o,n⟩:=p;refine⟨w,ρ,x,i,o,n.bind λd g f v y d k j r t=>?_⟩;obtain⟨c,rfl,l,q⟩:=gF r t;refine⟨c,l,?_⟩;cases c with
 |true=>unfold kj at q;rw[na rfl]at q ⊢;exact⟨f,ρ,g,i.mono k,j,q⟩
 |false=>unfold kj at q;rw[ya qb]at q ⊢;exact Vb.here q j (by rw[Ja])
def j0(h:FE T X a fa)(m:FE T X (ϴ .Or (b::rest) pos) fb):FE T X (ϴ .Or (a::b::rest) pos)$ OU fa fb:=by
 intro e s u H Q I p;refine fY h m e s u H Q I ?_;obtain⟨w,ρ,x,i,o,n⟩:=p;refine⟨w,ρ,x,i,o,n.bind λd g f v y d k j r t=>?_⟩;obtain⟨c,rfl,l,q⟩:=gF r t;refine⟨c,l,?_⟩;cases c with
 |true=>unfold kj at q;rw[na rfl]at q ⊢;exact Vb.here q j (by rw[Ja])
 |false=>unfold kj at q;rw[ya qb]at q ⊢;exact⟨f,ρ,g,i.mono k,j,q⟩
def R4(h:FE T X a fa):FE T X (.UnaryOp .Not a pos)$ hX fa:=by
 intro b s n H Q I j;refine nZ h b s n H Q I ?_;obtain⟨o,ρ,r,f,i,g⟩:=j;refine⟨o,ρ,r,f,i,g.bind λd t p v u d w m k l=>?_⟩;obtain⟨c,rfl,e,q⟩:=gF k l;exact⟨c,e,Vb.here q m (by rw[Ja])⟩
def XT(n:FT T X c ta)(l:FE T X a fa)(m:FE T X b fb):FE T X (.IfExp c a b pos)$ Nz ta fa fb:=by
 intro f s t H Q I q;refine X7 n l m f s t H Q I ?_;obtain⟨u,ρ,w,i,p,o⟩:=q;refine⟨u,ρ,w,i,p,o.bind λd h g v x y j k r e=>?_⟩;cases r;cases d with
 |true=>unfold kj at e;rw[na rfl]at e ⊢;exact⟨g,ρ,h,i.mono j,k,e⟩
 |false=>unfold kj at e;rw[ya qb]at e ⊢;exact⟨g,ρ,h,i.mono j,k,e⟩
variable{e:Na}{es:List Na}{fe:Ev->M D}{fs:Ev->M (i')}
def wx:FA T X [] ib:=by
 intro pos a s e H Q I d;refine ou pos a s e H Q I ?_;obtain⟨g,ρ,h,f,c,b⟩:=d;exact Vb.here b c Db.nil
def Qr(j:FE T X e fe)(b:FA T X es fs)(l:(qa (e::es) X.env=(ŝ,Mb e X.env)::qa es X.env)⁻¹):FA T X (e::es)$ Fa fe fs:=by
 intro pos a s u H Q I m;refine jq j b l pos a s u H Q I ?_;obtain⟨w,ρ,y,g,b,k⟩:=m;exact⟨w,ρ,y,g,b,k.bind λd f c v A d h r n p=>⟨c,ρ,f,g.mono h,r,p.bind λC z x D B d i t o q=>Vb.here q t$ Db.cons (Ja.mono i _ _ n) o⟩⟩
def AB{a}{c}(h:Vb T E (Ja T) a H (U (ϒ ds) d) Q)(r:gd T a H d)(q:Db T a H ds c)(b:H p=ń):Q (ϙ p)$ Fb H p$ .nb c:=
 h a _ _ (Zj b) (r.fresh b) (by rw[Ja];exact⟨p,c,rfl,ng,Db.mono (Zj b) _ _ q⟩)
def oC{c}{b}(h:Vb T E (Ja T) c H (dA ds d) Q)(r:gd T c H d)(q:Db T c H ds b)(a:H p=ń):Q (ϙ p)$ Fb H p$ ϯ b:=
 h _ _ _ (Dw a) (r.push a ⟨b,ng,Db.mono (Dw a) _ _ q⟩)$ yD r
def gZ{x1}(h:FA T X es fs):FE T X (ϰ es x1 pos)$ yf fs:=by
 intro a s k H Q I i;refine LZ h a s k H Q I ?_;obtain⟨l,ρ,n,f,g,d⟩:=i;refine⟨l,ρ,n,f,g,d.bind λds o m t q p r j e b=>?_⟩;unfold Uv at b;by_cases c:ds.length<=Uf
 ·rw[na c]at b;exact⟨by rw[<-e.length];exact zy c,λp d=>AB b j e d⟩
 ·rw[ya c]at b;exact b.elim
def F5(h:FA T X es fs):FE T X (.List es pos)$ No fs:=by
 intro a s k H Q I i;refine yQ h a s k H Q I ?_;obtain⟨l,ρ,n,f,g,d⟩:=i;refine⟨l,ρ,n,f,g,d.bind λds o m t q p r j e b=>?_⟩;unfold fH at b;by_cases c:ds.length<=Uf
 ·rw[na c]at b;exact⟨by rw[<-e.length];exact zy c,λp d=>oC b j e d⟩
 ·rw[ya c]at b;exact b.elim
def MG{b}{e}{c}(h:Vb T E (Ja T) b H (U (ύ ds) e) Q)(r:gd T b H e)(q:Db T b H ds c)(a:H p=ń):Q (ϙ p)$ Fb H p$ ϯ c:=
 h b _ _ (Zj a) (r.fresh a) (by rw[Ja];exact⟨p,c,rfl,λf=>(by obtain⟨u,d,_⟩:=r.mem f;rw[a]at d;cases d),ng,Db.mono (Zj a) _ _ q⟩)
def Ψ(h:FA T X es fs):FE T X (.List es pos)$ Zi fs:=by
 intro a s k H Q I i;refine yQ h a s k H Q I ?_;obtain⟨l,ρ,n,f,g,d⟩:=i;refine⟨l,ρ,n,f,g,d.bind λds o m t q p r j e b=>?_⟩;unfold pC at b;by_cases c:ds.length<=Uf
 ·rw[na c]at b;exact⟨by rw[<-e.length];exact zy c,λp d=>MG b j e d⟩
 ·rw[ya c]at b;exact b.elim
end
noncomputable def oI(g:Int->Int->Int):D->D->M D
 | Z i,Z j=>ret (Z$ g i j)
 |_,_=>Ib
noncomputable def oB(g:Int->Int->Bool):D->D->M D
 | Z i,Z j=>ret (ϓ$ g i j)
 |_,_=>Ib
noncomputable def Zw(C:Int->Int->Bool)(g:Int->Int->Int):D->D->M D
 | Z i,Z j=>if C i j=U2 then ret (Z$ g i j)else Ib
 |_,_=>Ib
def Gu(i j:Int):Bool:=ae$ (decide (-(2 ^ 64)<i) && decide (i<2 ^ 64)) || (decide (-(2 ^ 64)<j) && decide (j<2 ^ 64))
def iM(_ j:Int):Bool:=ae$ decide (0<j) && decide (j<1073741824)
def vO(_ j:Int):Bool:=ae$ decide$ 0<j
def Rv(i j:Int):Bool:=ae$ decide (0<=j) && decide (j<=1000000) && decide (i.natAbs<2 ^ 64)
def ZJ(_ j:Int):Bool:=ae$ decide$ 0<=j
abbrev kl:=oI (λi j=>i - j)
abbrev YS:=Zw Gu (λi j=>i * j)
abbrev Nm:=Zw iM (λi j=>i / j)
abbrev jj:=Zw vO (λi j=>i % j)
abbrev Ft:=Zw Rv (λi j=>i ^ j.toNat)
abbrev Ly:=Zw ZJ (λi j=>i / 2 ^ j.toNat)
abbrev Kz:=oI (λi j=>ge i j)
abbrev oLt:=oB (λi j=>decide$ i<j)
abbrev oLe:=oB (λi j=>decide$ i<=j)
abbrev XC:=oB (λi j=>decide$ j<i)
abbrev ĺ:=oB (λi j=>decide$ j<=i)
noncomputable def iL:D->M D
 | Z i=>ret (Z$ -i)
 |_=>Ib
noncomputable def rD(T:Tb)(o:D->D->M D):R2:=λv u H Q=>∃ (E:XK) (a:b') (σ:Ga) (x y:D),gd T a H σ/\Ja T a H x v/\Ja T a H y u/\Vb T E (Ja T) a H (o x y σ) Q
def Kr:mj T (rD T o) o:=λE a H b x y v u Q r p q h=>⟨E,a,b,x,y,r,p,q,h⟩
def tq(h:Ja T a H (Z i) v):v=Ϥ i:=by simpa [Ja]using h
def qW:mj T (Wo λi j=>Ϥ$ g i j)$ oI g:=by
 intro E a H b x y v u Q r p q h;cases x with
 |int i=>
  cases y with
  |int j=>exact⟨i,j,tq p,tq q,Vb.here h r (by rw[Ja])⟩
  |_=>exact h.elim
 |_=>exact h.elim
def JG:mj T (Wo λi j=>Ϩ$ g i j)$ oB g:=by
 intro E a H b x y v u Q r p q h;cases x with
 |int i=>
  cases y with
  |int j=>exact⟨i,j,tq p,tq q,Vb.here h r (by rw[Ja])⟩
  |_=>exact h.elim
 |_=>exact h.elim
def ED(d:∀ i j,C i j=U2->b i j):mj T (rI b λi j=>Ϥ$ g i j)$ Zw C g:=by
 intro E f H k x y v u Q r p q h;cases x with
 |int i=>
  cases y with
  |int j=>
   by_cases a:C i j=U2
   ·have c:Vb T E (Ja T) f H (ret (Z$ g i j) k) Q:=by
     have e:Zw C g (Z i) (Z j)=ret (Z$ g i j):=by show (if C i j=U2 then _ else _)=_;rw[na a]
     simp_all
    exact⟨i,j,tq p,tq q,d i j a,Vb.here c r (by rw[Ja])⟩
   ·have e:Zw C g (Z i) (Z j)=Ib:=by show (if C i j=U2 then _ else _)=_;rw[ya a]
    rw[e]at h;exact h.elim
  |_=>exact h.elim
 |_=>exact h.elim
def O6:mj T (Wo λi j=>Ϥ$ i - j) kl:=qW
def B5:mj T (rI nG λi j=>Ϥ$ i * j) YS:=ED λi j h=>by
 simp[Gu]at h;exact h
def l8:mj T (rI pU λi j=>Ϥ$ i / j) Nm:=ED λi j h=>by
 simp[iM]at h;exact h
def jY:mj T (rI (λa j=>0<j) λi j=>Ϥ$ i % j) jj:=ED λi j h=>by
 simp[vO]at h;exact h
def Μ:mj T (rI mR λi j=>Ϥ$ i ^ j.toNat) Ft:=ED λi j h=>by
 simp[Rv]at h;exact⟨h.1.1,h.1.2,h.2⟩
def Ŗ:mj T (rI (λa j=>0<=j) λi j=>Ϥ$ i / 2 ^ j.toNat) Ly:=ED λi j h=>by
 simp[ZJ]at h;exact h
def m3:mj T (Wo λi j=>Ϥ$ ge i j) Kz:=qW
def mI:mj T (Wo λi j=>Ϩ$ decide$ i<j) oLt:=JG
def XA:mj T (Wo λi j=>Ϩ$ decide$ i<=j) oLe:=JG
def lW:mj T (Wo λi j=>Ϩ$ decide$ j<i) XC:=JG
def NN:mj T (Wo λi j=>Ϩ$ decide$ j<=i) ĺ:=JG
def zzj:jS T (rU λi=>Ϥ$ -i) iL:=by
 intro E a H b x v Q r p h;cases x with
 |int i=>exact⟨i,tq p,Vb.here h r (by rw[Ja])⟩
 |_=>exact h.elim
noncomputable def sc:D->Option V
 | Ϛ=>SY .Nb
 | ϓ b=>SY (Ϩ b)
 | Z i=>SY (Ϥ i)
 | ϐ x=>SY (.str x)
 |_=>ń
noncomputable def Ce(a:Ga)(n:Nat):Option$ i':=match a[n]? with
 |some (ώ xs)=>SY xs
 |_=>ń
theorem vH{xs}(h:Ce a n=SY xs):a[n]?=SY (ώ xs):=by
 unfold Ce at h;cases e:a[n]? with
 |none=>simp_all
 |some o=>rw[e]at h;cases o<;>simp at h;subst h;rfl
set_option genInjectivity false in
inductive Kd where
 |s (v:V)|t (xs:i')|l (xs:i')|o
def kd(a:Ga):D->Kd
 | Ϛ=>.s .Nb
 | ϓ b=>.s (Ϩ b)
 | Z i=>.s (Ϥ i)
 | ϐ x=>.s (.str x)
 | ϒ xs=>.t xs
 | ύ xs=>.l xs
 | Y n=>match Ce a n with
  |some xs=>.l xs
  |none=>.o
 |_=>.o
noncomputable def yi(f:D->D->Option Bool):i'->i'->Option Bool
 |[],[]=>SY U2
 |[],_::_=>SY ŝ
 |_::_,[]=>SY ŝ
 |x::xs,y::a=>match f x y,yi f xs a with
  |some b,SY c=>SY (b && c)
  |_,_=>ń
def Rj(f:D->D->Option Bool):Kd->Kd->Option Bool
 | .s a,.s b=>SY (Uh a b)
 | .t xs,.t c=>yi f xs c
 | .l xs,.l c=>yi f xs c
 | .s _,.t _=>SY ŝ
 | .t _,.s _=>SY ŝ
 | .s _,.l _=>SY ŝ
 | .l _,.s _=>SY ŝ
 | .t _,.l _=>SY ŝ
 | .l _,.t _=>SY ŝ
 |_,_=>ń
def Og(a:Ga):Nat->D->D->Option Bool
 |0,x,y=>Rj (λb b=>ń) (kd a x) (kd a y)
 |n+1,x,y=>Rj (Og a n) (kd a x) (kd a y)
theorem eqa(σ:Ga)(n:Nat)(i j:Int):Og σ n (Z i) (Z j)=SY (i == j):=by cases n<;>rfl
theorem eqb(σ:Ga)(n:Nat)(i j:Str):Og σ n (ϐ i) (ϐ j)=SY (i == j):=by cases n<;>rfl
theorem eqc(σ:Ga)(n:Nat)(x y:i'):Og σ (n+1) (ϒ x) (ϒ y)=yi (Og σ n) x y:=by cases x<;>rfl
theorem eqd(σ:Ga)(n:Nat)(x y:i'):Og σ (n+1) (ύ x) (ύ y)=yi (Og σ n) x y:=by cases x<;>rfl
noncomputable def vr(f:D->D->Option Bool)(xs c:i')(j:Nat):Bool:=match xs[j]?,c[j]? with
 |some a,SY b=>(f a b).getD ŝ
 |_,_=>ŝ
theorem GQ(f:D->D->Option Bool):∀ (xs d:i') (b:Bool),yi f xs d=SY b->
  (∀ (j:Nat) (a c:D),xs[j]?=SY a->d[j]?=SY c->∃ k,f a c=SY k)/\b=((List.range$ min xs.length d.length).all (vr f xs d) && xs.length == d.length)
 |[],[],b,h=>by simp[yi]at h;subst h;simp
 |[],y::d,b,h=>by simp[yi]at h;subst h;simp
 |x::xs,[],b,h=>by simp[yi]at h;subst h;simp
 |x::xs,y::d,b,h=>by
  unfold yi at h;cases e:f x y with
  |none=>simp_all
  |some i=>
   cases g:yi f xs d with
   |none=>rw[e,g]at h;cases h
   |some l=>
    rw[e,g]at h;cases h;obtain⟨q,r⟩:=GQ f xs d l g;refine⟨λj a c s t=>?_,?_⟩
    ·cases j with
     |zero=>simp_all
     |succ j=>exact q j a c (by simpa using s) (by assumption)
    ·have m:min (x::xs).length (y::d).length=min xs.length d.length+1:=by simp
     have n:∀ j,vr f (x::xs) (y::d) (j+1)=vr f xs d j:=λj=>by simp[vr]
     have o:vr f (x::xs) (y::d) 0=i:=by simp[vr,e]
     rw[m,dq,Je,EC,o,r];have p:(vr f _ _ ∘ Nat.succ)=vr f xs d:=funext λj=>n j;have e7:((x::xs).length == (y::d).length)=(xs.length == d.length):=by simp
     rw[p,e7,ez]
section
variable{T:Tb}{μ:b'}{H:Hp}{σ:Ga}
def gd.ia(r:gd T μ H σ){n}{v}{xs}(h:Ja T μ H (Y n) v)(e:Ce σ n=SY xs):∃ a b,v=ϙ a/\μ[n]?=SY a/\H a=SY (ϯ b)/\Db T μ H xs b:=by
 obtain⟨a,rfl,c,b,d,f⟩:=r.at h (vH e);exact⟨a,b,rfl,c,d,f⟩
def RG(h:Ja T μ H d v)(e:sc d=SY a):v=a:=by
 cases d<;>cases e<;>simpa [Ja]using h
theorem pP(e:sc d=SY a):xi a=U2:=by
 cases d<;>cases e<;>rfl
def E2(h:xi a=U2):Uh a a=U2:=by cases a<;>first|exact beq_self_eq_true _|rfl|cases h
def uy(r:gd T μ H σ){d:D}{v:V}(h:Ja T μ H d v):match kd σ d with
  | .s a=>v=a/\xi a=U2
  | .t xs=>∃ p c,v=ϙ p/\H p=SY (.nb c)/\Db T μ H xs c
  | .l xs=>∃ p c,v=ϙ p/\H p=SY (ϯ c)/\Db T μ H xs c
  | .o=>True:=by
 cases d with
 |Nb=>exact⟨by simpa [Ja]using h,rfl⟩
 |bl b=>exact⟨by simpa [Ja]using h,rfl⟩
 |int b=>exact⟨by simpa [Ja]using h,rfl⟩
 |str b=>exact⟨by simpa [Ja]using h,rfl⟩
 |nb xs=>rw[Ja]at h;exact h
 |ia xs=>rw[Ja]at h;obtain⟨a,c,f,_,g,i⟩:=h;exact⟨a,c,f,g,i⟩
 |ref n=>
  unfold kd;dsimp only;cases e:Ce σ n with
  |none=>trivial
  |some xs=>obtain⟨a,c,f,_,g,i⟩:=r.ia h e;exact⟨a,c,f,g,i⟩
 |_=>trivial
theorem lK{f:D->D->Option Bool}(j:∀ (x y:D) (v:V) (b:Bool),Ja T μ H x v->Ja T μ H y v->f x y=SY b->b=U2):∀ (xs a:i') (e:h8) (b:Bool),Db T μ H xs e->Db T μ H a e->yi f xs a=SY b->b=U2
 |[],a,e,b,d,c,h=>by
  rw[Db]at d;subst d;cases a with
  |nil=>simp[yi]at h;exact h
  |cons y a=>rw[Db]at c;obtain⟨_,_,z,_⟩:=c;cases z
 |x::xs,a,e,b,d,c,h=>by
  rw[Db]at d;obtain⟨v,r,rfl,m,o⟩:=d;cases a with
  |nil=>rw[Db]at c;cases c
  |cons y a=>
   rw[Db]at c;obtain⟨s,q,z,n,p⟩:=c;cases z;unfold yi at h;cases g:f x y with
   |none=>simp_all
   |some k=>
    cases i:yi f xs a with
    |none=>simp_all
    |some l=>
     rw[g,i]at h;cases h;rw[j x y v k m n g,lK j xs a r l o p i];rfl
def jM(r:gd T μ H σ)(A:∀ x y v b,Ja T μ H x v->Ja T μ H y v->f x y=SY b->b=U2)(B:Ja T μ H x v)(C:Ja T μ H y v)(h:Rj f (kd σ x) (kd σ y)=SY b):b=U2:=by
 have m:=uy r B;have g:=uy r C;generalize kd σ x=E at h m;generalize kd σ y=u at h g;cases E with
 |s a=>
  obtain⟨rfl,d⟩:=m;cases u with
  |s c=>obtain⟨rfl,_⟩:=g;cases h;exact E2 d
  |t xs=>obtain⟨p,j,rfl,_⟩:=g;cases d
  |l xs=>obtain⟨p,j,rfl,_⟩:=g;cases d
  |o=>cases h
 |t xs=>
  obtain⟨p,j,rfl,n,w⟩:=m;cases u with
  |s c=>obtain⟨e,d⟩:=g;rw[<-e]at d;cases d
  |t k=>
   obtain⟨q,ws,e,i,z⟩:=g;cases e;rw[n]at i;cases i;exact lK A xs k j b w z h
  |l k=>simp_all
  |o=>cases h
 |l xs=>
  obtain⟨p,j,rfl,n,w⟩:=m;cases u with
  |s c=>obtain⟨e,d⟩:=g;rw[<-e]at d;cases d
  |t k=>simp_all
  |l k=>
   obtain⟨q,ws,e,i,z⟩:=g;cases e;rw[n]at i;cases i;exact lK A xs k j b w z h
  |o=>cases h
 |o=>cases h
theorem KP(r:gd T μ H σ):∀ (n:Nat) (x y:D) (v:V) (b:Bool),Ja T μ H x v->Ja T μ H y v->Og σ n x y=SY b->b=U2
 |0,x,y,v,b,a,c,h=>jM r (λg g g g g g z=>by cases z) a c h
 |n+1,x,y,v,b,a,c,h=>jM r (λx y v b d e f=>KP r n x y v b d e f) a c h
end
section
variable{pins:List$ Addr × Obj}{st:St}{μ:b'}{H:Hp}{s:Shared}{σ:Ga}
def iH(f:xi a=U2)(r:yd a u)(c:s.heap.IsTuple p e)(d:A.units<cLine):Wc A s u (Xb p) ŝ/\Wc A s (Xb p) u ŝ/\Sg A s u (Xb p) ŝ/\Sg A s (Xb p) u ŝ/\Jg A s u (Xb p) U2/\Jg A s (Xb p) u U2:=by
 cases a with
 |Nb=>cases r;exact⟨.none_tuple c d,.tuple_none c d,.none_tuple c d,.tuple_none c d,.none_tuple c d,.tuple_none c d⟩
 |bl b=>cases r;exact⟨.bool_tuple b c d,.tuple_bool b c d,.bool_tuple b c d,.tuple_bool b c d,.bool_tuple b c d,.tuple_bool b c d⟩
 |int b=>obtain⟨t,rfl⟩:=r;exact⟨.int_tuple b t c d,.tuple_int b t c d,.int_tuple b t c d,.tuple_int b t c d,.int_tuple b t c d,.tuple_int b t c d⟩
 |str b=>obtain⟨t,rfl⟩:=r;exact⟨.str_tuple b t c d,.tuple_str b t c d,.str_tuple b t c d,.tuple_str b t c d,.str_tuple b t c d,.tuple_str b t c d⟩
 |_=>cases f
def NR(f:xi a=U2)(r:yd a u)(c:s.heap.IsList p e)(d:A.units<cLine):Sg A s u (Xb p) ŝ/\Sg A s (Xb p) u ŝ/\Jg A s u (Xb p) U2/\Jg A s (Xb p) u U2:=by
 cases a with
 |Nb=>cases r;exact⟨.none_list c d,.list_none c d,.none_list c d,.list_none c d⟩
 |bl b=>cases r;exact⟨.bool_list b c d,.list_bool b c d,.bool_list b c d,.list_bool b c d⟩
 |int b=>obtain⟨t,rfl⟩:=r;exact⟨.int_list b t c d,.list_int b t c d,.int_list b t c d,.list_int b t c d⟩
 |str b=>obtain⟨t,rfl⟩:=r;exact⟨.str_list b t c d,.list_str b t c d,.str_list b t c d,.list_str b t c d⟩
 |_=>cases f
def J5(f:xi a=U2)(r:yd a u)(c:s.heap.IsList p e)(d:A.units<cLine):Wc A s u (Xb p) ŝ:=by
 cases a with
 |Nb=>cases r;exact .none_list c d
 |bl b=>cases r;exact .bool_list b c d
 |int b=>obtain⟨t,rfl⟩:=r;exact .int_list b t c d
 |str b=>obtain⟨t,rfl⟩:=r;exact .str_list b t c d
 |_=>trivial
def Ŧ(f:xi a=U2)(r:yd a u)(c:s.heap.IsList p e)(d:A.units<cLine):Wc A s (Xb p) u ŝ:=by
 cases a with
 |Nb=>cases r;exact .list_none c d
 |bl b=>cases r;exact .list_bool b c d
 |int b=>obtain⟨t,rfl⟩:=r;exact .list_int b t c d
 |str b=>obtain⟨t,rfl⟩:=r;exact .list_str b t c d
 |_=>trivial
def MZ(f:yd a u)(d:yd b w)(g:xi a=U2)(e:xi b=U2):Sg A s u w (Uh a b)/\Jg A s u w (!Uh a b):=by
 cases a with
 |Nb=>
  cases f;cases b with
  |Nb=>cases d;exact⟨.none_none,.none_none⟩
  |bl y=>cases d;exact⟨.none_bool y,.none_bool y⟩
  |int y=>obtain⟨t,rfl⟩:=d;exact⟨.none_int y t,.none_int y t⟩
  |str y=>obtain⟨t,rfl⟩:=d;exact⟨.none_str y t,.none_str y t⟩
  |_=>cases e
 |bl x=>
  cases f;cases b with
  |Nb=>cases d;exact⟨.bool_none x,.bool_none x⟩
  |bl y=>cases d;exact⟨.bool_bool x y,.bool_bool x y⟩
  |int y=>obtain⟨t,rfl⟩:=d;exact⟨.bool_int x y t,.bool_int x y t⟩
  |str y=>obtain⟨t,rfl⟩:=d;exact⟨.bool_str x y t,.bool_str x y t⟩
  |_=>cases e
 |int x=>
  obtain⟨c,rfl⟩:=f;cases b with
  |Nb=>cases d;exact⟨.int_none x c,.int_none x c⟩
  |bl y=>cases d;exact⟨.int_bool x c y,.int_bool x c y⟩
  |int y=>obtain⟨t,rfl⟩:=d;exact⟨.int_int x c y t,.int_int x c y t⟩
  |str y=>obtain⟨t,rfl⟩:=d;exact⟨.int_str x c y t,.int_str x c y t⟩
  |_=>cases e
 |str x=>
  obtain⟨c,rfl⟩:=f;cases b with
  |Nb=>cases d;exact⟨.str_none x c,.str_none x c⟩
  |bl y=>cases d;exact⟨.str_bool x c y,.str_bool x c y⟩
  |int y=>obtain⟨t,rfl⟩:=d;exact⟨.str_int x c y t,.str_int x c y t⟩
  |str y=>obtain⟨t,rfl⟩:=d;exact⟨.str_str x c y t,.str_str x c y t⟩
  |_=>cases e
 |_=>cases g
def uG{xs}{i:Nat}(r:ke xs a)(h:a[i]?=SY u):∃ x,xs[i]?=SY x/\yd x u:=by
 have e:=r.length;have d:=(aa.mp h).1;obtain⟨f,b,c⟩:=r.get (i:=i) (x:=xs[i]'⋯) ⋯
 simp_all
def VL{i:Nat}(r:Db T μ H ds a)(h:a[i]?=SY v):∃ d,ds[i]?=SY d/\Ja T μ H d v:=by
 have f:=r.length;have e:=(aa.mp h).1;obtain⟨g,b,c⟩:=r.get (i:=i) (d:=ds[i]'⋯) ⋯
 simp_all
def VM(I:∀ x y v w z C b,Ja T μ H x v->Ja T μ H y w->yd v z->yd w C->f x y=SY b->Wc A s z C b)
  {xs c} (r:Db T μ H xs B) (t:Db T μ H c ws) (p:ke B a) (q:ke ws d) (h:yi f xs c=SY b) :
  (∀ j (n:j<a.toArray.size) (o:j<d.toArray.size),Wc A s a.toArray[j] d.toArray[j] (vr f xs c j))/\b=((List.range$ min a.toArray.size d.toArray.size).all (vr f xs c) && a.toArray.size == d.toArray.size):=by
 obtain⟨n,o⟩:=GQ f xs c b h;refine⟨λj L M=>?_,?_⟩
 ·obtain⟨v,E,K⟩:=uG (i:=j) (u:=a.toArray[j]) p ⋯;obtain⟨w,F,e⟩:=uG (i:=j) (u:=d.toArray[j]) q ⋯;obtain⟨x,g,J⟩:=VL r E;obtain⟨y,l,p4⟩:=VL t F;obtain⟨k,m⟩:=n j x y g l;have G:vr f xs c j=k:=by simp[vr,g,l,m]
  rw[G];exact I x y v w _ _ k J p4 K e m
 ·simp;rw[o,r.length,t.length,p.length,q.length]
abbrev wU(A:Ma)(s:Shared)(v w:Value)(b:Bool):Prop:=Sg A s v w b/\Jg A s v w (!b)
def FL(I:gb X pins st H s)(r:gd T μ H σ)(hu:A.units+1<cLine)
  (hf:∀ x y v w O P b,Ja T μ H x v->Ja T μ H y w->yd v O->yd w P->f x y=SY b->Wc A.in1 s O P b) (hx:Ja T μ H x v) (hy:Ja T μ H y w) (N:yd v O) (d:yd w P) (h:Rj f (kd σ x) (kd σ y)=SY b):wU A s O P b:=by
 have g:A.units<cLine:=by lia
 have R:=uy r hx;have m:=uy r hy;generalize kd σ x=k1 at h R;generalize kd σ y=W at h m;cases k1 with
 |o=>cases h
 |s a=>
  obtain⟨rfl,S⟩:=R;cases W with
  |o=>cases h
  |s c=>obtain⟨rfl,K⟩:=m;cases h;exact MZ N d S K
  |t C=>
   apply b_;intro z_;obtain⟨q,ws,rfl,j,z⟩:=m;cases h;cases d;obtain⟨k,_,u,_⟩:=L2.gb.tuple I (Kg.of j);obtain⟨_,_,E,F,G,J⟩:=iH S N u g;apply z_;exact⟨E,G⟩
  |l C=>
   obtain⟨q,ws,rfl,j,z⟩:=m;cases h;cases d;obtain⟨k,_,pl,_⟩:=L2.gb.list I (Me.of j);obtain⟨E,F,G,J⟩:=NR S N pl.isList g;exact⟨E,G⟩
 |t xs=>
  obtain⟨p,vs,rfl,ό,r1⟩:=R;cases N;obtain⟨k,ϋ,M,_⟩:=L2.gb.tuple I (Kg.of ό);cases W with
  |o=>cases h
  |s c=>
   obtain⟨rfl,K⟩:=m;cases h;obtain⟨_,_,E,F,G,J⟩:=iH K d M g;exact⟨F,J⟩
  |t C=>
   apply b_;intro z_;obtain⟨q,ws,rfl,j,z⟩:=m;cases d;obtain⟨i,ϊ,u,_⟩:=L2.gb.tuple I (Kg.of j);obtain⟨L,Q⟩:=VM hf r1 z ϋ ϊ h;apply z_;rw[Q];exact⟨.tuples M u ⋯ L,.tuples M u ⋯ L⟩
  |l C=>
   obtain⟨q,ws,rfl,j,z⟩:=m;cases h;cases d;obtain⟨i,_,pl,_⟩:=L2.gb.list I (Me.of j);exact⟨.tuple_list M pl.isList g,.tuple_list M pl.isList g⟩
 |l xs=>
  obtain⟨p,vs,rfl,ό,r1⟩:=R;cases N;obtain⟨k,ϋ,pl,_⟩:=L2.gb.list I (Me.of ό);cases W with
  |o=>cases h
  |s c=>
   obtain⟨rfl,K⟩:=m;cases h;obtain⟨E,F,G,J⟩:=NR K d pl.isList g;exact⟨F,J⟩
  |t C=>
   obtain⟨q,ws,rfl,j,z⟩:=m;cases h;cases d;obtain⟨i,_,u,_⟩:=L2.gb.tuple I (Kg.of j);exact⟨.list_tuple pl.isList u g,.list_tuple pl.isList u g⟩
  |l C=>
   obtain⟨q,ws,rfl,j,z⟩:=m;cases d;obtain⟨i,ϊ,n,_⟩:=L2.gb.list I (Me.of j);obtain⟨L,Q⟩:=VM hf r1 z ϋ ϊ h;by_cases B:k.toArray.size=i.toArray.size
   ·have e:b=(List.range k.toArray.size).all (vr f xs C):=by rw[Q,<-B];simp
    rw[e];exact⟨.lists pl.isList n.isList B ⋯ L,.lists pl.isList n.isList B ⋯ L⟩
   ·have e:b=ŝ:=by rw[Q,Ie.mpr B,dz]
    rw[e];exact⟨.lists_lengths pl.isList n.isList (by simpa using B) ⋯,.lists_lengths pl.isList n.isList (by simpa using B) ⋯⟩
def aV(I:gb X pins st H s)(r:gd T μ H σ)(W:A.units+1<cLine)
  (Q:∀ x y v w E F b,Ja T μ H x v->Ja T μ H y w->yd v E->yd w F->f x y=SY b->Wc A.in1 s E F b)
  (ό:∀ x y v b,Ja T μ H x v->Ja T μ H y v->f x y=SY b->b=U2) (G:Ja T μ H x v) (J:Ja T μ H y w) (n:yd v E) (d:yd w F) (h:Rj f (kd σ x) (kd σ y)=SY b):Wc A s E F b:=by
 have k:A.units<cLine:=by lia
 have K:=(FL I r W Q G J n d h).1;by_cases i:v=w
 ·subst i;have P:=jM r ό G J h;have m:=uy r G;have g:=uy r J;generalize kd σ x=N at h m;generalize kd σ y=C at h g;cases N with
  |o=>cases h
  |s a=>
   obtain⟨rfl,j⟩:=m;cases C with
   |o=>cases h
   |s c=>obtain⟨rfl,u⟩:=g;cases h;exact RN n d j u
   |t B=>obtain⟨q,ws,e,_⟩:=g;rw[e]at j;cases j
   |l B=>obtain⟨q,ws,e,_⟩:=g;rw[e]at j;cases j
  |t xs=>
   obtain⟨p,O,rfl,_⟩:=m;cases n;cases d;rw[P];exact Vj _
  |l xs=>
   obtain⟨p,O,rfl,_⟩:=m;cases n;cases d;rw[P];exact Vj _
 ·have m:=uy r G;have g:=uy r J;generalize kd σ x=N at h m;generalize kd σ y=C at h g;cases N with
  |o=>cases h
  |s a=>
   obtain⟨rfl,j⟩:=m;cases C with
   |o=>cases h
   |s c=>obtain⟨rfl,u⟩:=g;cases h;exact RN n d j u
   |t B=>
    obtain⟨q,ws,rfl,M,ϊ⟩:=g;cases h;cases d;obtain⟨z,_,S,_⟩:=L2.gb.tuple I (Kg.of M);exact(iH j n S k).1
   |l B=>
    obtain⟨q,ws,rfl,M,ϊ⟩:=g;cases h;cases d;obtain⟨z,_,pl,_⟩:=L2.gb.list I (Me.of M);exact J5 j n pl.isList k
  |t xs=>
   obtain⟨p,O,rfl,L,ϋ⟩:=m;cases n;cases C with
   |o=>cases h
   |s c=>
    obtain⟨rfl,u⟩:=g;cases h;obtain⟨z,_,R,_⟩:=L2.gb.tuple I (Kg.of L);exact(iH u d R k).2.1
   |t B=>obtain⟨q,ws,rfl,_⟩:=g;cases d;exact .of_refs (λe=>i (by rw[e])) K
   |l B=>obtain⟨q,ws,rfl,_⟩:=g;cases d;exact .of_refs (λe=>i (by rw[e])) K
  |l xs=>
   obtain⟨p,O,rfl,L,ϋ⟩:=m;cases n;cases C with
   |o=>cases h
   |s c=>
    obtain⟨rfl,u⟩:=g;cases h;obtain⟨z,_,pl,_⟩:=L2.gb.list I (Me.of L);exact Ŧ u d pl.isList k
   |t B=>obtain⟨q,ws,rfl,_⟩:=g;cases d;exact .of_refs (λe=>i (by rw[e])) K
   |l B=>obtain⟨q,ws,rfl,_⟩:=g;cases d;exact .of_refs (λe=>i (by rw[e])) K
theorem yI(I:gb X pins st H s)(r:gd T μ H σ):∀ (n:Nat) (A:Ma) (x y:D) (v w:V) (c d:Value) (b:Bool),A.units+n+1<cLine->Ja T μ H x v->Ja T μ H y w->yd v c->yd w d->Og σ n x y=SY b->Wc A s c d b
 |0,A,x,y,v,w,c,d,b,o,i,j,k,a,h=>aV I r ⋯ (λp p p p p p p p p p p z=>by cases z) (λp p p p p p z=>by cases z) i j k a h
 |n+1,A,x,y,v,w,c,d,b,o,i,j,k,a,h=>aV I r ⋯ (λx y v w c d b e f g l m=>yI I r n A.in1 x y v w c d b (by show A.units+1+n+1<cLine;lia) e f g l m) (λx y v b e f g=>KP r n x y v b e f g) i j k a h
def qU(I:gb X pins st H s)(r:gd T μ H σ) n(o:A.units+n+1<cLine)(e:Ja T μ H x v)(f:Ja T μ H y w)(g:yd v c)(a:yd w d)(h:Og σ n x y=SY b):wU A s c d b:=by
 cases n with
 |zero=>exact FL I r ⋯ (λp p p p p p p p p p p z=>by cases z) e f g a h
 |succ n=>exact FL I r ⋯ (λx y v w c d b i j k l m=>yI I r n A.in1 x y v w c d b (by show A.units+1+n+1<cLine;lia) i j k l m) e f g a h
end
section
variable{pins:List$ Addr × Obj}{st:St}{μ:b'}{H:Hp}{s:Shared}{σ:Ga}
def Hh(x y:D):M D:=λσ=>match Og σ 8 x y with
 |some b=>U (ϓ b) σ
 |none=>ϗ
def ah(x y:D):M D:=λσ=>match Og σ 8 x y with
 |some b=>U (ϓ$ !b) σ
 |none=>ϗ
def JT(h:X.A.units+9<cLine):Dg X (yb .Eq)$ rD T Hh:=by
 rintro pins s st H v u j i Q I g f ⟨E,μ,σ,x,y,r,c,d,a⟩;unfold Hh at a;cases e:Og σ 8 x y with
 |none=>rw[e]at a;exact a.elim
 |some b=>
  rw[e]at a;have:=(qU I r 8 ⋯ c d g f e).1 X.prog X.w X.xe (EP X pins st Q) ⟨Ϩ b,H,I,rfl,Vb.here a r (by rw[Ja])⟩;exact this
def MJ(h:X.A.units+9<cLine):Dg X (yb .NotEq)$ rD T ah:=by
 rintro pins s st H v u j i Q I g f ⟨E,μ,σ,x,y,r,c,d,a⟩;unfold ah at a;cases e:Og σ 8 x y with
 |none=>rw[e]at a;exact a.elim
 |some b=>
  rw[e]at a;have:=(qU I r 8 ⋯ c d g f e).2 X.prog X.w X.xe (EP X pins st Q) ⟨Ϩ _,H,I,rfl,Vb.here a r (by rw[Ja])⟩;exact this
noncomputable def Ux(x y:D):M D:=λσ=>match y with
 | Ϛ=>(match x with
  | Ϛ=>U (ϓ U2) σ
  |_=>U (ϓ ŝ) σ)
 |_=>ϗ
noncomputable def dW(x y:D):M D:=λσ=>match y with
 | Ϛ=>(match x with
  | Ϛ=>U (ϓ ŝ) σ
  |_=>U (ϓ U2) σ)
 |_=>ϗ
def eQ(h:Ja T μ H x v):decide (v=.Nb)=(match x with | Ϛ=>U2|_=>ŝ):=by
 cases x with
 |Nb=>rw[Ja]at h;subst h;rfl
 |nb ds=>rw[Ja]at h;obtain⟨p,_,rfl,_⟩:=h;simp
 |Vi ds=>rw[Ja]at h;obtain⟨p,rfl,_⟩:=h;simp
 |ref ds=>rw[Ja]at h;obtain⟨p,rfl,_⟩:=h;simp
 |ia ds=>rw[Ja]at h;obtain⟨p,_,rfl,_⟩:=h;simp
 |Pa ks ds=>rw[Ja]at h;obtain⟨p,_,rfl,_⟩:=h;simp
 |obj c ks ds=>rw[Ja]at h;obtain⟨p,_,_,rfl,_⟩:=h;simp
 |Bv c=>rw[Ja]at h;obtain⟨p,_,rfl,_⟩:=h;simp
 |gt ds=>rw[Ja]at h;obtain⟨p,rfl,_⟩:=h;simp
 |_=>rw[Ja]at h;subst h;simp
def oU:mj T (λx y H Q=>y=.Nb/\Q (Ϩ$ decide$ x=.Nb) H) Ux:=by
 intro E μ H σ x y v u Q r p q h;cases y with
 |Nb=>
  refine⟨by rw[Ja]at q;exact q,?_⟩;rw[eQ p];cases x<;>exact Vb.here h r (by rw[Ja])
 |_=>exact h.elim
def bU:mj T (λx y H Q=>y=.Nb/\Q (Ϩ$ !decide (x=.Nb)) H) dW:=by
 intro E μ H σ x y v u Q r p q h;cases y with
 |Nb=>
  refine⟨by rw[Ja]at q;exact q,?_⟩;rw[eQ p];cases x<;>exact Vb.here h r (by rw[Ja]<;>rfl)
 |_=>exact h.elim
def zq6(r:Db T μ H ds a)(h:rq ds k=SY d):∃ v,rq a k=SY v/\Ja T μ H d v:=by
 unfold rq at h ⊢;rw[<-r.length];cases e:Yp ds.length k with
 |none=>simp_all
 |some j=>rw[e]at h;exact r.get h
theorem DD:∀ (a:em),Db T μ H (a.map Z) (a.map Ϥ)
 |[]=>Db.nil
 |n::a=>Db.cons (by rw[Ja]) (DD a)
def Nh(σ:Ga):D->Option (i')
 | ϒ xs=>SY xs
 | .Vi ns=>SY (ns.map Z)
 | Y n=>Ce σ n
 | ύ xs=>SY xs
 | .gt ss=>SY (ss.map ϐ)
 |_=>ń
def Cb(x i:D):M D:=λσ=>match i with
 | Z k=>(match Nh σ x with
  |some xs=>(match rq xs k with
   |some d=>U d σ
   |none=>ϗ)
  |none=>ϗ)
 |_=>ϗ
theorem uK:∀ (a:ac),Db T μ H (a.map ϐ) (a.map V.str)
 |[]=>Db.nil
 |n::ns=>Db.cons (by rw[Ja]) (uK ns)
def Rz(r:gd T μ H σ){xs}(h:Ja T μ H x v)(e:Nh σ x=SY xs):∃ p c,v=ϙ p/\Db T μ H xs c/\(Me T.K H p c\/Kg T.K H p c):=by
 cases x with
 |nb ds=>cases e;rw[Ja]at h;obtain⟨p,c,rfl,b,d⟩:=h;exact⟨p,c,rfl,d,ϕ$ Kg.of b⟩
 |Vi ns=>cases e;rw[Ja]at h;obtain⟨p,rfl,b⟩:=h;exact⟨p,_,rfl,DD ns,ϑ b.seq⟩
 |ref n=>obtain⟨a,c,rfl,_,b,d⟩:=r.ia h e;exact⟨a,c,rfl,d,ϑ$ Me.of b⟩
 |ia ds=>cases e;rw[Ja]at h;obtain⟨p,c,rfl,_,b,d⟩:=h;exact⟨p,c,rfl,d,ϑ$ Me.of b⟩
 |gt ss=>cases e;rw[Ja]at h;obtain⟨p,rfl,b⟩:=h;exact⟨p,_,rfl,uK ss,ϕ$ ϕ b⟩
 |_=>cases e
def pK(l:T.K=X.K):mj T (λx y H Q=>GK X.K x y H Q\/rM X.K x y H Q) Cb:=by
 intro E μ H σ x y v u Q r p q h;cases y with
 |int k=>
  unfold Cb at h;cases e:Nh σ x with
  |none=>simp[e]at h;exact h.elim
  |some xs=>
   simp[e]at h;cases c:rq xs k with
   |none=>rw[c]at h;exact h.elim
   |some d=>
    rw[c]at h;obtain⟨a,i,rfl,j,b⟩:=Rz r p e;obtain⟨w,f,g⟩:=zq6 j c;rw[l]at b;rcases b with b|b
    ·exact ϑ ⟨a,i,k,w,rfl,tq q,b,f,Vb.here h r g⟩
    ·exact ϕ ⟨a,i,k,w,rfl,tq q,b,f,Vb.here h r g⟩
 |_=>trivial
def fK:ww X (λx y H Q=>GK X.K x y H Q\/rM X.K x y H Q):=O7.or Ĥ
def Xw(d:D):Bool:=(sc d).isSome
def Cy(x y:D):Bool:=match sc x,sc y with
 |some a,SY b=>Uh a b
 |_,_=>ŝ
def Ht(a:Bool)(x y:D):M D:=λσ=>match Nh σ y with
 |some xs=>if (Xw x && xs.all Xw)=U2 then U (ϓ$ if a then !(xs.any λz=>Cy z x)else xs.any λz=>Cy z x) σ else ϗ
 |none=>ϗ
theorem MU:∀ {c:i'} {b:h8},Db T μ H c b->c.all Xw=U2->b.all xi=U2
 |[],b,h,_=>by rw[Db]at h;subst h;rfl
 |d::c,b,h,e=>by
  obtain⟨v,r,rfl,g,i⟩:=h;rw[Je,Da]at e ⊢;obtain⟨a,f⟩:=Zd.mp e.1;exact⟨by rw[RG g f];exact pP f,MU i e.2⟩
theorem yP{x:D}{a:V}(ex:sc x=SY a):∀ {b:i'} {f:h8},Db T μ H b f->b.all Xw=U2->(b.any λz=>Cy z x)=f.any λy=>Uh y a
 |[],f,h,_=>by rw[Db]at h;subst h;rfl
 |d::b,f,h,e=>by
  obtain⟨v,r,rfl,i,j⟩:=h;rw[Je,Da]at e;obtain⟨c,g⟩:=Zd.mp e.1;rw[mf,mf,yP ex j e.2];have:Cy d x=Uh v a:=by unfold Cy;rw[g,ex,RG i g]
  grind
def nJ(l:T.K=X.K) d:mj T (RI X.K d)$ Ht d:=by
 intro E μ H σ x y v u Q r p q h;unfold Ht at h;cases e:Nh σ y with
 |none=>rw[e]at h;exact h.elim
 |some xs=>
  rw[e]at h;by_cases c:(Xw x && xs.all Xw)=U2
  ·simp[c]at h;rw[Da]at c;obtain⟨a,f⟩:=Zd.mp c.1;obtain⟨b,j,rfl,g,i⟩:=Rz r q e;rw[l]at i;refine⟨b,j,rfl,i,by rw[RG p f];exact pP f,MU g c.2,?_⟩;have k:vC v j=xs.any λz=>Cy z x:=by unfold vC;rw[yP f g c.2,RG p f]
   rw[k];exact Vb.here h r (by rw[Ja])
  ·simp[c]at h;exact h.elim
def Dn(xs:i'):M D:=λσ=>match xs with
 |[x]=>(match Nh σ x with
  |some a=>U (Z a.length) σ
  |none=>ϗ)
 |_=>ϗ
def P8(i:T.K=X.K):Hr T (λxs H Q=>∃ p a,xs=[ϙ p]/\(Me X.K H p a\/Kg X.K H p a)/\Q (Ϥ a.length) H) Dn:=by
 intro E μ H σ xs f Q r p h
 match xs with
 |[]=>exact h.elim
 |[x]=>
  obtain⟨v,w,rfl,j,d⟩:=p;rw[Db]at d;subst d;unfold Dn at h;cases e:Nh σ x with
  |none=>simp[e]at h;exact h.elim
  |some a=>
   simp[e]at h;obtain⟨b,f,rfl,g,c⟩:=Rz r j e;rw[i]at c;exact⟨b,f,rfl,c,by rw[<-g.length];exact Vb.here h r (by rw[Ja])⟩
 |_::_::_=>exact h.elim
def wr(xs:i'):M D:=λσ=>match xs with
 |[x]=>(match Nh σ x with
  |some a=>dA a σ
  |none=>ϗ)
 |_=>ϗ
def QY(i:T.K=X.K):Hr T (λxs H Q=>∃ p a,xs=[ϙ p]/\(Me X.K H p a\/Kg X.K H p a)/\∀ l,H l=ń->Q (ϙ l) (Fb H l$ ϯ a)) wr:=by
 intro E μ H σ xs f Q r p h
 match xs with
 |[]=>exact h.elim
 |[x]=>
  obtain⟨v,w,rfl,k,d⟩:=p;rw[Db]at d;subst d;unfold wr at h;cases e:Nh σ x with
  |none=>simp[e]at h;exact h.elim
  |some a=>
   simp only[e]at h;obtain⟨b,f,rfl,g,c⟩:=Rz r k e;rw[i]at c;exact⟨b,f,rfl,c,λl j=>oC h r g j⟩
 |_::_::_=>exact h.elim
noncomputable def BN:D->Bool
 | .gt _=>U2
 |_=>ŝ
def Hz(xs:i'):M D:=λσ=>match xs with
 |[x]=>(match Nh σ x with
  |some a=>if BN x=U2 then ϗ else U (ϒ a) σ
  |none=>ϗ)
 |_=>ϗ
def EY(m:T.K=X.K):Hr T (λxs H Q=>∃ p i,xs=[ϙ p]/\((Me X.K H p i/\∀ l,H l=ń->Q (ϙ l) (Fb H l$ .nb i))\/(Kg X.K H p i/\Q (ϙ p) H))) Hz:=by
 intro E μ H σ xs f Q r p h
 match xs with
 |[]=>exact h.elim
 |[x]=>
  apply b_;intro z_;obtain⟨v,w,rfl,c,k⟩:=p;rw[Db]at k;subst k;have h:Vb T E _ μ H (match Nh σ x with|some i=>if BN x=U2 then ϗ else U _ σ|none=>ϗ) Q:=h;apply z_;cases e:Nh σ x with
  |none=>simp[e]at h;exact h.elim
  |some i=>
   simp[e]at h;cases x with
   |gt ss=>exact h.elim
   |nb ds=>
    cases e;have o:=c;rw[Ja]at c;obtain⟨b,f,rfl,d,j⟩:=c;exact⟨b,f,rfl,ϕ ⟨Kg.of d,Vb.here h r o⟩⟩
   |Vi ns=>
    cases e;rw[Ja]at c;obtain⟨b,rfl,d⟩:=c;exact⟨b,_,rfl,ϑ ⟨by rw[<-m];exact d.seq,λl g=>AB h r (DD ns) g⟩⟩
   |ref n=>
    obtain⟨a,f,rfl,_,d,j⟩:=r.ia c e;exact⟨a,f,rfl,ϑ ⟨Me.of d,λl g=>AB h r j g⟩⟩
   |ia ds=>
    cases e;rw[Ja]at c;obtain⟨b,f,rfl,_,d,j⟩:=c;exact⟨b,f,rfl,ϑ ⟨Me.of d,λl g=>AB h r j g⟩⟩
   |_=>cases e
 |_::_::_=>exact h.elim
end
noncomputable def Qm(o:i'->M D)(a:Ev->M (i')):Ev->M D:=λb=>Ic (a b) o
section
variable{x:Str}{p pos:Vd}{e:Na}{es:List Na}{fs:Ev->M (i')}{id ty:String}{r:h8->Hp->VK->Prop}{o:i'->M D}
def rV(i:Hr T r o)(h:tF T X (Qm o fs) c H Q):KM r (tL T X fs) c H Q:=by
 obtain⟨n,ρ,p,e,g,f⟩:=h;exact⟨n,ρ,p,e,g,f.bind λds b a m d s q l j k=>i _ a d b ds m Q l j k⟩
def sF(f:zo X (Ϟ id) r)(l:Hr T r o)(i:Gl X x)(j:X.mg x=ń)(m:bootBuiltins x=SY (Ϟ id))(d:FA T X (e::es) fs)(k: ~~~(x ≠ "__name__"))(b: ~~~((x == ("__debug__" : Str))=ŝ))
  (g:(qa (e::es) X.env=(ŝ,Mb e X.env)::qa es X.env)⁻¹) (c:((Zb pos$ qa es X.env).any (·.1)=ŝ)⁻¹):FE T X (ϟ (ϛ x p) (e::es) [] pos)$ Qm o fs:=
 λa s n H Q I h=>JF f i j m d k b g c a s n H Q I$ rV l h
def oH(f:zo X (Wh ty) r)(l:Hr T r o)(i:Gl X x)(j:X.mg x=ń)(m:bootBuiltins x=SY (Wh ty))(d:FA T X (e::es) fs)(k: ~~~(x ≠ "__name__"))(b: ~~~((x == ("__debug__" : Str))=ŝ))
  (g:(qa (e::es) X.env=(ŝ,Mb e X.env)::qa es X.env)⁻¹) (c:((Zb pos$ qa es X.env).any (·.1)=ŝ)⁻¹):FE T X (ϟ (ϛ x p) (e::es) [] pos)$ Qm o fs:=
 λa s n H Q I h=>AM f i j m d k b g c a s n H Q I$ rV l h
end
def wf(a:Ga):D->Option (i')
 | Y n=>Ce a n
 | ύ xs=>SY xs
 |_=>ń
def gd.ls(r:gd T g H i){xs}(h:Ja T g H x v)(e:wf i x=SY xs):∃ a b,v=ϙ a/\H a=SY (ϯ b)/\Db T g H xs b:=by
 cases x with
 |ref n=>obtain⟨a,b,c,_,d,f⟩:=r.ia h e;exact⟨a,b,c,d,f⟩
 |ia j=>cases e;rw[Ja]at h;obtain⟨a,b,c,_,d,f⟩:=h;exact⟨a,b,c,d,f⟩
 |_=>cases e
def Jr(o:D->i'->M D)(m:M$ i')(x:D):M D:=λa=>match wf a x with
 |some _=>Ic m (o x) a
 |none=>ϗ
def qq(o:D->i'->M D)(f:Ev->M D)(b:Ev->M (i')):Ev->M D:=λa=>Ic (f a)$ Jr o$ b a
def jC(T:Tb)(r:V->h8->Hp->VK->Prop)(o:D->i'->M D):Prop:=∀ (E:XK) a H c x xs v b Q,gd T a H c->Ja T a H x v->Db T a H xs b->Vb T E (Ja T) a H (o x xs c) Q->r v b H Q
def Pg(x:D)(xs:i'):M D:=λb=>match x,xs with
 | Y n,[y]=>(match Ce b n with
  |some a=>if a.length<Uf then U Ϛ (b.set n$ ώ$ a++[y])else ϗ
  |none=>ϗ)
 |_,_=>ϗ
section
variable{o e:Na}{es:List Na}{f:Ev->M D}{fs:Ev->M (i')}{name:Str}{apos cpos:Vd}{id:String}{r:V->h8->Hp->VK->Prop}{g:D->i'->M D}
def jO(pa:Jm "list")(l:bP "list" name id)(q:ev (Ϟ id)=pure (Wh "method_descriptor"))(G:Ry X id r)(M:jC T r g)(J:FE T X o f)(F:FA T X (e::es) fs)
  (c:(Ad o name X.env (Mb o X.env)=Mb o X.env)⁻¹)
  (i:(((Zb cpos$ qa (e::es) X.env).all (λx=>!x.1) && (Rg cpos$ Ke [] X.env).all (λx=>x.1.isSome)
   && decide ((e::es).length+([]:List ij).length+(if ([]:List ij).isEmpty then 0 else 1)<30))=U2)⁻¹)
  (d:((apos.endLine == cpos.line)=U2)⁻¹) (p:(qa (e::es) X.env=(ŝ,Mb e X.env)::qa es X.env)⁻¹) (b:((Zb cpos$ qa es X.env).any (·.1)=ŝ)⁻¹) :
  FE T X (ϟ (Ϝ o name apos) (e::es) [] cpos)$ qq g f fs:=by
 intro j s R H Q I h;refine Ŝ pa l q G J F c i d p b j s R H Q I ?_;obtain⟨ό,ρ,V,y,L,K⟩:=h;refine⟨ό,ρ,V,y,L,K.bind λx m t v W U C A z k=>?_⟩;unfold Jr at k;cases n:wf m x with
 |none=>rw[n]at k;exact k.elim
 |some xs=>
  rw[n]at k;obtain⟨a,S,rfl,E,ϋ⟩:=A.ls z n;exact⟨ϑ ⟨rfl,S,Me.of E⟩,t,ρ,m,y.mono C,A,k.bind λds w u ws B U D P N O=>(M _ u B w x ds _ ws Q P (Ja.mono D _ _ z) N O)⟩
def fM:jC T CN Pg:=by
 intro E k H m x xs v d Q r p q h;cases x with
 |ref n=>
  match xs with
  |[]=>exact h.elim
  |[y]=>
   obtain⟨w,z,rfl,l,i⟩:=q;rw[Db]at i;subst i;unfold Pg at h;cases b:Ce m n with
   |none=>simp[b]at h;exact h.elim
   |some ys=>
    simp only[b]at h;by_cases c:ys.length<Uf
    ·rw[na c]at h;obtain⟨a,d,rfl,g,e,f⟩:=r.ia p b;have j:=r.write (ob:=ώ _) g ⟨_,ng,by
      have ex:Tc k H k$ Fb H a$ ϯ$ d++[w]:=qu (ua g) e (λo z=>by cases z) (λo o z=>by cases z);exact Db.append (Db.mono ex _ _ f)$ Db.cons (Ja.mono ex _ _ l) Db.nil⟩
     exact⟨a,d,w,rfl,rfl,e,by rw[<-f.length];exact PV c,h _ _ _ j.1 j.2 (by rw[Ja])⟩
    ·rw[ya c]at h;exact h.elim
  |_::_::_=>exact h.elim
 |_=>exact h.elim
end
inductive BT where
 |int|bool|str|tuple|list|dict
noncomputable def BT.nm:BT->String
 | .int=>"int" | .bool=>"bool" | .str=>"str" | .tuple=>"tuple" | .list=>"list" | .dict=>"dict"
noncomputable def BE(a:Ga)(c:BT):D->Option Bool
 | Ϛ=>SY ŝ
 | ϓ _=>SY (match c with | .int=>U2 | .bool=>U2|_=>ŝ)
 | Z _=>SY (match c with | .int=>U2|_=>ŝ)
 | ϐ _=>SY (match c with | .str=>U2|_=>ŝ)
 | ϒ _=>SY (match c with | .tuple=>U2|_=>ŝ)
 | .Vi _=>ń
 | ύ _=>SY (match c with | .list=>U2|_=>ŝ)
 | Ϭ _ _=>SY (match c with | .dict=>U2|_=>ŝ)
 | ϵ _ _ _=>ń
 | .Bv _=>ń
 | .gt _=>ń
 | Y n=>match a[n]? with
  |some (ώ _)=>SY (match c with | .list=>U2|_=>ŝ)
  |some (Ϗ _)=>SY (match c with | .dict=>U2|_=>ŝ)
  |_=>ń
def Ut(c:BT)(x:D):M D:=λa=>match BE a c x with
 |some b=>U (ϓ b) a
 |none=>ϗ
def dU(K:ϖ)(H:Hp)(x:V)(t:Value):Prop:=Pl K H x t\/∃ a b,x=ϙ a/\Rd H a (ϝ b)/\t=Wh "dict"
def Q0(K:ϖ)(c:String):h8->Hp->VK->Prop:=λxs H Q=>∃ x t b,xs=[x,.ty c]/\dU K H x t/\Ϫ K t (Wh c)=SY b/\Q (Ϩ b) H
def LY c:zo X (Ϟ "isinstance")$ Q0 X.K c:=by
 rintro d s st H xs n Q I r ⟨x,t,b,rfl,ty,e,q⟩;obtain⟨u,u2,rfl,f,rfl⟩:=RS r;rcases ty with ty|⟨a,i,rfl,j,rfl⟩
 ·exact fQ I f ty e λk=>⟨Ϩ b,H,I.tok _,rfl,q⟩
 ·cases (f);obtain⟨_,_,v,_,p⟩:=(j.ok I.Kc)
  obtain⟨o,m,l,g,h,_⟩:=p;exact gf BX I.Li ⟨o,g,h.1⟩ e (λz=>nomatch z) λk=>⟨Ϩ b,H,I.tok _,rfl,q⟩
def Ž(r:gd T m H j)(p:Ja T m H x v)(h:BE j c x=SY b):∃ t,dU X.K H v t/\Ϫ X.K t (Wh c.nm)=SY b:=by
 cases x with
 |Nb=>rw[Ja]at p;subst p;refine⟨_,ϑ$ .Nb,?_⟩;cases c<;>cases h<;>rfl
 |bl i=>rw[Ja]at p;subst p;refine⟨_,ϑ$ .bl i,?_⟩;cases c<;>cases h<;>rfl
 |int i=>rw[Ja]at p;subst p;refine⟨_,ϑ$ .int i,?_⟩;cases c<;>cases h<;>rfl
 |str i=>rw[Ja]at p;subst p;refine⟨_,ϑ$ .str i,?_⟩;cases c<;>cases h<;>rfl
 |nb ds=>rw[Ja]at p;obtain⟨q,f,rfl,d,_⟩:=p;refine⟨_,ϑ$ .nb d,?_⟩;cases c<;>cases h<;>rfl
 |Vi ns=>cases h
 |ia ds=>rw[Ja]at p;obtain⟨q,f,rfl,_,d,_⟩:=p;refine⟨_,ϑ$ .ia d,?_⟩;cases c<;>cases h<;>rfl
 |Pa ks ds=>rw[Ja]at p;obtain⟨q,f,rfl,_,d,_⟩:=p;refine⟨_,ϕ ⟨q,_,rfl,d,rfl⟩,?_⟩;cases c<;>cases h<;>rfl
 |obj k ks ds=>cases h
 |Bv k=>cases h
 |gt ss=>cases h
 |ref n=>
  unfold BE at h;dsimp only at h;cases e:j[n]? with
  |none=>rw[e]at h;cases h
  |some o=>
   rw[e]at h;obtain⟨a,rfl,_,l⟩:=r.at p e;cases o with
   |ia xs=>obtain⟨f,g,_⟩:=l;refine⟨_,ϑ$ .ia g,?_⟩;cases c<;>cases h<;>rfl
   |Pa xs=>obtain⟨f,g,_⟩:=l;refine⟨_,ϑ$ .dK g,?_⟩;cases c<;>cases h<;>rfl
   |Eb k s=>cases h
   |vc xs=>cases h
def iD c(C:FE T X e f)(E:Gl X "isinstance")(F:X.mg "isinstance" = ń)(m:Gl X a)(n:X.mg a=ń)(r:bootBuiltins a=SY (Wh c.nm))(o: ~~~(a ≠ "__name__"))(l: ~~~((a == ("__debug__" : Str))=ŝ))
  (w:(qa [e,ϛ a j] X.env=(ŝ,Mb e X.env)::qa [ϛ a j] X.env)⁻¹) (q:((Zb g$ qa [ϛ a j] X.env).any (·.1)=ŝ)⁻¹) :
  FE T X (ϟ (ϛ "isinstance" p) [e,ϛ a j] [] g)$ be (Ut c) f:=by
 intro d s st H Q I h;refine JF (LY c.nm) E F tJ (jq C (jq (ŝz m n r (v:=.ty c.nm) rfl o l) ou) w) ⋯ ⋯ w q d s st H Q I ?_;obtain⟨L,ρ,O,B,J,G⟩:=h;refine⟨L,ρ,O,B,J,G.bind λx u N v P D R y K i=>?_⟩;unfold Ut at i;cases k:BE u c x with
 |none=>rw[k]at i;exact i.elim
 |some b=>
  rw[k]at i;obtain⟨t,z,A⟩:=Ž y K k;exact⟨v,t,b,rfl,z,A,Vb.here i y (by rw[Ja])⟩
noncomputable def Xh:Ev->M Fl:=λa=>ret$ Ϙ a
noncomputable def uE(h:Ev->M Fl):Fl->M Fl
 | Ϙ a=>h a
 | .rt d=>ret (.rt d)
 | .bk a=>ret (.bk a)
 | .ct a=>ret (.ct a)
 | .xc a x=>ret (.xc a x)
def Sb(g h:Ev->M Fl):Ev->M Fl:=λρ=>Ic (g ρ)$ uE h
noncomputable def pN:D->M Fl:=λd=>ret$ .rt d
def Di(f:Ev->M D):Ev->M Fl:=λa=>xs a (f a) pN
noncomputable def xL(a:Ev):D->M Fl:=λb=>ret$ Ϙ a
def Ri(f:Ev->M D):Ev->M Fl:=λa=>xs a (f a)$ xL a
noncomputable def Vt(i:Nat)(a:Ev):D->M Fl:=λd=>ret$ Ϙ$ a.set i$ SY d
def de(i:Nat)(f:Ev->M D):Ev->M Fl:=λa=>xs a (f a)$ Vt i a
noncomputable def jh(t:Ev->M Bool)(a b:Ev->M Fl):Ev->M Fl:=λc=>xs c (t c)$ kj (a c)$ b c
section
variable{st':Stmt}{rest:List Stmt}{g h:Ev->M Fl}{e:Na}{f:Ev->M D}{pos:Vd}
def Oz:Ul T X [] Xh:=by
 rintro a s b H D I ⟨f,ρ,h,c,e,d⟩;exact US a s b H D I$ Vb.here (g:=ϸ b) d e c
def q0{g}{h}{e}{D}(r:gd T g H h)(q:aq T g H e b)(k:Fl->M Fl)
  (i:∀ a,e=Ϙ a->∀ st,b=ϸ st->Gh T g H a st->N st H) (f:(∀ a,e≠ Ϙ a)->Vb T EN (aq T) g H (U e h) (iq X D)):iq X { D with nx:=N } b H:=by
 cases e with
 |nx a=>cases b with
  |nx st=>exact i a rfl st rfl q
  |_=>exact q.elim
 |rt d=>cases b with
  |rt v=>have z:=Vb.here (f λj z=>by cases z) r q;exact z
  |_=>exact q.elim
 |bk a=>cases b with
  |bk v=>have z:=Vb.here (f λj z=>by cases z) r q;exact z
  |_=>exact q.elim
 |ct a=>cases b with
  |ct v=>have z:=Vb.here (f λj z=>by cases z) r q;exact z
  |_=>exact q.elim
 |xc a x=>cases b with
  |xc v c fd=>have z:=Vb.here (f λj z=>by cases z) r q;exact z
  |_=>exact q.elim
def pe(k:FS T X st' g)(l:Ul T X rest h):Ul T X (st'::rest)$ Sb g h:=by
 intro a s t H D I q;refine kW k l a s t H D I ?_;obtain⟨v,ρ,w,m,p,o⟩:=q;refine⟨v,ρ,w,m,p,o.bind λj d c A x B y f r e=>(q0 f r (λB=>Ib) (λb i u z n=>?_)$ λB=>?_)⟩
 ·subst i;exact⟨c,b,d,n,f,e⟩
 ·cases j with
  |nx b=>simp_all
  |_=>exact e
def Qi(a:FS T X st' g):Ul T X [st'] g:=V3 a
def Dr(c:FE T X e f):FS T X (.Return (SY e) pos)$ Di f:=by
 intro a s n H D I j;refine N9 c a s n H D I ?_;obtain⟨o,ρ,q,b,i,h⟩:=j;exact⟨o,ρ,q,b,i,h.xs b λd r p v t d u m l k=>Vb.here (g:=Mp.rt v) k m l⟩
def Qv(i:FE T X e f)(l:(Ig e ń pos.line X.env=pure ŝ)⁻¹):FS T X (.Expr e pos)$ Ri f:=by
 intro a s c H D I m;refine ó i l a s c H D I ?_;obtain⟨p,ρ,r,b,k,j⟩:=m;exact⟨p,ρ,r,b,k,j.xs b λd t q v u d h o w n=>Vb.here (g:=ϸ c) n o$ b.mono h⟩
def MH(j:X.N.Nodup)(m:X.N[i]?=SY x)(r:Loc X.env.scope x)(k:FE T X e f)(p:(Ig e (SY$ ϛ x a) pos.line X.env=pure ŝ)⁻¹)(l:X.fn x=U2\/X.env.scope.names.lookup x=SY .local:=by first|exact .inl rfl|exact .inr rfl|assumption) :
  FS T X (Ϻ [ϛ x a] e pos)$ de i f:=by
 intro b s st H D I q;refine Ġ j m r k p l b s st H D I ?_;obtain⟨y,ρ,A,c,o,n⟩:=q;exact⟨y,ρ,A,c,o,n.xs c λd B z v C d h w u t=>Vb.here (g:=ϸ _) t w$ (c.mono h).set i u⟩
def Zv(p:FT T X c m)(n:Ul T X a j)(o:Ul T X b k):FS T X (.If c a b pos)$ jh m j k:=by
 intro e s w H D I t;refine jX p n o e s w H D I ?_;obtain⟨x,ρ,y,h,r,q⟩:=t;refine⟨x,ρ,y,h,r,q.xs h λc g f v z A i l u d=>?_⟩;cases u;cases c with
 |true=>unfold kj at d;rw[na rfl]at d ⊢;exact⟨f,ρ,g,h.mono i,l,d⟩
 |false=>unfold kj at d;rw[ya qb]at d ⊢;exact⟨f,ρ,g,h.mono i,l,d⟩
noncomputable def gD(T:Tb)(e:D->Ev->Option Ev):TG:=λv c H Q=>∃ b f ρ d a,Gh T b H ρ c/\gd T b H f/\Ja T b H d v/\e d ρ=SY a/\∀ st',Gh T b H a st'->Q st' H
noncomputable def F4(T:Tb)(f:i'->Ev->Option Ev):fy:=λg e H Q=>∃ b h d c a,Gh T b H d e/\gd T b H h/\Db T b H c g/\f c d=SY a/\∀ st',Gh T b H a st'->Q st' H
abbrev FG(T:Tb)(X:Cx)(t:Na)(a:D->Ev->Option Ev):Prop:=PG X t$ gD T a
abbrev bB(T:Tb)(X:Cx)(b:List Na)(a:i'->Ev->Option Ev):Prop:=yE X b$ F4 T a
noncomputable def jc(i:Nat):D->Ev->Option Ev:=λd a=>SY$ a.set i$ SY d
noncomputable def cm:i'->Ev->Option Ev
 |[],a=>SY a
 |_::_,_=>ń
noncomputable def Vf(t:D->Ev->Option Ev)(u:i'->Ev->Option Ev):i'->Ev->Option Ev
 |[],_=>ń
 |d::ds,b=>(t d b).bind λa=>u ds a
noncomputable def rl(n:Nat)(t:i'->Ev->Option Ev):D->Ev->Option Ev
 | ϒ ds,a=>if ds.length=n then t ds a else ń
 |_,_=>ń
def Â(c:X.N.Nodup)(g:X.N[i]?=SY x)(k:Loc X.env.scope x)(f:X.fn x=U2\/X.env.scope.names.lookup x=SY .local:=by first|exact .inl rfl|exact .inr rfl|assumption):FG T X (ϛ x pos)$ jc i:=by
 rintro a s st H v u Q I r ⟨n,o,ρ,d,l,b,m,e,j,h⟩;cases j;exact Θ c g k f a s st H v u Q I r$ h _$ b.set i e
def ĳ:bB T X [] cm:=by
 rintro a s h H l i Q I r ⟨m,n,ρ,b,j,f,k,c,e,g⟩;cases b with
 |nil=>cases e;rw[Db]at c;subst c;exact N0 a s h H [] i Q I r ⟨rfl,g _ f⟩
 |cons d b=>cases e
def W3(q:FG T X e t)(x:bB T X c u)
  (B:((Yd (e::c) X.env).map (·.2)=xk e X.env::(Yd c X.env).map (·.2))⁻¹):bB T X (e::c)$ Vf t u:=by
 rintro a s st H F E Q I r ⟨m,n,ρ,f,j,y,k,z,l,A⟩;cases f with
 |nil=>cases l
 |cons d f=>
  obtain⟨v,w,rfl,h,i⟩:=z;obtain⟨b,o,p⟩:=rf.mp l;exact sZ q x B a s st H _ E Q I r ⟨v,w,rfl,m,n,ρ,d,b,y,k,h,o,λC g=>⟨m,n,b,f,j,g,k,i,p,A⟩⟩
def DL(m:X.Lb=U2)(h:bB T X c t)
  (q:((Yd c X.env).length=n)⁻¹) (e:((Yd c X.env).findIdx? (·.1)=ń)⁻¹):FG T X (ϰ c k pos)$ rl n t:=by
 rintro b s st H v u Q I r ⟨z,A,ρ,d,f,l,x,o,a,w⟩;cases d with
 |nb ds=>
  obtain⟨p,y,rfl,j,g⟩:=o;unfold rl at a;dsimp only at a;by_cases i:ds.length=n
  ·rw[na i]at a;exact Λ m h q e b s st H _ u Q I r ⟨p,y,rfl,Kg.of j,by rw[<-g.length];exact i,z,A,ρ,ds,f,l,x,g,a,w⟩
  simp_all
 |_=>cases a
noncomputable def sI(b:D->Ev->Option Ev)(c:Ev)(d:D):M Fl:=match b d c with
 |some a=>ret (Ϙ a)
 |none=>Ib
def lM(f:Ev->M D)(b:D->Ev->Option Ev):Ev->M Fl:=λa=>xs a (f a)$ sI b a
def T4(r:FE T X e f)(u:FG T X a t)(z:(lm [a] e pos.line X.env=pure ŝ)⁻¹)(A:(om [a] e X.env=pure ń)⁻¹)
  (q:((Yd [a] X.env).map (·.2)=[xk a X.env])⁻¹):FS T X (Ϻ [a] e pos)$ lM f t:=by
 intro c s st H D I x;refine pM r u z A q c s st H D I ?_;obtain⟨C,ρ,E,h,y,w⟩:=x;refine⟨C,ρ,E,h,y,w.xs h λd n l v F G p o B b=>?_⟩;unfold sI at b;cases j:t d ρ with
 |none=>simp[j]at b;exact b.elim
 |some m=>simp[j]at b;exact⟨l,n,ρ,d,m,h.mono p,o,B,j,λk i=>Vb.here (g:=ϸ k) b o i⟩
def iA(x i d:D):M Unit:=λa=>match x,i with
 | Y n,Z k=>(match Ce a n with
  |some xs=>(match Yp xs.length k with
   |some j=>U () (a.set n$ ώ$ xs.set j d)
   |none=>ϗ)
  |none=>ϗ)
 |_,_=>ϗ
def Xv(b:Ev)(d x i:D):M Fl:=λc=>match iA x i d c with
 | U _ a=>U (Ϙ b) a
 |_=>ϗ
def cN(a:Ev)(b:Ev->M D)(d x:D):M Fl:=xs a (b a)$ Xv a d x
def JL(a:Ev)(c b:Ev->M D)(d:D):M Fl:=xs a (c a)$ cN a b d
def Vv(f c b:Ev->M D):Ev->M Fl:=λa=>xs a (f a)$ JL a c b
def Ź{K fi}(R:FE T X e f)(ό:FE T X o K)(S:FE T X i fi)
  (Q:∀ v,xk (ϣ o i b) X.env v=(do
   let r <-Be [v] (Mb o X.env);let y <-Be [v,r] (Mb i X.env)
   wh b
   Be [v,r,y] (bv r y v)
   release [v,r,y] []):=by intro _;rfl)
  (ϊ:(lm [ϣ o i b] e pos.line X.env=pure ŝ)⁻¹) (hw:(om [ϣ o i b] e X.env=pure ń)⁻¹)
  (q:((Yd [ϣ o i b] X.env).map (·.2)=[xk (ϣ o i b) X.env])⁻¹):FS T X (Ϻ [ϣ o i b] e pos)$ Vv f K fi:=by
 intro l s st H D I W;refine pM R (DV ό S C3 Q) ϊ hw q l s st H D I ?_;obtain⟨μ,ρ,σ,g,ϋ,V⟩:=W;refine⟨μ,ρ,σ,g,ϋ,V.xs g λd E B v H1 d h r1 q1 p1=>⟨B,ρ,E,g.mono h,r1,p1.xs (g.mono h) λx F C vo H2 d p r2 q2 p2=>⟨C,ρ,F,(g.mono h).mono p,r2,p2.xs ((g.mono h).mono p) λk G m vi J d t O q3 c=>?_⟩⟩⟩;have hx:=Ja.mono t _ _ q2;unfold Xv iA at c;cases x with
 |ref n=>
  cases k with
  |int k=>
   dsimp only at c;cases w:Ce G n with
   |none=>rw[w]at c;exact c.elim
   |some xs=>
    rw[w]at c;dsimp only at c;cases u:Yp xs.length k with
    |none=>rw[u]at c;exact c.elim
    |some j=>
     rw[u]at c;obtain⟨a,P,rfl,N,q,L⟩:=O.ia hx w;have A:=O.write (ob:=ώ _) N ⟨_,ng,by
      have ex:Tc m J m$ Fb J a$ ϯ$ P.set j v:=qu (ua N) q (λd z=>by cases z) (λd d z=>by cases z);exact Db.set (Ja.mono ex _ _$ Ja.mono t _ _$ Ja.mono p _ _ q1) j$ Db.mono ex _ _ L⟩
     exact⟨a,P,k,j,rfl,tq q3,q,by rw[<-L.length];exact u,c _ (ϸ st) _ A.1 A.2$ ((g.mono h).mono p).mono t |>.mono A.1⟩
  |_=>exact c.elim
 |_=>exact c.elim
end
set_option genInjectivity false in
inductive Qg where
 |seq (ds:i')
 |Ml (n:Nat)
def Qg.nx:Qg->Nat->Ga->Option (Option D)
 | .seq ds,i,_=>SY ds[i]?
 | .Ml n,i,σ=>(Ce σ n).map λxs=>xs[i]?
def NH(T:Tb)(c:b')(g:Hp)(a:Qg)(J:It):Prop:=∀ b H f i,Tc c g b H->gd T b H f->match a.nx i f with
 |none=>True
 |some ń=>J.stop i H
 |some (SY d)=>J.go i H/\∀ x e,J.LB i H x e->e=H/\Ja T b H d x
def tI(T:Tb)(X:Cx)(f:Ev->M Qg):TI:=λa H R=>zB T a H λb c d=>Vb T (XE X a) (NH T) b H (f c d) R
abbrev FI(T:Tb)(X:Cx)(b a:Na)(f:Ev->M Qg):Prop:=PI X b a$ tI T X f
noncomputable def Vz(n:Nat):i':=(List.range n).map λ(i:Nat)=>Z (i:Int)
noncomputable def Zs(a:Int)(n:Nat):i':=(List.range n).map λ(i:Nat)=>Z$ a+(i:Int)
def mx(d:D):M Qg:=λa=>match d with
 | ϒ ds=>U (.seq ds) a
 | ύ ds=>U (.seq ds) a
 | .Vi ns=>U (.seq$ ns.map Z) a
 | Y n=>(match Ce a n with
  |some _=>U (.Ml n) a
  |none=>ϗ)
 |_=>ϗ
def kg(f:Ev->M D):Ev->M Qg:=λa=>Ic (f a) mx
def zu(j:Int):Bool:=ae$ decide (-(2 ^ 62)<=j) && decide (j<2 ^ 62)
def ot(d:D):M Qg:=λa=>match d with
 | Z j=>if zu j=U2 then U (.seq$ Vz j.toNat) a else ϗ
 |_=>ϗ
def io(f:Ev->M D):Ev->M Qg:=λa=>Ic (f a) ot
def cE(a b:D):M Qg:=λc=>match a,b with
 | Z i,Z j=>if (zu i && zu j)=U2 then U (.seq$ Zs i (j - i).toNat) c else ϗ
 |_,_=>ϗ
def uO(m:M D)(a:D):M Qg:=Ic m$ cE a
def oD(f g:Ev->M D):Ev->M Qg:=λρ=>Ic (f ρ)$ uO$ g ρ
section
variable{tg iter:Na}{f:Ev->M D}
def v5(K:ϖ)(c:TE):TI:=λd H R=>c d H λx b=>∃ a,x=ϙ a/\(((∃ xs,Me K b a xs)/\R (oO K a) b)\/((∃ xs,Kg K b a xs)/\R (vM K a) b))
def ú(m:PE X l k):PI X tg l$ v5 X.K k:=by
 intro d s u H R I h;refine pd (m d s u H _ I h) λv s1 ſ=>?_;obtain⟨x,H1,c,r,j⟩:=ſ;obtain⟨a,rfl,j⟩:=j;cases r;rcases j with⟨⟨xs,g⟩,q⟩|⟨⟨xs,g⟩,q⟩
 ·obtain⟨i,t,p,n⟩:=c.list g;refine Zh p.isList ⟨s1.heap.objs.size,[s1.heap.objs.size],_,_,H1,rfl,c.kept λb o e=>da _ e,iZ a _,⟨_,Ea _ rfl,rfl,rfl⟩,λb f=>?_,q⟩;have e:b=s1.heap.objs.size:=by simpa using f
  subst e;exact c.Yn (wa _)$ c.Kc.fresh$ wa _
 ·obtain⟨i,t,p,n⟩:=c.tuple g;refine DA (p) ⟨s1.heap.objs.size,[s1.heap.objs.size],_,_,H1,rfl,c.kept λb o e=>da _ e,È a _,⟨_,Ea _ rfl,rfl,rfl⟩,λb f=>?_,q⟩;have e:b=s1.heap.objs.size:=by simpa using f
  subst e;exact c.Yn (wa _)$ c.Kc.fresh$ wa _
def kR{K}(h:∀ b c,Tc g k b c->∃ f,Me K c a f/\Db T b c ds f):NH T g k (.seq ds)$ oO K a:=by
 intro b c o i ex q;obtain⟨f,l,m⟩:=h b c ex;show match SY ds[i]? with|none=>True|some ń=>_|some (SY d)=>_
 cases e:ds[i]? with
 |none=>exact⟨f,l,by rw[<-m.length];exact ub.mp e⟩
 |some d=>
  obtain⟨v,j,n⟩:=m.get e;refine⟨⟨f,v,l,j⟩,λx p y=>?_⟩;obtain⟨rfl,y⟩:=y
  simp_all
def Z1{K}(h:∀ b c,Tc g k b c->∃ f,Kg K c a f/\Db T b c ds f):NH T g k (.seq ds)$ vM K a:=by
 intro b c o i ex q;obtain⟨f,l,m⟩:=h b c ex;show match SY ds[i]? with|none=>True|some ń=>_|some (SY d)=>_
 cases e:ds[i]? with
 |none=>exact⟨f,l,by rw[<-m.length];exact ub.mp e⟩
 |some d=>
  obtain⟨v,j,n⟩:=m.get e;refine⟨⟨f,v,l,j⟩,λx p y=>?_⟩;obtain⟨rfl,y⟩:=y
  simp_all
def SJ(L:T.K=X.K)(h:FE T X iter f):FI T X tg iter$ kg f:=by
 intro r s st H R I Q;refine ú h r s st H R I ?_;obtain⟨ό,ρ,V,J,O,N⟩:=Q;refine⟨ό,ρ,V,J,O,N.bind λd B A v D x ϋ u t j=>?_⟩;cases d with
 |nb ds=>
  obtain⟨p,l,rfl,g,m⟩:=t;exact⟨p,rfl,ϕ ⟨⟨l,Kg.of g⟩,Vb.here j u (Z1 λb c ex=>⟨l,Kg.of$ ex.nb _ _ g,Db.mono ex _ _ m⟩)⟩⟩
 |ia ds=>
  obtain⟨p,l,rfl,M,g,m⟩:=t;exact⟨p,rfl,ϑ ⟨⟨l,Me.of g⟩,Vb.here j u (kR λb c ex=>⟨l,Me.of (ex.Oh _ _ g M).1,Db.mono ex _ _ m⟩)⟩⟩
 |Vi ns=>
  obtain⟨p,rfl,g⟩:=t;have q:∀ b c,Tc A D b c->Me X.K c p _:=λb c ex=>by
   have m:Ja T b c (.Vi ns) _:=Ja.mono ex _ _ (by rw[Ja];exact⟨p,rfl,g⟩);obtain⟨ϊ,E,o⟩:=m;cases E;rw[<-L];exact o.seq
  exact⟨p,rfl,ϑ ⟨⟨_,q _ _$ Ϯ _ _⟩,Vb.here j u (kR λb c ex=>⟨_,q b c ex,DD ns⟩)⟩⟩
 |ref n=>
  unfold mx at j;dsimp only at j;cases k:Ce B n with
  |none=>rw[k]at j;exact j.elim
  |some xs=>
   rw[k]at j;obtain⟨a,l,rfl,_,g,m⟩:=u.ia t k;refine⟨a,rfl,ϑ ⟨⟨l,Me.of g⟩,Vb.here j u λb c w i ex S=>?_⟩⟩;show match (Ce w n).map (λxs=>xs[i]?)with|none=>True|some ń=>_|some (SY d)=>_
   cases G:Ce w n with
   |none=>trivial
   |some ys=>
    apply b_;intro z_;obtain⟨a',ws,F,_,o,C⟩:=S.ia (Ja.mono ex _ _ t) G;cases F;apply z_;show match SY (ys[i]?)with|none=>True|some ń=>_|some (SY d)=>_
    cases e:ys[i]? with
    |none=>exact⟨ws,Me.of o,by rw[<-C.length];exact ub.mp e⟩
    |some d=>
     obtain⟨v,z,P⟩:=C.get e;refine⟨⟨ws,v,Me.of o,z⟩,λx W y=>?_⟩;obtain⟨rfl,y⟩:=y;have:=y ws$ Me.of o
     simp_all
 |_=>trivial
def vY(h:i<n):(Vz n)[i]?=SY (Z i):=by simp[Vz,h]
def à n:(Vz n).length=n:=by simp[Vz]
def ς(h:i<n):(Zs a n)[i]?=SY (Z$ a+i):=by simp[Zs,h]
def U0 a n:(Zs a n).length=n:=by simp[Zs]
def t6(h:Gl X "range")(o:X.mg "range" = ń)(n:FE T X a f)(e:(qa [a] X.env=[(ŝ,Mb a X.env)])⁻¹):FI T X tg (ϟ (ϛ "range" p) [a] [] l)$ io f:=by
 intro g s st H R I t;refine Ĵ h o (jq n ou e) e g s st H R I ?_;obtain⟨z,ρ,C,m,r,q⟩:=t;refine⟨z,ρ,C,m,r,q.bind λd D A v G x K w u b=>?_⟩;cases d with
 |int j=>
  subst u;unfold ot at b;dsimp only at b;by_cases c:zu j=U2
  ·rw[na c]at b;simp[zu]at c;refine⟨j,rfl,c.1,c.2,Vb.here b w λB J E i ex L=>?_⟩;show match SY (Vz j.toNat)[i]? with|none=>True|some ń=>_|some (SY d)=>_
   by_cases k:i<j.toNat
   ·rw[vY k];refine⟨k,λx F y=>?_⟩;obtain⟨rfl,rfl⟩:=y;exact⟨rfl,by rw[Ja,Int.zero_add]⟩
   ·rw[ub.mpr (by rw[à];lia)];exact Tu.mp k
  ·rw[ya c]at b;exact b.elim
 |_=>exact b.elim
def D8(m:Gl X "range")(C:X.mg "range" = ń)(A:FE T X a f)(B:FE T X b g)(o:(qa [a,b] X.env=[(ŝ,Mb a X.env),(ŝ,Mb b X.env)])⁻¹)(c:(qa [b] X.env=[(ŝ,Mb b X.env)])⁻¹) :
  FI T X tg (ϟ (ϛ "range" p) [a,b] [] q)$ oD f g:=by
 intro l s st H R I G;refine Ō m C (jq A (jq B ou c)$ by grind) o c l s st H R I ?_;obtain⟨P,ρ,ό,u,F,E⟩:=G;refine⟨P,ρ,ό,u,F,E.bind λd t r v ϊ x z N K J=>⟨r,ρ,t,u.mono z,N,J.bind λw V Q v2 H2 x e2 O L e=>?_⟩⟩;cases d with
 |int i=>
  cases w with
  |int j=>
   subst K;subst L;unfold cE at e;dsimp only at e;by_cases h:(zu i && zu j)=U2
   ·rw[na h]at e;simp[zu,zp]at h;refine⟨i,j,rfl,⟨h.1.1,h.1.2,h.2.1,h.2.2⟩,Vb.here e O λS H3 W k ex r3=>?_⟩;show match SY (Zs i (j - i).toNat)[k]? with|none=>True|some ń=>_|some (SY d)=>_
    by_cases n:k<(j - i).toNat
    ·rw[ς n];refine⟨n,λx ϋ y=>?_⟩;obtain⟨rfl,rfl⟩:=y;exact⟨rfl,by rw[Ja]⟩
    ·rw[ub.mpr (by rw[U0];lia)];exact Tu.mp n
   ·rw[ya h]at e;exact e.elim
  |_=>exact e.elim
 |_=>exact e.elim
end
noncomputable def fx(k:Ev->M Fl):Fl->M Fl
 | Ϙ a=>k a
 | .ct a=>k a
 | .bk a=>ret (Ϙ a)
 | .rt d=>ret (.rt d)
 | .xc b x=>ret (.xc b x)
def ek(e:D->Ev->Option Ev)(a:Ev->M Fl):i'->Ev->M Fl
 |[],b=>ret (Ϙ b)
 |d::ds,b=>match e d b with
  |none=>Ib
  |some c=>Ic (a c) (fx$ ek e a ds)
def Ar(e:D->Ev->Option Ev)(a:Ev->M Fl)(n:Nat):Nat->Nat->Ev->M Fl
 |0,_,_=>Ib
 |k+1,i,f=>λc=>match Ce c n with
  |none=>ϗ
  |some xs=>match xs[i]? with
   |none=>U (Ϙ f) c
   |some d=>match e d f with
    |none=>ϗ
    |some b=>Ic (a b) (fx$ Ar e a n k$ i+1) c
def UE(b:D->Ev->Option Ev)(a:Ev->M Fl)(c:Ev):Qg->M Fl
 | .seq ds=>ek b a ds c
 | .Ml n=>Ar b a n 1001 0 c
def Fk(b:Ev->M Qg)(d:D->Ev->Option Ev)(a:Ev->M Fl):Ev->M Fl:=λc=>xs c (b c)$ UE d a c
section
def XJ{D}(l:gd T d e g)(h:aq T d e j f)(i:Vb T EN (aq T) d e (fx k j g)$ iq X D)
  (m:∀ b a,Gh T d e b a->Vb T EN (aq T) d e (k b g) (iq X D)->N a e):iq X { D with nx:=N,ct:=N,bk:=D.nx } f e:=by
 cases j with
 |nx b=>cases f with
  |nx a=>exact m b a h i
  |_=>trivial
 |ct b=>cases f with
  |ct a=>exact m b a h i
  |_=>trivial
 |bk b=>cases f with
  |bk a=>have z:iq X D (ϸ a) e:=Vb.here i l h;exact z
  |_=>exact h.elim
 |rt o=>cases f with
  |rt v2=>have z:=Vb.here i l h;exact z
  |_=>trivial
 |xc b x=>cases f with
  |xc a c n=>have z:=Vb.here i l h;exact z
  |_=>trivial
variable{tgt iter:Na}{body:List Stmt}{src:Ev->M Qg}{t:D->Ev->Option Ev}{g:Ev->M Fl}{pos:Vd}
def Ny(S:Eo (model X.prog X.w) X.A X.env X.xe)(hc:X.Lb=U2)(hi:FI T X tgt iter src)(hg:FG T X tgt t)(hb:Ul T X body g)
  (hs:∀ x,je iter X.env x=pure x:=by intro _;rfl):FS T X (.For tgt iter body [] pos)$ Fk src t g:=by
 intro O s st H D I hq;refine nP S hc hi hg hb hs O s st H D I ?_;obtain⟨e,ρ,p,Q,hr,S⟩:=hq;refine⟨e,ρ,p,Q,hr,S.xs Q λsrc σ1 j J M U ϊ r1 q1 p1=>?_⟩;cases src with
 |seq ds=>
  have F:Vb T EN (aq T) j M (ek t g ds ρ σ1) _:=p1;refine⟨λi m l b=>m=ds.length - i/\∃ e ρ p,Tc j M e b/\Gh T e b ρ l/\gd T e b p/\Vb T EN _ e b (ek t g (ds.drop i) ρ p) _,⟨ds.length,by simp,j,ρ,σ1,Ϯ _ _,Q.mono ϊ,r1,by simpa using F⟩,?_⟩;rintro i m l b ⟨rfl,f,r,σ2,ex,q,v,c⟩;have a:match (SY ds[i]?)with|none=>True|some ń=>J.stop i b|some (SY d)=>J.go i b/\∀ x N,J.LB i b x N->N=b/\Ja T f b d x:=(q1 f b σ2 i ex v)
  cases z:ds[i]? with
  |none=>
   rw[z]at a;rw[fq$ ub.mp z]at c;exact ϑ ⟨a,Vb.here (g:=ϸ l) c v q⟩
  |some d=>
   rw[z]at a;obtain⟨hl,ed⟩:=aa.mp z;have hd:ds.drop i=d::ds.drop (i+1):=by rw[<-ed];exact(kh hl)
   rw[hd]at c;unfold ek at c;refine ϕ ⟨a.1,λo k=>∃ e ρ p,Tc j M e k/\Gh T e k ρ o/\gd T e k p/\Vb T EN (aq T) e k _ _,λo k h=>⟨ds.length - (i+1),by omega,rfl,h⟩,λx k y=>?_⟩;obtain⟨rfl,ό⟩:=a.2 x k y;cases E:t d r with
   |none=>rw[E]at c;exact c.elim
   |some u=>
    rw[E]at c;exact⟨f,σ2,r,d,u,q,v,ό,E,λo B=>⟨f,u,σ2,B,v,c.bind λfl L G gl H4 U R P W p4=>XJ P W p4 λK ϋ C V=>⟨G,K,L,ex.trans R,C,P,V⟩⟩⟩
 |Ml n=>
  have F:Vb T EN (aq T) j M (Ar t g n 1001 0 ρ σ1)$ iq X D:=p1;refine⟨λi m l b=>∃ e ρ p,Tc j M e b/\Gh T e b ρ l/\gd T e b p/\Vb T EN (aq T) e b (Ar t g n m i ρ p) (iq X D),⟨1001,j,ρ,σ1,Ϯ _ _,Q.mono ϊ,r1,F⟩,?_⟩;rintro i m l b ⟨f,r,σ2,ex,q,v,c⟩;cases m with
  |zero=>exact c.elim
  |succ m=>
   unfold Ar at c;have a:match ((Ce σ2 n).map λxs=>xs[i]?)with|none=>True|some ń=>J.stop i b|some (SY d)=>J.go i b/\∀ x N,J.LB i b x N->N=b/\Ja T f b d x:=(q1 f b σ2 i ex v)
   cases el:Ce σ2 n with
   |none=>simp only[el]at c;exact c.elim
   |some xs=>
    simp only[el]at c a;cases z:xs[i]? with
    |none=>
     simp only[z,jf]at c a;exact ϑ ⟨a,Vb.here (g:=ϸ l) c v q⟩
    |some d=>
     simp only[z,jf]at c a;refine ϕ ⟨a.1,λo k=>∃ e ρ p,Tc j M e k/\Gh T e k ρ o/\gd T e k p/\Vb T EN (aq T) e k (Ar t g n m (i+1) ρ p) _,λo k h=>⟨m,Qb _,h⟩,λx k y=>?_⟩;obtain⟨rfl,ό⟩:=a.2 x k y;cases E:t d r with
     |none=>simp only[E]at c;exact c.elim
     |some u=>
      simp only[E]at c;exact⟨f,σ2,r,d,u,q,v,ό,E,λo B=>⟨f,u,σ2,B,v,c.bind λfl L G gl H4 U R P W p4=>XJ P W p4 λK ϋ C V=>⟨G,K,L,ex.trans R,C,P,V⟩⟩⟩
end
mutual
noncomputable def cl:D->Bool
 | ϒ xs=>xf xs
 | ύ xs=>xf xs
 | Ϭ _ xs=>xf xs
 | ϵ _ _ xs=>xf xs
 | Y _=>ŝ
 | Ϛ=>U2
 | ϓ _=>U2
 | Z _=>U2
 | ϐ _=>U2
 | .Vi _=>U2
 | .Bv _=>U2
 | .gt _=>U2
noncomputable def xf:i'->Bool
 |[]=>U2
 |d::ds=>cl d && xf ds
end
noncomputable def vm(f:D->Option D):i'->Option (i')
 |[]=>SY []
 |d::ds=>match f d,vm f ds with
  |some x,SY xs=>SY (x::xs)
  |_,_=>ń
def fz(k:Nat)(a:Ga):Nat->D->Option D
 |0,d=>if cl d=U2 then SY d else match d with
  | Y n=>if n<k then SY (Y n)else ń
  |_=>ń
 |m+1,d=>if cl d=U2 then SY d else match d with
  | Y n=>if n<k then SY (Y n)else match a[n]? with
   |some (ώ xs)=>(vm (fz k a m) xs).map ύ
   |some (Ϗ b)=>(vm (fz k a m) (b.map (·.2))).map (Ϭ (b.map (·.1)))
   |some (ϔ c e)=>(vm (fz k a m) (e.map (·.2))).map (ϵ c (e.map (·.1)))
   |some (ϥ _)=>ń
   |none=>ń
  | ϒ xs=>(vm (fz k a m) xs).map ϒ
  | ύ xs=>(vm (fz k a m) xs).map ύ
  | Ϭ ks xs=>(vm (fz k a m) xs).map (Ϭ ks)
  | ϵ c ns xs=>(vm (fz k a m) xs).map (ϵ c ns)
  |_=>ń
open Classical in
def lg(b:Ga):Ck D->Ck D
 | U d a=>if a.take b.length=b then (match fz b.length a 6 d with
  |some c=>U c b
  |none=>ϗ)else ϗ
 | .ex x a=>if a.take b.length=b then .ex x b else ϗ
 | ϗ=>ϗ
def ud(f:M D):M D:=λa=>lg a$ f a
section
variable{T:Tb}{μ μ':b'}{H H':Hp}{σ σ':Ga}
mutual
theorem dO(e:∃ r,μ'=μ++r):∀ (d:D) (v:V),cl d=U2->Ja T μ' H d v->Ja T μ H d v
 | Ϛ,v,_,h=>by simpa [Ja]using h
 | ϓ b,v,_,h=>by simpa [Ja]using h
 | Z i,v,_,h=>by simpa [Ja]using h
 | ϐ x,v,_,h=>by simpa [Ja]using h
 | ϒ ds,v,c,h=>by
  rw[Ja]at h ⊢;obtain⟨p,l,f,g,j⟩:=h;exact⟨p,l,f,g,QD e ds l (by simpa [cl]using c) j⟩
 | .Vi ns,v,_,h=>by rw[Ja]at h ⊢;exact h
 | Y n,v,c,h=>by simp[cl]at c
 | ύ ds,v,c,h=>by
  rw[Ja]at h ⊢;obtain⟨a,l,f,g,j,m⟩:=h;exact⟨a,l,f,λz=>g (by obtain⟨r,rfl⟩:=e;exact Wa _ z),j,QD e ds l (by simpa [cl]using c) m⟩
 | Ϭ ks ds,v,c,h=>by
  rw[Ja]at h ⊢;obtain⟨a,l,f,g,j,o,m⟩:=h;exact⟨a,l,f,λz=>g (by obtain⟨r,rfl⟩:=e;exact Wa _ z),j,o,QD e ds _ (by simpa [cl]using c) m⟩
 | ϵ k ns ds,v,c,h=>by
  rw[Ja]at h ⊢;obtain⟨a,u,l,f,g,j,o,m⟩:=h;exact⟨a,u,l,f,λz=>g (by obtain⟨r,rfl⟩:=e;exact Wa _ z),j,o,QD e ds _ (by simpa [cl]using c) m⟩
 | .Bv k,v,_,h=>by
  rw[Ja]at h ⊢;obtain⟨a,t,f,g,j,m⟩:=h;exact⟨a,t,f,λz=>g (by obtain⟨r,rfl⟩:=e;exact Wa _ z),j,λn q=>let ⟨s,w,y,A⟩:=m n q;⟨s,w,λz=>y (by obtain⟨r,rfl⟩:=e;exact Wa _ z),A⟩⟩
 | .gt ss,v,_,h=>by rw[Ja]at h ⊢;exact h
theorem QD(e:∃ r,μ'=μ++r):∀ (a:i') (b:h8),xf a=U2->Db T μ' H a b->Db T μ H a b
 |[],b,_,h=>by simpa [Db]using h
 |d::a,b,c,h=>by
  rw[Db]at h ⊢;obtain⟨v,r,g,i,j⟩:=h;have f:cl d=U2/\xf a=U2:=by simpa [xf,Da]using c
  exact⟨v,r,g,dO e d v f.1 i,QD e a r f.2 j⟩
end
mutual
theorem Ja.down(e:∃ r,μ'=μ++r):∀ (d:D) (v0 v:V),Ja T μ H d v0->Ja T μ' H' d v->Ja T μ H' d v
 | Ϛ,v0,v,_,h=>by simpa [Ja]using h
 | ϓ b,v0,v,_,h=>by simpa [Ja]using h
 | Z i,v0,v,_,h=>by simpa [Ja]using h
 | ϐ x,v0,v,_,h=>by simpa [Ja]using h
 | ϒ ds,v0,v,c,h=>by
  rw[Ja]at h c ⊢;obtain⟨p,m,g,f,l⟩:=h;obtain⟨G,j,_,_,w⟩:=c;exact⟨p,m,g,f,Db.down e ds j m w l⟩
 | .Vi ns,v0,v,_,h=>by rw[Ja]at h ⊢;exact h
 | Y n,v0,v,c,h=>by
  rw[Ja]at h c ⊢;obtain⟨a,g,f⟩:=h;obtain⟨b,_,u⟩:=c;refine⟨a,g,?_⟩;obtain⟨r,rfl⟩:=e;rw[Ya (aa.mp u).1]at f;exact f
 | ύ ds,v0,v,c,h=>by
  rw[Ja]at h c ⊢;obtain⟨a,m,g,f,l,o⟩:=h;obtain⟨_,j,_,_,_,s⟩:=c;exact⟨a,m,g,λz=>f (by obtain⟨r,rfl⟩:=e;exact Wa _ z),l,Db.down e ds j m s o⟩
 | Ϭ ks ds,v0,v,c,h=>by
  rw[Ja]at h c ⊢;obtain⟨a,m,g,f,l,t,o⟩:=h;obtain⟨_,j,_,_,_,_,s⟩:=c;exact⟨a,m,g,λz=>f (by obtain⟨r,rfl⟩:=e;exact Wa _ z),l,t,Db.down e ds _ _ s o⟩
 | ϵ k ns ds,v0,v,c,h=>by
  rw[Ja]at h c ⊢;obtain⟨a,B,m,g,f,l,t,o⟩:=h;obtain⟨_,_,j,_,_,_,_,s⟩:=c;exact⟨a,B,m,g,λz=>f (by obtain⟨r,rfl⟩:=e;exact Wa _ z),l,t,Db.down e ds _ _ s o⟩
 | .Bv k,v0,v,_,h=>by
  rw[Ja]at h ⊢;obtain⟨a,A,g,f,l,o⟩:=h;exact⟨a,A,g,λz=>f (by obtain⟨r,rfl⟩:=e;exact Wa _ z),l,λn q=>let ⟨y,C,E,F⟩:=o n q;⟨y,C,λz=>E (by obtain⟨r,rfl⟩:=e;exact Wa _ z),F⟩⟩
 | .gt ss,v0,v,_,h=>by rw[Ja]at h ⊢;exact h
theorem Db.down(e:∃ r,μ'=μ++r):∀ (b:i') (a f:h8),Db T μ H b a->Db T μ' H' b f->Db T μ H' b f
 |[],a,f,_,h=>by simpa [Db]using h
 |d::b,a,f,c,h=>by
  rw[Db]at h c ⊢;obtain⟨v,r,j,k,l⟩:=h;obtain⟨n,m,_,g,i⟩:=c;exact⟨v,r,j,Ja.down e d n v g k,Db.down e b m r i l⟩
end
theorem yG{f:Type}(e:∃ r,μ'=μ++r):∀ {xs:List$ f × D} {g h:List$ f × V},Paired (λ(p:f × D) (q:f × V)=>p.1=q.1/\Ja T μ H p.2 q.2) xs h->Paired (λ(p:f × D) (q:f × V)=>p.1=q.1/\Ja T μ' H' p.2 q.2) xs g->Paired (λ(p:f × D) (q:f × V)=>p.1=q.1/\Ja T μ H' p.2 q.2) xs g:=by
 intro _ _ x a b;induction b generalizing x with
 |nil=>exact .nil
 |cons c _ i=>cases a with|cons a b=>exact .cons ⟨c.1,Ja.down e _ _ _ a.2 c.2⟩ (i b)
theorem Tn.down(e:∃ r,μ'=μ++r):∀ {o:Ob},Tn T μ H a o->Tn T μ' H' a o->Tn T μ H' a o
 | ώ ds,⟨_,_,c⟩,⟨b,h,r⟩=>⟨b,h,Db.down e _ _ _ c r⟩
 | Ϗ f,⟨_,_,c⟩,⟨b,h,r⟩=>⟨b,h,yG e c r⟩
 | ϔ c i,⟨_,_,_,d⟩,⟨g,b,h,r⟩=>⟨g,b,h,yG e d r⟩
 | ϥ f,⟨_,_,_,d⟩,⟨ob,b,h,r⟩=>⟨ob,b,h,yG e d r⟩
def gd.down(c:gd T μ H σ)(r:gd T μ' H' σ')(e:Tc μ H μ' H')(q:σ'.take σ.length=σ):gd T μ H' σ/\Tc μ H μ H':=by
 refine⟨⟨c.len,c.nd,λn o h=>?_,r.tb.sub λb l=>by obtain⟨z,rfl⟩:=e.pre;exact Wa _ l⟩,⟨⟨[],by simp⟩,e.nb,e.ud,λp o h n=>⟨(e.keep p o h n).1,n⟩⟩⟩;obtain⟨a,f,i⟩:=c.obs n o h;have g:σ'[n]?=SY o:=by
  have m:=(aa.mp h).1
  rwa [<-q,Qo m]at h
 obtain⟨b,j,k⟩:=r.obs n o g;have d:=e.get f;rw[j]at d;cases d;exact⟨a,f,i.down e.pre k⟩
theorem IM{c:Type}:∀ {xs:List$ c × D} {d:List$ c × V},Paired (λ(p:c × D) (q:c × V)=>p.1=q.1/\Ja T μ H p.2 q.2) xs d->d.map (·.1)=xs.map (·.1)/\Db T μ H (xs.map (·.2)) (d.map (·.2)):=by
 intro _ _ h;induction h with
 |nil=>exact⟨rfl,Db.nil⟩
 |cons a _ i=>exact⟨by simp[i.1,a.1],Db.cons a.2 i.2⟩
theorem YU{f:D->Option D}(j:∀ d e v,f d=SY e->Ja T μ' H d v->Ja T μ H e v):∀ (b a:i') (c:h8),vm f b=SY a->Db T μ' H b c->Db T μ H a c
 |[],a,c,h,r=>by cases h;simpa [Db]using r
 |d::b,a,c,h,r=>by
  unfold vm at h;cases g:f d with
  |none=>simp_all
  |some x=>
   cases i:vm f b with
   |none=>simp_all
   |some xs=>
    rw[g,i]at h;cases h;obtain⟨v,w,rfl,k,l⟩:=r;exact Db.cons (j d x v g k)$ YU j b xs w i l
def vV(e:∃ r,μ'=μ++r)(r:gd T μ' H σ'):∀ m d A v,fz μ.length σ' m d=SY A->Ja T μ' H d v->Ja T μ H A v:=by
 have G:∀ n v,n<μ.length->Ja T μ' H (Y n) v->Ja T μ H (Y n) v:=λn v k h=>by
  obtain⟨a,g,B⟩:=h;obtain⟨q,rfl⟩:=e;rw[Ya k]at B;exact⟨a,g,B⟩
 intro m;induction m with
 |zero=>
  intro d A v h j;unfold fz at h;by_cases w:cl d=U2
  ·rw[na w]at h;cases h;exact dO e _ _ w j
  ·rw[ya w]at h;cases d with
   |ref n=>
    dsimp only at h;by_cases k:n<μ.length
    ·rw[na k]at h;cases h;exact G n v k j
    ·rw[ya k]at h;cases h
   |_=>cases h
 |succ m R=>
  intro d A v h j;unfold fz at h;by_cases w:cl d=U2
  ·rw[na w]at h;cases h;exact dO e _ _ w j
  ·rw[ya w]at h;have u:=YU (λd A v a b=>R d A v a b);cases d with
   |ref n=>
    dsimp only at h;by_cases k:n<μ.length
    ·rw[na k]at h;cases h;exact G n v k j
    ·rw[ya k]at h;cases K:σ'[n]? with
     |none=>rw[K]at h;cases h
     |some o=>
      rw[K]at h;obtain⟨a,rfl,P,x⟩:=r.at j K;have y:a ∉ μ:=λz=>by
       obtain⟨i,O⟩:=pr z;obtain⟨q,rfl⟩:=e;have Q:=(aa.mp O).1;have:=zI r.nd (by rw[Ya Q];exact O) P;omega
      cases o with
      |ia xs=>
       obtain⟨ys,g,rfl⟩:=Ra.mp h;obtain⟨f,E,F⟩:=x;exact⟨a,f,rfl,y,E,u xs ys f g F⟩
      |Pa N=>
       obtain⟨ys,g,rfl⟩:=Ra.mp h;obtain⟨f,E,F⟩:=x;obtain⟨L,M⟩:=IM F;exact⟨a,f,rfl,y,(ϑ E),L,u _ ys _ g M⟩
      |Eb c S=>
       obtain⟨ys,g,B⟩:=Ra.mp h;subst B;obtain⟨I,f,E,F⟩:=x;obtain⟨L,M⟩:=IM F;exact⟨a,I,f,rfl,y,E,L,u _ ys _ g M⟩
      |vc N=>cases h
   |nb xs=>
    obtain⟨ys,g,rfl⟩:=Ra.mp h;obtain⟨p,f,l,s,t⟩:=j;exact⟨p,f,l,s,u xs ys f g t⟩
   |ia xs=>
    obtain⟨ys,g,rfl⟩:=Ra.mp h;obtain⟨p,f,l,C,s,t⟩:=j;exact⟨p,f,l,λz=>C (by obtain⟨r,rfl⟩:=e;exact Wa _ z),s,u xs ys f g t⟩
   |Pa ks xs=>
    obtain⟨ys,g,rfl⟩:=Ra.mp h;obtain⟨p,f,l,C,s,J,t⟩:=j;exact⟨p,f,l,λz=>C (by obtain⟨r,rfl⟩:=e;exact Wa _ z),s,J,u xs ys _ g t⟩
   |obj c ks xs=>
    apply b_;intro z_;obtain⟨ys,g,B⟩:=Ra.mp h;subst B;obtain⟨p,I,f,l,C,s,J,t⟩:=j;apply z_;exact⟨p,I,f,l,λz=>C (by obtain⟨r,rfl⟩:=e;exact Wa _ z),s,J,u xs ys _ g t⟩
   |_=>cases h
def Vb.ud{E}{f}{Q}(r:gd T μ H σ)(h:Vb T E (Ja T) μ H (ud f σ) Q):Vb T E (Ja T) μ H (f σ) Q:=by
 unfold Lake.ud at h;cases e:f σ with
 |Ib=>rw[e]at h;exact h
 |ex x a=>
  rw[e]at h;unfold lg at h;dsimp only at h;by_cases b:a.take σ.length=σ
  ·rw[na b]at h;intro m i c g;obtain⟨l,j⟩:=gd.down r g c b;exact h μ i j l
  ·rw[ya b]at h;exact h.elim
 |ok d a=>
  rw[e]at h;unfold lg at h;dsimp only at h;by_cases b:a.take σ.length=σ
  ·rw[na b]at h;cases k:fz σ.length a 6 d with
   |none=>rw[k]at h;exact h.elim
   |some n=>
    rw[k]at h;intro m v i c g o;obtain⟨l,j⟩:=gd.down r g c b;exact h μ v i j l$ vV c.pre g 6 d n v (by rw[r.len];exact k) o
  ·rw[ya b]at h;exact h.elim
end
def Sh(f:Ev->M D):Ev->M D:=λa=>ud$ f a
def lL(h:FE T X e f):FE T X e$ Sh f:=by
 rintro a s g H Q I ⟨i,ρ,j,c,b,d⟩;exact h a s g H Q I ⟨i,ρ,j,c,b,Vb.ud b d⟩
def DK(h c:Heap):Prop:=∀ (a:Nat) o,h.objs[a]?=SY o->∃ b:Obj,c.objs[a]?=SY b/\b.dict=o.dict
def DK.refl h:DK h h:=λa o e=>⟨o,e,rfl⟩
def DK.trans(x:DK b c)(y:DK c d):DK b d:=λa o e=>by
 obtain⟨h,f,q⟩:=x a o e;obtain⟨i,g,j⟩:=y a h f
 simp_all
def DK.push h o:DK h$ h.push o:=λa u e=>by
 obtain⟨b,l⟩:=h;have e:=e;have c:=(Nc.mp e).1;refine⟨u,?_,rfl⟩;show (b.push o)[a]?=SY u;rw[Array.getElem?_push_lt c];exact(Kb c).symm.trans e
def DK.update h b(i:∀ o,(f o).dict=o.dict):DK h$ h.update b f:=λa u e=>by
 obtain⟨c,l⟩:=h;show ∃ d:Obj,(c.modify b f)[a]?=SY d/\_;rw[Array.getElem?_modify];by_cases g:b=a;all_goals simp_all
def DK.get(x:DK h b)(e:h.get? a=SY o)(d:b.get? a=SY c):c.dict=o.dict:=by
 obtain⟨u,f,g⟩:=x a o ((Uu _ _ _).1 e).1;have:=((Uu _ _ _).1 d).1
 simp_all
structure KD{α:Type}(t:Um α):Prop where
 out:∀ (M:Pi) (Γ:PySem.Ctx) (Q:α->Vd->Shared->Prop) (E:Value->Vd->Shared->Prop) (p:Vd) (s:Shared),Sem.wp M Γ t Q E p s->Sem.wp M Γ t (λa p' s'=>Q a p' s'/\DK s.heap s'.heap) (λe p' s'=>E e p' s'/\DK s.heap s'.heap) p s
namespace KD
variable{α β:Type}
def Nr a:KD (Pure.pure a:Um α):=⟨λb b b b b s h=>⟨h,.refl _⟩⟩
def eu w:KD (PySem.unsupported w:Um α):=⟨λa a a a a a h=>h⟩
def Ic(g:KD m)(e:∀ a,KD (f a)):KD$ m >>= f:=⟨λM b Q E p s h=>by
 rw[Ql]at h ⊢;refine Ds M b m (λa c d z=>?_) (λi i i z=>z) p s$ g.out M b _ _ p s h;exact Ds M b _ (λi i i q=>⟨q.1,z.2.trans q.2⟩) (λi i i q=>⟨q.1,z.2.trans q.2⟩) c d$ (e a).out M b _ _ c d z.1⟩
def Bm{c}[Decidable c]{t u:Um α}(a:KD t)(b:KD u):KD$ if c then t else u:=by split<;>assumption
def ld a:KD$ PySem.load a:=⟨λc c c c c c h=>by obtain⟨o,b,h⟩:=h;exact⟨o,b,h,.refl _⟩⟩
def Fb a(b:∀ o,(f o).dict=o.dict):KD$ PySem.update a f:=⟨λc c c c c c h=>⟨h.1,h.2,.update _ _ b⟩⟩
def Ap:KD PySem.stack:=⟨λM a Q E p s h=>by
 exact⟨h,.refl _⟩⟩
def Ku o:KD$ PySem.alloc o:=⟨λa a a a a a h=>⟨h,.push _ _⟩⟩
def fld v i:KD$ PySem.field v i:=⟨λj g Q E p s h=>by
 rw[Vu]at h ⊢;obtain⟨a,o,f,x,b,c,d,e,h⟩:=h;exact⟨a,o,f,x,b,c,d,e,h,.refl _⟩⟩
def set v i x:KD$ PySem.setField v i x:=⟨λn m Q E p s h=>by
 rw[uJ]at h ⊢;obtain⟨a,o,k,e,f,g,j,h⟩:=h;exact⟨a,o,k,e,f,g,j,h,.update _ _ λo=>by obtain⟨c,d,b,l⟩:=o;cases b<;>rfl⟩⟩
end KD
def G6 a l:KD$ cP a l:=by unfold cP;(repeat' with_reducible first|assumption|exact KD.Nr _|exact KD.eu _|exact KD.fld _ _|exact KD.set _ _ _|exact KD.ld _|exact KD.Fb _ _|exact KD.Ap|exact KD.Ku _|apply KD.Bm|apply KD.Ic|intro _|split)
def ě:KD underTheClaimsCaller:=by unfold underTheClaimsCaller;(repeat' with_reducible first|assumption|exact KD.Nr _|exact KD.eu _|exact KD.fld _ _|exact KD.set _ _ _|exact KD.ld _|exact KD.Fb _ _|exact KD.Ap|exact KD.Ku _|apply KD.Bm|apply KD.Ic|intro _|split)
def Ŕ a i l:KD$ keptBack a i l:=by
 have:=ě;cases l<;>unfold keptBack<;>(repeat' with_reducible first|assumption|exact KD.Nr _|exact KD.eu _|exact KD.fld _ _|exact KD.set _ _ _|exact KD.ld _|exact KD.Fb _ _|exact KD.Ap|exact KD.Ku _|apply KD.Bm|apply KD.Ic|intro _|split)
theorem gP:∀ l:List vg,KD (readyFrames l)
 |[]=>KD.Nr _
 |env::l=>by
  have b:=gP l;have a:=G6 env l;unfold readyFrames
  (repeat' with_reducible first|assumption|exact KD.Nr _|exact KD.eu _|exact KD.fld _ _|exact KD.set _ _ _|exact KD.ld _|exact KD.Fb _ (λc=>rfl)|exact KD.Ap|exact KD.Ku _|apply KD.Bm|apply KD.Ic|intro _|split)
  all_goals first|exact(λi=>Ŕ env i l) _|skip
def Ũ l:KD$ frameObject l:=by
 cases l with
 |nil=>exact KD.Nr _
 |cons env l=>
  have:=gP$ env::l;unfold frameObject
  (repeat' with_reducible first|assumption|exact KD.Nr _|exact KD.eu _|exact KD.fld _ _|exact KD.set _ _ _|exact KD.ld _|exact KD.Fb _ _|exact KD.Ap|exact KD.Ku _|apply KD.Bm|apply KD.Ic|intro _|split)
def V0:KD frameEnvs:=by unfold frameEnvs;(repeat' with_reducible first|assumption|exact KD.Nr _|exact KD.eu _|exact KD.fld _ _|exact KD.set _ _ _|exact KD.ld _|exact KD.Fb _ _|exact KD.Ap|exact KD.Ku _|apply KD.Bm|apply KD.Ic|intro _|split)
def RZ a:KD$ PySem.frameOf a:=by
 have b:=V0;unfold PySem.frameOf
 (repeat' with_reducible first|assumption|exact KD.Nr _|exact KD.eu _|exact KD.fld _ _|exact KD.set _ _ _|exact KD.ld _|exact KD.Fb _ _|exact KD.Ap|exact KD.Ku _|apply KD.Bm|apply KD.Ic|intro _|split)
 all_goals first|exact Ũ _|skip
def F6 f b:KD$ entryPlaceOf f b:=by unfold entryPlaceOf;(repeat' with_reducible first|assumption|exact KD.Nr _|exact KD.eu _|exact KD.fld _ _|exact KD.set _ _ _|exact KD.ld _|exact KD.Fb _ _|exact KD.Ap|exact KD.Ku _|apply KD.Bm|apply KD.Ic|intro _|split)
def zmi a b c d e l:KD$ Go a b c d e l:=by
 unfold Go newFields newObj newObjAsIs
 (repeat' with_reducible first|assumption|exact KD.Nr _|exact KD.eu _|exact KD.fld _ _|exact KD.set _ _ _|exact KD.ld _|exact KD.Fb _ _|exact KD.Ap|exact KD.Ku _|apply KD.Bm|apply KD.Ic|intro _|split)
def E8 e a:KD$ Ch e a:=by
 have b:=RZ a;unfold Ch
 (repeat' with_reducible first|assumption|exact KD.Nr _|exact KD.eu _|exact KD.fld _ _|exact KD.set _ _ _|exact KD.ld _|exact KD.Fb _ (λc=>rfl)|exact KD.Ap|exact KD.Ku _|apply KD.Bm|apply KD.Ic|intro _|split)
 all_goals first|exact F6 _ _|exact zmi _ _ _ _ _ _|skip
def X0 e f:KD$ Ho e f:=by unfold Ho;(repeat' with_reducible first|assumption|exact KD.Nr _|exact KD.eu _|exact KD.fld _ _|exact KD.set _ _ _|exact KD.ld _|exact KD.Fb _ _|exact KD.Ap|exact KD.Ku _|apply KD.Bm|apply KD.Ic|intro _|split)
def JQ{M}{t:Um e}{Q}(k:KD t)(h:wpAny M A t Q E s):wpAny M A t (λa d=>Q a d/\DK s.heap d.heap) E s:=
 λc p b=>Ds M c t (λf f f z=>z) (λf f f z=>z.1) p s$ k.out M c _ _ p s$ h c p b
section
variable{P:Aa}{w:Ta}{H H':Hp}{h h':Heap}{a:Addr}{o:HO}
def xT(x:Rk P w H h a o):∃ u,h.get? a=SY u:=by
 cases o with
 |ia xs=>obtain⟨_,_,_,_,e⟩:=x;exact⟨_,e⟩
 |nb xs=>obtain⟨_,_,_,d,e,_⟩:=x;exact⟨_,e⟩
 |dK c=>obtain⟨_,_,_,_,o,_,_,e,_⟩:=x;exact⟨_,e⟩
 |set S n=>obtain⟨o,_,_,_,e,_⟩:=x;exact⟨_,e⟩
 |Eb C g b=>obtain⟨_,_,_,e,_⟩:=x;exact⟨_,e⟩
 |own y=>trivial
 |xd b=>obtain⟨_,⟨_,_,_,e,_⟩,_⟩:=x;exact⟨_,e⟩
 |bI lo i=>obtain⟨_,_,_,e⟩:=x;exact⟨_,e⟩
 |ud d u=>obtain⟨e,_⟩:=x;exact⟨_,e⟩
 |ul ps=>exact⟨_,x⟩
 |met f y=>exact⟨_,x⟩
 |ext j=>obtain⟨_,⟨_,e⟩,_⟩:=x;exact⟨_,e⟩
def vS(x:Fi P w H h)(k:∀ b o u,H b=SY o->h.get? b=SY u->h'.get? b=SY u):Fi P w H h':=λb o e=>
 (x b o e).Yj (λc v a q=>by
  rcases a with rfl|a
  ·exact k _ _ _ e q
  ·exact k _ _ _ a q) (λc q=>q) λc c q=>q
end
section
variable{pins:List$ Addr × Obj}{st:St}{H H':Hp}{s s':Shared}{cls:Value}{h':Heap}{ea:Addr}{args:dN}{M:Pi}{E:Value->Shared->Prop}{Q:Unit->Shared->Prop}
def pZ(x:OC B l ea cls a h):Jo B l ea cls a h:=⟨x.1,x.2.1,x.2.2.1,ϑ ⟨rc,x.2.2.2.at⟩⟩
def Jo.there(x:Jo B l ea cls b h):∃ a,h.get? ea=SY a/\a.cls=cls:=by
 obtain⟨_,_,_,⟨f,q⟩|⟨c,g,d,e,_⟩⟩:=x
 ·exact q.there
 ·exact⟨c,d,e⟩
def CF.next(x:CF a ea B h b H')(k:DK h h')(e:∃ o,h'.get? ea=SY o):CF a ea B h' b H':=λn q=>by
 obtain⟨c,d,j,f,g,i⟩:=x n q;obtain⟨o,e⟩:=e;exact⟨c,d,o,e,(k.get f e).trans g,i⟩
def TL(x:Jo B l ea cls d s.heap)(i:∀ a,Jo B l ea cls d a->s.heap.UpToSlots a->DK s.heap a->Q () { s with heap:=a }):wpAny M A (Ho (Xb ea) ń) Q E s:=by
 obtain⟨f,g,h,⟨y,c⟩|c⟩:=x
 ·have k:wpAny M A _ (λI s'=>∃ a,s'={ s with heap:=a }/\Jo B l ea cls d a/\s.heap.UpToSlots a) E s:=
   wpAny_setFlight_noneW f h c λa p q r t=>⟨a,rfl,pZ ⟨p,g,q,r⟩,λb o e n=>⟨o.slots,t b o e n⟩⟩
  exact nc (JQ (X0 _ _) k) (λ_ _ ⟨⟨a,e,u,v⟩,w⟩=>by subst e;exact i a u v w) λI I z=>z
 ·obtain⟨G,H,m,D,j,F,C,a⟩:=id c;exact ba$ rk m j a$ ga$ i s.heap ⟨f,g,h,ϕ c⟩ (.refl _)$ .refl _
def É(w:A.frames=SY (d::a))(u:d.frame=SY L)(x:Jo B (d::a) ea cls m s.heap)
  (N:∀ h,Qn B (d::a) ea cls m L h->s.heap.UpToSlots h->Q () { s with heap:=h }):wpAny M A (Ch (Xb ea) d) Q E s:=by
 obtain⟨I,C,J,⟨D,r⟩|r⟩:=x
 ·by_cases hm:D=pc L
  ·subst hm;exact wpAny_noteFrame_againW u r$ N s.heap ⟨I,C,J,r⟩$ .refl _
  ·obtain⟨ό,W,T,oT,z,l,O,j,h,y,i,F,c,ϊ⟩:=r;have V:3<z.size:=(Nc.mp ϊ).1;have f:∀ b,b≠T->(s.heap.update T (Fp (·.setIfInBounds 3 rc))).get? b=s.heap.get? b:=λb G=>Ae _ _$ Ud G;have nr:∀ b o,s.heap.get? b=SY o->(∀ v,o.data≠ ϩ v)->b≠T:=λb o G hn q=>by
    rw[q,F]at G;cases G;exact hn z c
   have g:=yc (Fp (·.setIfInBounds 3 rc)) F$ Qe$ ec c _;have up:s.heap.UpToSlots _:=λb o e n=>⟨o.slots,(f b$ nr b o e n).trans e⟩
   have F0:OC B _ ea cls m _:=
    ⟨λb o e=>(f b λq=>by rw[q,y]at e;cases e).trans$ I b o e,C,J.of_keeps λb o e n=>⟨o,(f b$ nr b o e n).trans e,rfl⟩,
     ό,W,T,_,_,(f ea$ Ud i).trans l,O,j,h,y,i,g,ec c _,by simp[V]⟩
   intro Γ p P;have k:=(wpAny_looks_onW (M:=M) (E:=E) (s:={ s with heap:=s.heap.update T _ }) w u F0 λh2 q1 q2=>N h2 q1$ up.trans q2) Γ p P;unfold Ch at k ⊢;simp only[u]at k ⊢;rw[Ql,Vu]at k ⊢;apply b_;intro z_;obtain⟨a1,R,v1,x1,e1,g1,ϋ,i1,k⟩:=k;cases e1;have t:s.heap.get? ea=SY R:=(f ea$ Ud i).symm.trans g1;have S:R=ό:=by rw[l]at t;cases t;rfl
   apply z_;apply b_;intro z_;subst S;rw[j]at ϋ;cases ϋ;rw[h]at i1;cases i1;apply z_;refine⟨ea,R,W,Xb T,rfl,l,j,h,?_⟩;have nn:(Xb T != rc)=U2:=by simp
   simp only[nn,Mi]at k ⊢;rw[Ql,Vu]at k ⊢;obtain⟨a2,o2,v2,x2,e2,g2,d2,i2,k⟩:=k;cases e2;have K:=g.symm.trans g2;cases K;have H:=(ec c (·.setIfInBounds 3 rc)).symm.trans d2;cases H;have X:x2=rc:=by
    have:(z.setIfInBounds 3 rc)[3]?=SY rc:=by simp[V]
    rw[this]at i2;cases i2;rfl
   subst X;refine⟨T,oT,z,D,rfl,F,c,ϊ,?_⟩;have n1:(rc == pc L)=ŝ:=by simp[pc]
   have n2:(D == pc L)=ŝ:=by
    cases q:D == pc L with
    |false=>rfl
    |true=>exact absurd (Uj.mp q) hm
   simp only[n1,n2,zt,yt]at k ⊢;rw[Ql,uJ]at k ⊢;apply b_;intro z_;obtain⟨a3,o3,v3,e3,g3,d3,i3,k⟩:=k;cases e3;apply z_;refine⟨T,oT,z,rfl,F,c,V,?_⟩;simpa only[Heap.update_setField_twice]using k
 ·obtain⟨ό,W,l,O,j,hz,h0,h⟩:=r;unfold Ch;simp[u];refine ba$ rk l j h (wpAny_entryW (base:=B) (outer:=a) (a0:=m) w J u l I C j hz h0 λh4 hN=>?_);obtain⟨k1,k2,k3,k4⟩:=hN;rw[O]at k3;exact N h4 ⟨k1,C,k2,k3⟩ k4
def IR(f:A.frames=SY (c::a))(j:c.frame=SY L)(x:Jo B (c::a) ea cls d s.heap)
  (i:∀ b,Qn B (c::a) ea cls d L b->s.heap.UpToSlots b->DK s.heap b->Q () { s with heap:=b }):wpAny M A (Ch (Xb ea) c) Q E s:=by
 have k:wpAny M A _ (λm s'=>∃ b,s'={ s with heap:=b }/\Qn B _ ea cls d L b/\s.heap.UpToSlots b) E s:=É f j x λb g h=>⟨b,rfl,g,h⟩
 exact nc (JQ (E8 _ _) k) (λ_ _ ⟨⟨b,e,g,h⟩,l⟩=>by subst e;exact i b g h l) λm m z=>z
def KU(x:Qn B l ea cls a L h):Jo B l ea cls a h:=⟨x.1,x.2.1,x.2.2.1,ϑ ⟨_,x.2.2.2⟩⟩
def Ì(d:A.frames=SY (b::a))(h:b.frame=SY L)(x:Jo B (b::a) ea cls e s.heap)
  (g:∀ c,Jo B a ea cls e c->s.heap.UpToSlots c->DK s.heap c->Q () { s with heap:=c }):wpAny M A (leaving b$ Xb ea) Q E s:=by
 refine ba (IR d h x λc m n o=>(TL (KU m) λf p q r=>?_));obtain⟨i,j,⟨_,_,k⟩,l⟩:=p;exact g f ⟨i,j,k,l⟩ (n.trans q)$ o.trans r
def SG(c:X.stack=X.env::X.outer)(a:X.env.frame=SY X.env.locals):b∈Oj X.stack ↔ b=X.env.locals\/b∈Oj X.outer:=by
 rw[c];unfold Oj;rw[af,a];exact Ba
def ť(I:gb X pins st H s)(m:X.stack=X.env::X.outer)(l:X.env.frame=SY X.env.locals)(p:X.ex=[])(d:Un (Oj X.stack) [] H H' s.heap f):Un (Oj X.outer) [] X.H₀ H' X.s₀.heap f:=by
 have a:∀ b,b ∉ X.ex:=λb z=>by rw[p]at z;cases z
 have i:∀ b o,X.s₀.heap.get? b=SY o->b≠X.env.locals:=λb o e=>za$ La (xa e) I.ok.above;refine⟨λb o e n g v=>?_,λb o e n g v=>?_,λb o e n v=>?_,λb o e v=>?_,λb xs e=>d.xm b xs$ I.base.xm b xs e,λb o u e=>d.Ij b o u$ I.base.Ij b o u e,λb ps e=>?_⟩
 ·exact d.keep b o (I.base.keep b o e n g$ a b) (I.base.free b o e n$ a b) (λz=>((SG m l).mp z).elim (i b o e) g) ⋯
 ·obtain⟨t,c⟩:=I.base.slot b o e n g (a b);obtain⟨k,h⟩:=d.slot b _ c (I.base.free b o e n$ a b) ((SG m l).mpr$ ϕ g) ⋯;exact⟨k,h⟩
 ·obtain⟨j,c⟩:=I.base.there b o e (a b);exact d.free b j c (I.base.free b o e n$ a b) ⋯
 ·obtain⟨j,c⟩:=I.base.there b o e (a b);exact d.there b j c ⋯
 ·obtain⟨q,c⟩:=I.base.Kl b ps e;obtain⟨r,h⟩:=d.Kl b _ c;exact⟨q++r,by rw[h,Yr]⟩
def FH(F:Ez P w a H s cls v H' e s'){B:Heap}(y:∀ b o,s.heap.get? b=SY o->H b=ń->b ∉ Oj a->B.get? b=SY o)(z:∀ b o,H' b=SY o->∃ t,B.get? b=SY t)
  (x:∀ b o,s.heap.get? b=SY o->b ∉ Oj a->∃ k,B.get? b=SY k) (A:∀ b o,B.get? b=SY o->s'.heap.get? b=SY o) (l:∀ b o,B.get? b=SY o->j.get? b=SY o) (h:s'.heap.UpToSlots j) (g:∀ b∈Oj a,∃ o,s.heap.get? b=SY o/\(∀ E,o.data≠ ϩ E)/\H b=ń) :
  Un (Oj a) [] H H' s.heap j/\Fi P w H' j:=by
 refine⟨⟨λb o e n c G=>l b o$ y b o e n c,λb o e n c p=>?_,F.un.free,λb o e p=>?_,F.un.xm,F.un.Ij,F.un.Kl⟩,vS F.Kc λb o u e q=>?_⟩
 ·obtain⟨D,f⟩:=F.un.slot b o e n c p;obtain⟨k,d,m,_⟩:=g b c;rw[e]at d;cases d;obtain⟨i,r⟩:=h b _ f m;exact⟨i,r⟩
 ·by_cases c:b∈Oj a
  ·obtain⟨k,d,m,C⟩:=g b c;rw[e]at d;cases d;obtain⟨D,f⟩:=F.un.slot b o e C c p;obtain⟨i,r⟩:=h b _ f m
   simp_all
  ·obtain⟨k,f⟩:=x b o e c
   simp_all
 ·obtain⟨t,f⟩:=z b o e
  simp_all
def WH(I:gb X pins st H s):∀ b∈Oj X.stack,∃ o,s.heap.get? b=SY o/\(∀ d,o.data≠ ϩ d)/\H b=ń:=λb a=>by
 obtain⟨_,o,e,c⟩:=I.stack.mem a;exact⟨o,e,c,I.Aj b a⟩
set_option tactic.hygienic true in
def M7(I:gb X pins st H s)(d:X.stack=X.env::X.outer)(i:X.env.frame=SY X.env.locals)(c:X.ex=[])(F:Ez X.prog X.w X.stack H s cls j H' e s')
  (N:∀ g,Ez X.prog X.w X.outer X.H₀ X.s₀ cls j H' e g->Q () g):wpAny M X.A (leaving X.env e) Q E s':=by
 obtain⟨ea,t,B,rfl,y,O,J,G,D,C,L⟩:=F.ex;have k:Jo B (X.env::X.outer) ea cls t s'.heap:=by rw[<-d];exact y
 refine Ì (by rw[<-d];exact I.ok.frames) i k λl r S T=>N _ ?_;obtain⟨R,p⟩:=FH F D G C y.1 r.1 S (WH I);have a:∀ b,b ∉ X.ex:=λb z=>by rw[c]at z;cases z
 have f:∀ b o,X.s₀.heap.get? b=SY o->b≠X.env.locals:=λb o e=>za$ La (xa e) I.ok.above;have K:∀ b,s.heap.get? b=ń->X.s₀.heap.get? b=ń:=λb e=>by
  cases q:X.s₀.heap.get? b with
  |none=>rfl
  |some u=>obtain⟨v,x⟩:=I.base.there _ _ q (a _);rw[e]at x;cases x
 have m:CF j ea B l X.s₀.heap H':=λn q=>by
  obtain⟨ό,V,W,ϋ,ϊ,z3,z4,z5,z6⟩:=L.next T (let ⟨o,e,_⟩:=r.there;⟨o,e⟩) n q
  simp_all
 refine⟨⟨ea,t,B,rfl,r,O,?_,G,λb o e n h=>?_,λb o e h=>?_,m⟩,F.os.trans I.os,F.bare,ť I d i c R,p⟩
 ·cases q:X.s₀.heap.get? ea with
  |none=>rfl
  |some u=>grind
 ·exact D b o (I.base.keep b o e n h$ a b) (I.base.free b o e n$ a b) λz=>((SG d i).mp z).elim (f b o e) h
 ·obtain⟨P,q⟩:=I.base.there b o e (a b);exact C b P q λz=>((SG d i).mp z).elim (f b o e) h
end
def ZY{P}{w}{K}{m}{d}{N}{g}{c}{f}{l}{A}{b}{s}{H}{E}{st}{a}{j}{i}
  (h:E a j i):QB (yp (Ol P w) P w K m d N g c f l A b s H E) st a j i where
 rH:=λk o s1 e p I F=>M7 I rfl rfl rfl F λn G=>⟨a,j,i,G,h⟩
def QB.made{st}(t:QB X st j ń g)(I:gb X d st g s)(c:Heap.MadeExcOf s.heap h' h j i):X.xe (Xb h) { s with heap:=h' }:=by
 have f:∀ b o,s.heap.get? b=SY o->b ∉ Oj X.stack->(W.hideAll s.heap _).get? b=SY o:=λb o e n=>pJ _ e n;obtain⟨y,m,x,A⟩:=c.there;have p:∀ b o,g b=SY o->b ∉ Oj X.stack:=λb o e z=>by rw[I.Aj b z]at e;cases e
 have w:g h=ń:=by
  cases q:g h with
  |none=>rfl
  |some u=>obtain⟨v,e⟩:=xT (I.Kc _ _ q);rw[c.new]at e;cases e
 refine t.rH d g s _ _ I ⟨⟨h,Xb y,W.hideAll s.heap _,rfl,⟨λb o q=>c.keeps b o$ Xr _ q,?_,(W.funFrames_hide I.stack$ λl m a r=>Tj.mpr ⟨l,m,r⟩).of_keeps λb o e B=>⟨o,c.keeps b o e,rfl⟩,ϕ ⟨_,_,m,rfl,rfl,by simp,rfl,rfl⟩⟩,w,c.new,λb o e=>?_,λb o e n k=>f b o e k,λb o e k=>⟨o,f b o e k⟩,λn q=>by cases q⟩,rfl,I.bare,⟨λb o e n k B=>c.keeps b o e,λb o e n k B=>⟨o.slots,c.keeps b o e⟩,λb o e n B=>n,λb o e B=>⟨o,c.keeps b o e⟩,λB B e=>e,λB B B e=>e,λb ps e=>⟨#[],by rw[e];simp⟩⟩,vS I.Kc λb o u e q=>c.keeps b u q⟩
 ·cases q:(W.hideAll s.heap _).get? h with
  |none=>rfl
  |some u=>have:=Xr _ q;rw[c.new]at this;cases this
 ·obtain⟨u,q⟩:=xT (I.Kc _ _ e);exact⟨u,f b u q$ p b o e⟩
def Vq{K} :
  Eo (model P w) (yp (Ol P w) P w K g c N d b f e A a s H E).A (yp (Ol P w) P w K g c N d b f e A a s H E).env (yp (Ol P w) P w K g c N d b f e A a s H E).xe:=zaC
noncomputable def W2:Fl->M D
 | Ϙ _=>ret Ϛ
 | .rt d=>ret d
 | .xc _ x=>λa=>.ex x a
 |_=>Ib
def Jp:Ck Fl->Ck D
 | U a σ=>W2 a σ
 |_=>ϗ
def ni(n:Nat)(g:Ev->M Fl)(a:i'):M D:=λb=>Jp$ g (a.map SY++List.replicate (n - a.length) ń) b
inductive BR(T:Tb)(n:Nat)(vs:h8)(H:Hp)(P:b'->Ga->i'->Prop):Prop
 |mk (μ:b') (σ:Ga) (ds:i') (a:Db T μ H ds vs) (l:ds.length=n) (r:gd T μ H σ) (p:P μ σ ds):BR T n vs H P
noncomputable def Wn(T:Tb)(n:Nat)(f:i'->M D):Sp:=λb H Q E=>BR T n b H λc d a=>Vb T E (Ja T) c H (f a d) Q
noncomputable def Ko(n:Nat)(f:i'->M D)(a:i')(b:i'):M D:=if (b++a).length=n then f (b++a)else Ib
def Bf(n:Nat)(f:i'->M D)(a:i')(b:Ev->M (i')):Ev->M D:=λc=>Ic (b c)$ Ko n f a
section
def gY(h:Db T c H ds b):Gh T c H (ds.map SY++List.replicate (N.length - ds.length) ń)$ L2.Cw N b:=by
 have k:=h.length;refine⟨by simp[L2.Cw,k],λi d e=>?_⟩;by_cases j:i<ds.length
 ·rw[Ya (by simpa using j),Ca]at e;cases a:ds[i]? with
  |none=>simp_all
  |some x=>
   rw[a]at e;cases e;obtain⟨v,f,g⟩:=h.get a;refine⟨v,?_,g⟩;unfold L2.Cw;rw[Ya ⋯,Ca,f];rfl
 ·rw[Gb ⋯,Bp]at e
  simp_all
variable{k:Nat}{f C:Addr}{fd:kf}{ps:ac}{dvs:h8}{dval:dN}{dds:i'}{x:Str}{p pos:Vd}{e:Na}{es:List Na}{fn:i'->M D}{fs:Ev->M (i')}{sp:Sp}{t:TA}
def AE(F:nh X.prog X.w X.K X.mg X.base (Ol X.prog X.w) k f fd ps sp)(p:Gd k X.A)(m:Wq X.K fd ps dval)(n:ke dvs dval)
  (I:gb X a g H s) (r:ke vs d) (h:sp (vs++dvs) H Q$ XE X g):wpAny (model X.prog X.w) X.A (call (Xb f) d) (EP X a g Q) X.xe s:=by
 have i:=r.append n;have o:(d++dval).length=ps.length:=by rw[<-i.length];exact F.len _ _ _ _ h
 refine ej (qf (F.ni X.A X.stack s H _ _ _ Q _ p I.RC (m s d I.Li o) i h) λr t c=>?_);cases r with
 |error e=>obtain⟨j,fd,v,b,q⟩:=c;exact q.rH a H s e t I b
 |ok l=>
  cases l with
  |ret u=>exact I.after c
  |next=>exact ϱ c
  |brk=>exact ϱ c
  |cont=>exact ϱ c
def zS(F:nh X.prog X.w X.K X.mg X.base (Ol X.prog X.w) k f fd ps$ Wn T ps.length fn)(L:Gd k X.A)(D:Gl X x)(G:X.mg x=SY (Xb f))(E:Ϸ X.K (Xb f)=U2)(z:Wq X.K fd ps dval)(B:ke dvs dval)(g:∀ n H,Db T n H dds dvs)
  (y:FA T X (e::es) fs) (d: ~~~((x == ("__debug__" : Str))=ŝ)) (C:(qa (e::es) X.env=(ŝ,Mb e X.env)::qa es X.env)⁻¹) (j:((Zb pos$ qa es X.env).any (·.1)=ŝ)⁻¹) :
  FE T X (ϟ (ϛ x p) (e::es) [] pos)$ Bf ps.length fn dds fs:=by
 intro a s u H Q I h;refine Pe$ pA I D G ?_ d;obtain⟨n,ρ,O,v,l,J⟩:=h;refine fh I.ok.mod.fw E (pd (y pos a s u H (λm c=>Wn T ps.length fn (m++dvs) c Q$ XE X u) I ⟨n,ρ,O,v,l,J.bind λds σ1 o m c R P N M b=>?_⟩) λus s1 ⟨m,c,t,r,q⟩=>⟨t.Li,?_⟩) C j
 ·unfold Ko at b;by_cases i:(ds++dds).length=ps.length
  ·rw[na i]at b;exact⟨o,σ1,ds++dds,M.append$ g _ _,i,N,b⟩
  ·rw[ya i]at b;exact b.elim
 ·exact AE F L z B t r q
variable{P:Aa}{w:Ta}{K:ϖ}{mg:Str->Option Value}{base:Heap}
def dC{st}{D kV i G d ct ϋ}{C ϊ}
  (lk:K.lookup f=SY ⟨ϋ,ϊ,.func$ ϭ x a c (Sj st) (Gf st) D kV i G C d ct,q⟩) (p:ϻ K d a=U2) (S:Fc N ps$ Gf st)
  (V:∀ A b s H E,Gd k (A.deeper$ fg a (Gf st) s.heap.objs.size f d)->Ul T (yp (Ol P w) P w K mg base N a (Gf st) f d A b s H E) (Sj st) g) :
  nh P w K mg base (Ol P w) (k+1) f (ϭ x a c (Sj st) (Gf st) D kV i G C d ct) ps$ Wn T ps.length$ ni N.length g:=by
 refine t7 lk p S (λvs H Q E h=>?_) (λA b s H vs Q E X h=>?_)
 ·obtain⟨I,y,ds,o,F,_⟩:=h;rw[<-o.length];exact F
 ·obtain⟨I,y,ds,o,F,ό,e⟩:=h;refine⟨_,V A b s H E X,I,_,y,gY o,ό,?_⟩;unfold ni at e;cases m:g _ y with
  |Ib=>rw[m]at e;exact e
  |ex x B=>rw[m]at e;exact e.elim
  |ok R B=>
   rw[m]at e;intro u n J L r j;have l:=e.mono L;cases R with
   |nx v=>cases n with
    |nx t=>have z:=Vb.here l r (by rw[Ja]);exact z
    |_=>exact j.elim
   |rt d2=>cases n with
    |rt v2=>have z:=Vb.here l r j;exact z
    |_=>exact j.elim
   |xc v x2=>cases n with
    |xc t c2 O=>
     obtain⟨_,rfl,rfl⟩:=j;exact ZY$ l u J (Ϯ _ _) r
    |_=>exact j.elim
   |_=>exact l.elim
def jN(F:nh P w K mg base (Ol P w) k f fd ps$ Wn T ps.length fn):nh P w K mg base (Ol P w) k f fd ps$ Wn T ps.length (λds=>ud$ fn ds):=
 F.imp λi H Q E h=>by
  obtain⟨e,g,ds,b,c,a,d⟩:=h;exact⟨e,g,ds,b,c,a,Vb.ud a d⟩
end
noncomputable def Ui(e:vg)(a:List$ Str × Ee)(b:List$ Str × Addr):List$ Str × Addr:=
 a.foldl (λd y=>if (y.2 == Bb)=U2 then (match e.cells.lookup y.1 with|some c=>(y.1,c)::d|none=>d)else d) b
theorem AL(b:vg):∀ (d:List$ Str × Ee) (acc:List$ Str × Addr),(∀ y∈d,y.2=Bb->∃ c,b.cells.lookup y.1=SY c)->
  (forIn d acc (λx (cs:List (Str × Addr))=>match x with|(name,kind)=>if (kind == Bb)=U2 then (do let a <-cellOf b name;pure (ForInStep.yield$ (name,a)::cs))else pure (ForInStep.yield cs)):Um (List$ Str × Addr))=pure (Ui b d acc)
 |[],acc,_=>rfl
 |(n,k)::r,acc,h=>by
  rw[List.forIn_cons];by_cases e:(k == Bb)=U2
  ·obtain⟨c,i⟩:=h _ va ⋯;have j:cellOf b n=pure c:=by unfold cellOf;rw[i]
   simp only[e,j];show (forIn r _ _:Um _)=_;rw[AL b r _ λy g=>h y$ ja _ g];have f:Ui b ((n,k)::r) acc=Ui b r ((n,c)::acc):=by
    unfold Ui;rw[zg];simp only[e,Mi,i]
   rw[f]
  ·simp only[e];show (forIn r acc _:Um _)=_;rw[AL b r acc λy g=>h y$ ja _ g];have f:Ui b ((n,k)::r) acc=Ui b r acc:=by
    unfold Ui;rw[zg];simp only[e];rfl
   rw[f]
def DN b a(h:∀ y∈a.names,y.2=Bb->∃ c,b.cells.lookup y.1=SY c):closureFor a b=pure (Ui b a.names []):=by
 unfold closureFor;simp only[bind_pure];exact(AL b a.names [] h)
theorem GL(a:vg):∀ (b:List$ Str × Ee) (acc:List$ Str × Addr) (n:Str) (c:Addr),(∀ n c,acc.lookup n=SY c->a.cells.lookup n=SY c)->(Ui a b acc).lookup n=SY c->a.cells.lookup n=SY c
 |[],acc,n,c,h,e=>h n c e
 |(y,k)::r,acc,n,c,h,e=>by
  refine GL a r _ n c (λn c q=>?_) e;by_cases f:(k == Bb)=U2
  ·simp[f,Mi]at q;cases d:a.cells.lookup y with
   |none=>rw[d]at q;exact h n c q
   |some g=>
    rw[d]at q;rw[Pb]at q;cases i:(n == y)with
    |true=>simp_all
    |false=>simp_all
  grind
theorem LW(a:vg):∀ (b:List$ Str × Ee) (acc:List$ Str × Addr) (n:Str),(∃ c,acc.lookup n=SY c)->∃ c,(Ui a b acc).lookup n=SY c
 |[],acc,n,h=>h
 |(y,k)::r,acc,n,h=>by
  refine LW a r _ n ?_;by_cases e:(k == Bb)=U2
  ·simp[e];cases f:a.cells.lookup y with
   |none=>exact h
   |some d=>
    rw[Pb];cases g:(n == y)with
    |true=>exact⟨d,rfl⟩
    |false=>exact h
  simp_all
theorem vF(b:vg):∀ (a:List$ Str × Ee) (acc:List$ Str × Addr) (n:Str),(n,Bb)∈a->(∃ c,b.cells.lookup n=SY c)->∃ c,(Ui b a acc).lookup n=SY c
 |[],acc,n,h,_=>nomatch h
 |(y,k)::r,acc,n,h,d=>by
  rcases Ba.mp h with e|e
  ·cases e;refine LW b r _ _ ?_;obtain⟨c,d⟩:=d
   simp_all
  ·exact vF b r _ n e d
theorem CK{a:vg}:∀ {b:List$ Str × Ee} {x:Str} {k:Ee},
  (b.map λ(n,k)=>if (k == Bb && a.scope.kind == ϡ && a.kindOf n == SY wc)then (n,wc)else (n,k)).lookup x=SY k->∃ c,b.lookup x=SY c/\(k=c\/(c=Bb/\k=wc))
 |[],_,_,h=>by simp at h
 |(n,c)::r,x,k,h=>by
  have g:=@CK a r x k;have d:List.lookup x ((if (c == Bb && a.scope.kind == ϡ && a.kindOf n == SY wc)=U2 then (n,wc)else (n,c))::(r.map λ(n,k)=>if (k == Bb && a.scope.kind == ϡ && a.kindOf n == SY wc)then (n,wc)else (n,k)))=SY k:=h;cases f:x == n with
  |true=>
   by_cases e:(c == Bb && a.scope.kind == ϡ && a.kindOf n == SY wc)=U2;all_goals grind
  |false=>
   by_cases e:(c == Bb && a.scope.kind == ϡ && a.kindOf n == SY wc)=U2
   ·rw[na e]at d;simp only[Pb,f]at d ⊢;exact g d
   ·rw[ya e]at d;simp only[Pb,f]at d ⊢;exact g d
theorem sS{env:vg}:∀ {a:List$ Str × Ee} {x:Str},a.lookup x=SY Bb->
  (a.map λ(n,k)=>if (k == Bb && env.scope.kind == ϡ && env.kindOf n == SY wc)then (n,wc)else (n,k)).lookup x=SY wc\/
  (a.map λ(n,k)=>if (k == Bb && env.scope.kind == ϡ && env.kindOf n == SY wc)then (n,wc)else (n,k)).lookup x=SY Bb
 |[],_,h=>by simp at h
 |(n,k)::r,x,h=>by
  have f:=@sS env r x;have b:∀ z,List.lookup x ((if (k == Bb && env.scope.kind == ϡ && env.kindOf n == SY wc)=U2 then (n,wc)else (n,k))::(r.map λ(n,k)=>if (k == Bb && env.scope.kind == ϡ && env.kindOf n == SY wc)then (n,wc)else (n,k)))=z->
   (List.map (λ(n,k)=>if (k == Bb && env.scope.kind == ϡ && env.kindOf n == SY wc)then (n,wc)else (n,k))$ (n,k)::r).lookup x=z:=λz e=>e
  cases c:x == n with
  |true=>
   simp[Pb,c]at h;cases h;by_cases d:(Bb == Bb && env.scope.kind == ϡ && env.kindOf n == SY wc)=U2
   ·exact ϑ$ b _ (by rw[na d];simp only[Pb,c])
   ·exact ϕ$ b _ (by rw[ya d];simp only[Pb,c])
  |false=>
   simp only[Pb,c]at h;have e:List.lookup x ((if (k == Bb && env.scope.kind == ϡ && env.kindOf n == SY wc)=U2 then (n,wc)else (n,k))::(r.map λ(n,k)=>if (k == Bb && env.scope.kind == ϡ && env.kindOf n == SY wc)then (n,wc)else (n,k))) =
     (r.map λ(n,k)=>if (k == Bb && env.scope.kind == ϡ && env.kindOf n == SY wc)then (n,wc)else (n,k)).lookup x:=by
    by_cases d:(k == Bb && env.scope.kind == ϡ && env.kindOf n == SY wc)=U2
    ·rw[na d];simp only[Pb,c]
    ·rw[ya d];simp[Pb,c]
   rcases f h with q|q
   ·exact ϑ$ b _$ e.trans q
   ·exact ϕ$ b _$ e.trans q
def Lv{a:List$ Str × Ee}(h:a.lookup x=SY k):(x,k)∈a:=ie h
noncomputable def Lo(X:Cx)(b:ac)(a:Scope)(cl:List$ Str × Addr)(C:Addr)(s₀:Shared)(H₀:Hp)(ex:b'):Cx:=
 { X with N:=b,s₀:=s₀,H₀:=H₀,env:=compEnvC a cl C X.env,outer:=X.stack,stack:=X.stack,ex:=ex,fn:=λc=>ŝ,pn:=[],xe:=λc c=>False }
structure ak(X:Cx)(x:Str)(M':ac)(ix:gV)(scope:Scope):Prop where
 kind:scope.kind=ϡ
 cell:(scope.names.all λy=>!(y.2 == wc))=U2
 names:(scope.names.all λy=>!(y.2 == .local) || scope.names.lookup y.1 == SY .local)=U2
 free:(scope.names.all λy=>!(y.2 == Bb) || (X.env.scope.names.lookup y.1 == SY wc || X.env.scope.names.lookup y.1 == SY Bb))=U2
 at_:ix.map (λi=>X.N[i]?)=M'.map SY
 wV:(M'.all λy=>(X.env.scope.names.lookup y == SY wc || X.env.scope.names.lookup y == SY Bb) && scope.names.lookup y == SY Bb)=U2
noncomputable def wW(a:gV)(b:Ev):Ev:=ń::a.map λi=>(b[i]?).getD ń
noncomputable def mX(a:gV)(st:St):St:=ń::a.map λi=>(st[i]?).getD ń
def SW{st} a(h:Gh T c H ρ st):Gh T c H (wW a ρ)$ mX a st:=by
 refine⟨by simp[wW,mX],λi d e=>?_⟩;cases i with
 |zero=>cases e
 |succ j=>
  have k:(a.map λi=>(ρ[i]?).getD ń)[j]?=SY _:=e;cases l:a[j]? with
  |none=>simp_all
  |some b=>
   have f:ρ[b]?=SY (SY d):=by
    cases q:ρ[b]? with
    |none=>simp_all
    |some o=>simp_all
   obtain⟨v,m,g⟩:=h.2 b d f;refine⟨v,?_,g⟩;show (a.map λi=>(st[i]?).getD ń)[j]?=_
   simp_all
section
variable{pins:List$ Addr × Obj}{st:St}{H:Hp}{s:Shared}{x:Str}{M':ac}{ix:gV}{scope:Scope}{fp:b'}
def ŕ(L:ak X x M' ix scope) y(a:y∈scope.names)(e:y.2=Bb):X.env.kindOf y.1=SY wc\/X.env.kindOf y.1=SY Bb:=by
 have q:=Jb.mp L.free y a;rw[e]at q;simp only[WX,Bool.not_true,Bool.false_or,sf]at q;rcases q with q|q
 ·exact ϑ$ eq_of_beq q
 ·exact ϕ$ eq_of_beq q
def fA(I:gb X pins st H s)(L:ak X x M' ix scope):∀ y∈scope.names,y.2=Bb->∃ c,X.env.cells.lookup y.1=SY c:=λy a e=>I.ok.has y.1$ ŕ L y a e
def fD(L:ak X x M' ix scope):∀ y∈scope.names,y.2≠ wc:=λy a e=>by
 have q:=Jb.mp L.cell y a
 simp_all
end
noncomputable def Ms{a:Type}(m:M a):M a:=λb=>match m b with
 | .ex _ _=>ϗ
 |o=>o
def Vb.Rt{E E0}{R:b'->Hp->j->u->Prop}{p}{m}{k:j->M t}{Q:v->Hp->Prop}{o}
  (h:Vb T E p l H (Ic (Ms m) k i) Q) (f:∀ a b c g d,m i=U a b->Tc l H c d->gd T c d b->R c d a g->Vb T E p c d (k a b) Q->o g d):Vb T E0 R l H (m i) o:=by
 unfold Ic Ms at h;cases e:m i with
 |ok a b=>
  simp[e]at h;exact λn g w s r q=>f a b n g w e s r q$ h.mono s
 |ex x b=>simp[e]at h;exact h.elim
 |Ib=>simp[e]at h;exact h
def Tw(T:Tb)(X:Cx)(b:List Na)(f:Ev->M Bool):Prop:=
 ∀ a s st H Q,gb X a st H s->tT T X f st H Q->
  wpAny (model X.prog X.w) X.A (forIn b U2 λc r=>if r=U2 then do let ok <-JA c X.env (Mb c X.env);pure (ForInStep.yield ok)else pure (ForInStep.yield r)) (TP X a st Q) X.xe s
noncomputable def Ej:Ev->M Bool:=λa=>ret U2
def rY:Tw T X [] Ej:=by
 rintro a s e H Q I ⟨f,ρ,g,d,c,b⟩;exact wpAny_tests_nil ⟨H,I,Vb.here b c rfl⟩
def ĥ(h:FT T X c f):Tw T X [c] f:=λa s d H Q I b=>wpAny_tests_one$ h a s d H Q I b
def yak(u:Un i ex H g h j)(d:Yc C j k)(l:h.objs.size<=C):Un i ex H g h k:=by
 have f:∀ b o,h.get? b=SY o->b≠C:=λb o e=>za$ La (xa e) l;refine⟨λb o e n c a=>(d.2 b$ f b o e).trans$ u.keep b o e n c a,λb o e n c a=>?_,u.free,λb o e a=>?_,u.xm,u.Ij,u.Kl⟩
 ·obtain⟨p,q⟩:=u.slot b o e n c a;exact⟨p,(d.2 b$ f b o e).trans q⟩
 ·obtain⟨m,q⟩:=u.there b o e a;exact⟨m,(d.2 b$ f b o e).trans q⟩
def U7(ok:Fi P w H a)(f:Yc C a d)(h:H C=ń):Fi P w H d:=λb g e=>by
 refine(ok b g e).Yj (λc j i q=>(f.2 c ?_).trans q) (λk q=>q) λk k q=>q;rintro rfl
 simp_all
def T5(r:gd T b H c)(d:b[n]?=SY a)(e:Ja T b H y v)(h:Vb T E (Ja T) b H (Pg (Y n) [y] c) Q):CN (ϙ a) [v] H Q:=
 fM E b H c _ [y] (ϙ a) [v] Q r (by rw[Ja];exact⟨a,rfl,d⟩) (Db.cons e Db.nil) h
def VG{m m'}{k:b->M c}(h:m a=m' a):Ic m k a=Ic m' k a:=by unfold Ic;rw[h]
theorem rO{m:M b}{k}{l:c->M d}:Ic (Ic m k) l=Ic m λa=>Ic (k a) l:=by
 funext e;unfold Ic;cases m e<;>rfl
def oz(x y:D):M D:=λa=>match wf a x,wf a y with
 |some xs,SY b=>if xs.length+b.length<=Uf then U (ύ$ xs++b) a else ϗ
 |_,_=>ϗ
def lh(x y:D):M D:=match x,y with
 | Z i,Z j=>ret (Z$ i+j)
 | ϒ xs,ϒ c=>if xs.length+c.length<=Uf then ret (ϒ$ xs++c)else Ib
 | ϐ a,ϐ b=>if a.length+b.length<=100000 then ret (ϐ$ a++b)else Ib
 |x,y=>oz x y
def U6(h:n<=100000):n<=sizeLine:=zb h ⋯
section
variable{a b c:Na}{fa fb fc:Ev->M D}{pos:Vd}
def t3{c}{t b}{l:dN}(v:Bt s.heap t (#[]:Array Value))(q:Bt s.heap b l.toArray)(p:Q (Xb b) s):wpAny (model c w) A (Nd .Add (Xb t)$ Xb b) Q F s:=by
 obtain⟨⟨m,o,j,y⟩,k,r,n,u⟩:=id v;obtain⟨⟨i,e,d,h⟩,a,f,x,g⟩:=id q;subst r u f g;exact Mu ⟨_,k,rfl⟩ ⟨_,a,rfl⟩ Bo js Jh oh (eh _ _)
  (tuple_addW0 t b #[] l.toArray n x o e y h rfl) ⟨k,a,p⟩
def JR{b}{st}(I:gb X b st H s)(C:yd v i)(B:yd u h)(r:gd T d H e)(t:Ja T d H x v)(z:Ja T d H y u)(a:Vb T E (Ja T) d H (oz x y e) Q) :
  wpAny (model X.prog X.w) X.A (Nd .Add i h) (EP X b st Q) X.xe s:=by
 unfold oz at a;cases c:wf e x with
 |none=>rw[c]at a;exact a.elim
 |some xs=>
  cases f:wf e y with
  |none=>rw[c,f]at a;exact a.elim
  |some J=>
   rw[c,f]at a;dsimp only at a;by_cases g:xs.length+J.length<=Uf
   ·rw[na g]at a;obtain⟨p,F,rfl,m,j⟩:=r.ls t c;obtain⟨q,G,rfl,n,k⟩:=r.ls z f;exact sP b s st H _ _ i h Q I C B ⟨p,q,F,G,rfl,rfl,m,n,by rw[<-j.length,<-k.length];exact zy g,λl o=>MG a r (Db.append j k) o⟩
   ·rw[ya g]at a;exact a.elim
def YW(S:T.K=X.K):Dg X (Nd .Add)$ rD T lh:=by
 rintro d s st H v u z w Q I m k ⟨E,W,ϋ,x,y,r,g,h,c⟩;cases x with
 |int i=>
  cases y with
  |int j=>exact Ľ d s st H v u z w Q I m k ⟨i,j,tq g,tq h,Vb.here c r (by rw[Ja])⟩
  |_=>trivial
 |str a=>
  cases y with
  |str b=>
   unfold lh at c;dsimp only at c;by_cases f:a.length+b.length<=100000
   ·rw[na f]at c;exact ÿ d s st H v u z w Q I m k ⟨a,b,by simpa [Ja]using g,by simpa [Ja]using h,U6 f,Vb.here c r (by rw[Ja])⟩
   ·rw[ya f]at c;exact c.elim
  |_=>exact JR I m k r g h c
 |nb xs=>
  cases y with
  |nb D=>
   unfold lh at c;dsimp only at c;by_cases f:xs.length+D.length<=Uf
   ·rw[na f]at c;have G:=g;have J:=h;obtain⟨p,P,rfl,A,o⟩:=g;obtain⟨q,R,rfl,B,t⟩:=h;cases P with
    |nil=>
     have n:xs=[]:=by have:=o.length;simpa using this
     subst n;cases m;cases k;obtain⟨L,M,N,_⟩:=L2.gb.tuple I (Kg.of A);obtain⟨C,ό,O,_⟩:=L2.gb.tuple I (Kg.of B);cases M;exact t3 N O ⟨ϙ q,H,I,rfl,Vb.here c r ⋯⟩
    |cons v0 V=>
     refine Ļ d s st H _ _ z w Q I m k ⟨p,q,_,R,rfl,rfl,Kg.of A,Kg.of B,by simp,?_,λe=>?_,λe l F=>?_⟩
     ·rw[<-o.length,<-t.length];exact zy f
     ·subst e;have n:D=[]:=by have:=t.length;simpa using this
      subst n;exact Vb.here c r ⋯
     ·exact AB c r (Db.append o t) F
   ·rw[ya f]at c;exact c.elim
  |_=>trivial
 |_=>exact JR I m k r g h c
noncomputable def FN(a:D->D->M D)(c:M D)(y:D):D->M D:=my$ kj (Ic c$ a y)$ ret$ ϓ ŝ
def WK(o a:D->D->M D)(c:M D)(x y:D):M D:=Ic (o x y)$ FN a c y
def mK(o a:D->D->M D)(b c:M D)(x:D):M D:=Ic b$ WK o a c x
def kJ(o e:D->D->M D)(a b c:Ev->M D):Ev->M D:=λd=>Ic (a d)$ mK o e (b d)$ c d
def uX{r K}(ϋ:Dg X (yb j) r)(hs:mj T r o)(g:Dg X (yb d) K)(i:mj T K G)(S:FE T X a fa)(ό:FE T X b fb)(V:FE T X c fc)
  (W:Ct [j,d] [b,c]=ŝ:=by with_unfolding_all rfl):FE T X (.Compare a [j,d] [b,c] pos)$ kJ o G fa fb fc:=by
 intro e s st H Q I h;refine p8 ϋ g S ό V W e s st H Q I ?_;obtain⟨μ,ρ,σ,f,hr,ϊ⟩:=h;refine⟨μ,ρ,σ,f,hr,ϊ.bind λx q l v H1 D C r1 q1 p1=>⟨l,ρ,q,f.mono C,r1,p1.bind λy t m w N D E r2 J p2=>(hs _ m N t x y v w _ r2 (Ja.mono E _ _ q1) J$ p2.bind λz A n u H3 D F L q3 p3=>?_)⟩⟩;obtain⟨k,rfl,R,p4⟩:=gF q3 p3;refine⟨k,R,?_⟩;cases k with
 |true=>
  exact⟨n,ρ,A,((f.mono C).mono E).mono F,L,p4.bind λz B p u5 O D P r5 q5 p5=>i _ p O B y z w u5 Q r5 (Ja.mono P _ _$ Ja.mono F _ _ J) q5 p5⟩
 |false=>unfold kj at p4;rw[ya qb]at p4 ⊢;exact Vb.here p4 L (by rw[Ja])
def Hn(a:Gd k A):A.units+9<cLine:=by have:=a.un;lia
end
def kt(K:ϖ)(d:Str->Option Value)(x:Str)(e:Stmt)(c:ac):Prop:=
 ∃ f b,d x=SY (Xb f)/\iJ K x x e f b/\∀ a:dN,a.length=c.length->bindArgs b ⟨a,[]⟩=pure (c.zip a)
def cj(T:Tb)(P:Aa)(w:Ta)(d:Str->Option Value)(a:Heap)(k:Nat)(x:Str)(ps:ac)(e:i'->M D):Prop:=
 ∃ f c,d x=SY (Xb f)/\Ϸ T.K (Xb f)=U2/\(∀ b:dN,b.length=ps.length->bindArgs c ⟨b,[]⟩=pure (ps.zip b))/\nh P w T.K d a (Ol P w) k f c ps (Wn T ps.length e)
section
def ew(h:cj T X.prog X.w X.mg X.base k x ps g)(m:T.K=X.K)(t:Gd k X.A)(r:Gl X x)
  (n:FA T X (e::a) i) (c: ~~~((x == ("__debug__" : Str))=ŝ)) (q:(qa (e::a) X.env=(ŝ,Mb e X.env)::qa a X.env)⁻¹) (d:((Zb b$ qa a X.env).any (·.1)=ŝ)⁻¹) :
  FE T X (ϟ (ϛ x p) (e::a) [] b)$ Bf ps.length g [] i:=by
 obtain⟨f,u,s,l,o,j⟩:=h;rw[m]at l j;exact zS j t r s l (.all o) Ϣ (λv v=>Db.nil) n c q d
variable{P:Aa}{w:Ta}{K:ϖ}{mg:Str->Option Value}{base:Heap}{ca:Nat->Addr}{tx:Tx}
def GF{st}(h:kt K mg x st ps)(S:Fc N ps$ Gf st)
  (i:∀ f a A b s H E,Gd k (A.deeper$ fg x (Gf st) s.heap.objs.size f a)->Ul ⟨K,ca,tx⟩ (yp (Ol P w) P w K mg base N x (Gf st) f a A b s H E) (Sj st) g) :
  cj ⟨K,ca,tx⟩ P w mg base (k+1) x ps$ ni N.length g:=by
 obtain⟨f,n,j,F,c⟩:=h;obtain⟨o,p,kV,e,q,m,a,ct,l,rfl,lk,d⟩:=F.ex;exact⟨f,_,j,F.kp,c,dC lk d S$ i f a⟩
def cj.ud{k}{x}{ps}{a}(h:cj T P w mg base k x ps a):cj T P w mg base k x ps (λds=>Lake.ud$ a ds):=by
 obtain⟨f,b,c,d,e,g⟩:=h;exact⟨f,b,c,d,e,jN g⟩
def rK{st}{kV d g b ct}(X:K.In h)(G:h.Ns mainGlobals mg)
  (m:∀ kV d g e b ct j,j.length=ps.length->bindArgs (ϭ x x (Vl st) (Sj st) (Gf st) rc kV d g e b ct) ⟨j,[]⟩=pure (ps.zip j))
  (a:W.nsIn K mainGlobals x=SY (SY$ Xb f)) (l:K.lookup f=SY ⟨n,o,.func$ ϭ x x (Vl st) (Sj st) (Gf st) rc kV d g e b ct,i⟩)
  (c:ϻ K b x=U2) (k:Ϸ K (Xb f)=U2):kt K mg x st ps:=
 ⟨f,_,Es X G a,xP l c k,m kV d g e b ct⟩
def U5(X:K.In h)(G:h.Ns mainGlobals mg)(a:W.nsIn K mainGlobals x=SY (SY$ Tl i t)):∃ t,mg x=SY (Tl i t):=⟨t,Es X G a⟩
end
def WL(T:Tb)(P:Aa)(w:Ta)(d:Str->Option Value)(k:Nat)(x:Str)(ps:ac)(e:i'->M D):Prop:=
 ∃ f c,d x=SY (Xb f)/\(∀ b:dN,b.length=ps.length->bindArgs c ⟨b,[]⟩=pure (ps.zip b))/\∀ a:Heap,nh P w T.K d a (Ol P w) k f c ps (Wn T ps.length e)
def S7{K}{st}(h:kt K i x st ps)(S:Fc N ps$ Gf st)
  (m:∀ a f b A c s H E,Gd k (A.deeper$ fg x (Gf st) s.heap.objs.size f b)->Ul ⟨K,j,tx⟩ (yp (Ol P w) P w K i a N x (Gf st) f b A c s H E) (Sj st) g) :
  WL ⟨K,j,tx⟩ P w i (k+1) x ps$ ni N.length g:=by
 obtain⟨f,q,n,F,d⟩:=h;obtain⟨r,t,kV,l,u,p,b,ct,o,rfl,lk,e⟩:=F.ex;exact⟨f,_,n,d,λa=>dC lk e S$ m a f b⟩
set_option tactic.hygienic true in
def A7{K:ϖ}(k:K.In h)(j:W.excIn K C c a=U2) :
  ∃ f N x y n i z e m d o r s t u v A,h.get? C=SY (excClassObj x y C N n f i z e m d o r s t u v a)/\h.Ns N A/\A "__init__" = ń/\OwnTail h c f:=by
 unfold W.excIn at j;rcases lk:K.lookup C with _|⟨g,o,M,p⟩<;>rw[lk]at j;·cases j
 cases g<;>try cases j
 next q=>
 by_cases w:q="type"
 ·subst w;cases M<;>try cases j
  next b=>
  obtain⟨x,n,J,L,y,I,z,e,m,d,H⟩:=b;obtain⟨l⟩:=p;rcases J with _|⟨g,f⟩;·cases j
  cases g<;>try cases j
  next B=>
  rcases l with _|⟨r,_|⟨s,_|⟨t,_|⟨u,_|⟨g,_|⟨v,_|_⟩⟩⟩⟩⟩⟩<;>try cases j
  ·rcases g with _|g;·cases j
   cases g<;>cases j
  ·rcases g with _|g;·cases j
   cases g<;>try cases j
   have j:(B==C&&_==a&& !H&&W.tailIn K c f&&W.nsOkIn K L&&W.nsIn K L "__init__"==SY ń)=U2:=j;simp only[Bool.and_eq_true,beq_iff_eq,Bool.not_eq_true']at j;obtain⟨⟨⟨⟨⟨rfl,rfl⟩,rfl⟩,G⟩,c5⟩,c6⟩:=j;exact⟨f,L,x,y,n,I,z,e,m,d,o,r,s,t,u,v,_,k _ _ lk,.of_isNs$ W.isNs_of_in k c5,W.nsMap_none_of_in k c5 c6,W.tail_of_in k G⟩
  ·rcases g with _|g;·cases j
   cases g<;>cases j
 ·unfold W.excIn.match_6 at j;have z:(dite (q="type") _ λ_=>ŝ)=U2:=j;rw[dif_neg w]at z;cases z
def CG(c:Nat)(b:Ev)(a:i'):M Fl:=if a.length<=Uf then ret (.xc b ⟨c⟩)else Ib
def LM(c:Nat)(b:Ev->M (i')):Ev->M Fl:=λa=>xs a (b a)$ CG c a
def ç c(J:ExcBaseFacts B b d j)(hK:T.K=X.K)(ό:W.excIn T.K (T.ca c) j b=U2)(hm:X.mg x=SY (Xb$ T.ca c))
  (hg:Gl X x) (hc:X.Lb=U2) (ha:FA T X (e::i) R) (w: ~~~((x == ("__debug__" : Str))=ŝ)) (S:(qa (e::i) X.env=(ŝ,Mb e X.env)::qa i X.env)⁻¹)
  (A:((Zb a$ qa i X.env).any (·.1)=ŝ)⁻¹) (y:(ZD c=ń)⁻¹):FS T X (.Raise (SY$ ϟ (ϛ x np) (e::i) [] a) ń C)$ LM c R:=by
 intro o s E H D I hw;obtain⟨μ,ρ,σ,v,hr,hp⟩:=hw;rw[hK]at ό;obtain⟨O,N,nm,qn,P,f,sn,p,L,k,Q,V,ϋ,ϊ,k3,k5,mN,hC,hN,z,tl⟩:=A7 I.ok.mod.fw ό;have m:(Zb a$ qa (e::i) X.env).any (·.1)=ŝ:=by
  rw[S];show (ŝ || (Zb a _).any (·.1))=ŝ;rw[A];rfl
 refine wpAny_Raise_call_subT (nm:=nm) (q:=qn) (N:=N) (bs:=P) (bm:=O) (hdct:=f) (sn:=sn) (sub:=p) (ab:=L) (col:=k) (dd:=Q) (k0:=V) (k1:=ϋ) (k2:=ϊ) (k3:=k3) (k5:=k5) J (tl.hasType J.hasBase) (I.ok.hd hc) m z$ pA I hg hm ⟨rfl,?_⟩ w;have h:=ha a o s E H (λG u=>G.length<=Uf/\QB X E _ ń u) I ⟨μ,ρ,σ,v,hr,hp.xs v λds a1 a0 G u M e1 r1 q1 n=>by
  unfold CG at n;by_cases l:ds.length<=Uf
  ·rw[na l]at n;exact⟨by rw[<-q1.length];exact l,Vb.here (g:=Mp.xc E _ ń) n r1 ⟨v.mono e1,rfl,y.symm⟩⟩
  ·rw[ya l]at n;exact n.elim⟩
 rw[S]at h ⊢;refine Ni (pd h λus s1 zZ=>?_);obtain⟨G,u,t,r,l,F⟩:=zZ;exact ⟨rfl,by rw[<-r.length];exact zy l,t.bk _ _ hC,hN.keeps t.bk,tl.keeps t.bk,λh' ea hx=>F.made t hx⟩
set_option genInjectivity false in
structure Hd where
 t:Nat->Option Bool
 nm:Option Nat
 g:Ev->M Fl
noncomputable def Ζ(i:Nat):Fl->M Fl
 | Ϙ a=>ret (Ϙ$ a.set i ń)
 | .rt d=>ret (.rt d)
 | .bk a=>ret (.bk$ a.set i ń)
 | .ct a=>ret (.ct$ a.set i ń)
 | .xc _ _=>Ib
noncomputable def qH:Fl->M Fl
 | Ϙ a=>ret (Ϙ a)
 | .rt d=>ret (.rt d)
 | .bk a=>ret (.bk a)
 | .ct a=>ret (.ct a)
 | .xc _ _=>Ib
def hit(h:Hd)(ρ:Ev)(x:Xn):M Fl:=match h.nm with
 |none=>Ic (h.g ρ) qH
 |some i=>Ic (h.g$ ρ.set i$ SY$ .Bv x.cls) (Ζ i)
def Py(a:Ev)(x:Xn):List Hd->M Fl
 |[]=>Ib
 |h::r=>match h.t x.cls with
  |some U2=>hit h a x
  |some ŝ=>Py a x r
  |none=>Ib
def SH(b:List Hd):Fl->M Fl
 | .xc a x=>Py a x b
 | Ϙ a=>ret (Ϙ a)
 | .rt d=>ret (.rt d)
 | .bk a=>ret (.bk a)
 | .ct a=>ret (.ct a)
def NL(g:Ev->M Fl)(a:List Hd):Ev->M Fl:=λρ=>Ic (g ρ)$ SH a
noncomputable abbrev Cx.SE(X:Cx)(e:Value):Cx:={ X with A:=X.A.mark (SY e),Lb:=ŝ,xe:=λa a=>False }
noncomputable abbrev Cx.XI(X:Cx)(a:List$ Addr × Obj)(xe:Value->Shared->Prop):Cx:={ X with xe:=xe,pn:=X.pn++a }
section
variable{pins:List$ Addr × Obj}{st:St}{H:Hp}{s:Shared}{e:Value}{xe:Value->Shared->Prop}
def P3(I:gb X pins st H s):gb (Cx.XI X pins xe) [] st H s:=
 ⟨⟨I.ok.mod,I.ok.kind,I.ok.glob,I.ok.blt,I.ok.above,I.ok.inj,I.ok.has,I.ok.VB,I.ok.hd,I.ok.frames,I.ok.Ap,I.ok.wF,I.ok.bs,I.ok.su,I.ok.Er,I.ok.Ur,I.ok.dk,I.ok.Sy⟩,I.os,I.bare,I.base,I.loc,I.cell,I.free,I.Gg,λp a=>I.pin p ⋯,I.Kc,I.len⟩
def lE(I:gb (Cx.XI X pins xe) b st H s):gb X pins st H s:=
 ⟨⟨I.ok.mod,I.ok.kind,I.ok.glob,I.ok.blt,I.ok.above,I.ok.inj,I.ok.has,I.ok.VB,I.ok.hd,I.ok.frames,I.ok.Ap,I.ok.wF,I.ok.bs,I.ok.su,I.ok.Er,I.ok.Ur,I.ok.dk,I.ok.Sy⟩,I.os,I.bare,I.base,I.loc,I.cell,I.free,I.Gg,λp a=>I.pin p$ Wa _ a,I.Kc,I.len⟩
def sN(I:gb X pins st H s):gb (Cx.SE X e) pins st H s:=
 ⟨⟨I.ok.mod,I.ok.kind,I.ok.glob,I.ok.blt,I.ok.above,I.ok.inj,I.ok.has,I.ok.VB,λz=>(by cases z),I.ok.frames,I.ok.Ap,I.ok.wF,I.ok.bs,I.ok.su,I.ok.Er,I.ok.Ur,I.ok.dk,I.ok.Sy⟩,I.os,I.bare,I.base,I.loc,I.cell,I.free,I.Gg,I.pin,I.Kc,I.len⟩
def XG(ok:X.Ok)(I:gb (Cx.SE X e) pins st H s):gb X pins st H s:=
 ⟨ok,I.os,I.bare,I.base,I.loc,I.cell,I.free,I.Gg,I.pin,I.Kc,I.len⟩
def t4{D}(h:SP (Cx.XI X pins xe) [] D f c):SP X pins D f c:=by
 cases f with
 |next=>obtain⟨a,b,I,q⟩:=h;exact⟨a,b,lE I,q⟩
 |brk=>obtain⟨a,b,I,q⟩:=h;exact⟨a,b,lE I,q⟩
 |cont=>obtain⟨a,b,I,q⟩:=h;exact⟨a,b,lE I,q⟩
 |ret u=>obtain⟨v,a,b,I,r,q⟩:=h;exact⟨v,a,b,lE I,r,q⟩
def F2(ok:X.Ok){D}(h:SP (Cx.SE X e) pins D f c):SP X pins D f c:=by
 cases f with
 |next=>obtain⟨a,b,I,q⟩:=h;exact⟨a,b,XG ok I,q⟩
 |brk=>obtain⟨a,b,I,q⟩:=h;exact⟨a,b,XG ok I,q⟩
 |cont=>obtain⟨a,b,I,q⟩:=h;exact⟨a,b,XG ok I,q⟩
 |ret u=>obtain⟨v,a,b,I,r,q⟩:=h;exact⟨v,a,b,XG ok I,r,q⟩
end
def Qs(X:Cx)(a:List$ Addr × Obj)(f:St)(H:Hp)(s:Shared)(d:Addr)(b:Value)(e:Option Nat):Prop:=∃ c s0,gb X a f c s0/\Ez X.prog X.w X.stack c s0 b e H (Xb d) s
section
variable{pins:List$ Addr × Obj}{st:St}{H:Hp}{s:Shared}{ea:Addr}{cls:Value}{fd:Option Nat}
def Qs.inv(L:Qs X pins st H s ea cls fd):gb X pins st H s:=by
 obtain⟨a,s0,I,F⟩:=L;exact L2.gb.Lu I F.os F.un F.Kc F.bare λb z=>absurd z ⋯
set_option tactic.hygienic true in
def Qs.next(L:Qs X pins st H s ea cls fd){M}(h:∀ l,Qs X pins st H l ea cls fd->Q () l):wpAny M A (Ho (Xb ea) ń) Q E s:=by
 obtain⟨m,s0,I,F⟩:=L;obtain⟨p,n,B,e,g,r,b,k,j,i,q⟩:=F.ex;cases e;refine TL g λu a f c=>h _ ?_;obtain⟨t,d⟩:=FH F j k i g.1 a.1 f (WH I);exact⟨m,s0,I,⟨ea,n,B,rfl,a,r,b,k,j,i,q.next c (let ⟨o,e,_⟩:=a.there;⟨o,e⟩)⟩,F.os,F.bare,t,d⟩
def Qs.obj(L:Qs X pins st H s ea cls fd):H ea=ń/\(∃ o,s.heap.get? ea=SY o/\o.cls=cls)/\∃ s0:Shared,s0.heap.get? ea=ń/\∃ b,gb X pins st b s0:=by
 obtain⟨b,s0,I,F⟩:=L;obtain⟨c,g,B,e,d,f,a,k,i,h,j⟩:=F.ex;cases e;exact⟨f,d.there,s0,a,b,I⟩
set_option tactic.hygienic true in
def D5(I:gb X pins st H s)(m:X.stack=X.env::X.outer)(C:X.env.frame=SY X.env.locals)(F:Ez X.prog X.w X.stack H s cls fd r e n){M}{Q:Value->Shared->Prop}
  (h:∀ ea d,e=Xb ea->Qs X pins st r d ea cls fd->Q e d):wpAny M X.A (Ch e X.env) (λ_ s2=>wpAny M X.A (Ho e ń) (λ_ G=>Q e G) E s2) E n:=by
 obtain⟨ea,f,B,rfl,t,D,c,x,v,u,z⟩:=F.ex;have j:Jo B (X.env::X.outer) ea cls f n.heap:=by rw[<-m];exact t
 refine IR (by rw[<-m];exact I.ok.frames) C j λK b p g=>(TL (KU b) λy k q i=>h ea _ rfl ?_)
 have a:Jo B X.stack ea cls f y:=by rw[m];exact k
 obtain⟨J,l⟩:=FH F v x u t.1 a.1 (p.trans q) (WH I);exact⟨H,s,I,⟨ea,f,B,rfl,a,D,c,x,v,u,z.next (g.trans i) (let ⟨o,e,_⟩:=a.there;⟨o,e⟩)⟩,F.os,F.bare,J,l⟩
end
def Jo.keep(x:Jo B l e a i h)(k:∀ b o,h.get? b=SY o->j.get? b=SY o):Jo B l e a i j:=by
 obtain⟨m,n,p,r⟩:=x;refine⟨λb o q=>k b o$ m b o q,n,p.of_keeps λb o q E=>⟨o,k b o q,rfl⟩,?_⟩;rcases r with⟨s,g,ws,T,A,C,d,w,y,t,z,f,v,c,u⟩|⟨g,D,d,q⟩
 ·exact ϑ ⟨s,g,ws,T,A,C,k _ _ d,w,y,t,z,f,k _ _ v,c,u⟩
 ·exact ϕ ⟨g,D,k _ _ d,q⟩
def Qs.keep{st}(L:Qs X a st H s g c i)(k:∀ b o,s.heap.get? b=SY o->h'.get? b=SY o):Qs X a st H { s with heap:=h' } g c i:=by
 obtain⟨r,s0,I,F⟩:=L;obtain⟨v,t,B,e,j,x,f,p,m,l,w⟩:=F.ex;cases e;have d:=j.keep k;obtain⟨D,h⟩:=FH F m p l j.1 d.1 (FC k) (WH I);exact⟨r,s0,I,⟨g,t,B,rfl,d,x,f,p,m,l,λn q=>let ⟨u,y,z,A,C⟩:=w n q;⟨u,y,z,k _ _ A,C⟩⟩,F.os,F.bare,D,h⟩
def JK(X:Cx)(x:Str)(a:Value):Prop:=X.mg x=SY a\/(X.mg x=ń/\bootBuiltins x=SY a/\x ≠ "__name__")
inductive HE(T:Tb)(X:Cx):List Mg->List Hd->Prop where
 |nil {r:List Mg}:HE T X r []
 |Uy {x y:Str} {np nq tp pos:Vd} {k:Nat} {cv cw:Value} {b₀:Stmt} {suite:List Stmt} {t:Nat->Option Bool} {g:Ev->M Fl} {r:List Mg} {hs:List Hd} (hg:Gl X x) (hd:(x == ("__debug__" : Str))=ŝ) (hm:JK X x cv) (hg':Gl X y) (hd':(y == ("__debug__" : Str))=ŝ) (hm':JK X y cw) (ht:∀ c b,t c=SY b->W.exmAny X.K (Xb (T.ca c)) [cv,cw]=SY b)
   (hb:∀ e,Ul T (Cx.SE X e) (b₀::suite) g) (hr:HE T X r hs):HE T X (.ExceptHandler (SY (ϰ [ϛ x np,ϛ y nq] k tp)) ń (b₀::suite) pos::r) (⟨t,ń,g⟩::hs)
def zQ{st}(I:gb X b st H s)(f:Gl X x)(e:(x == ("__debug__" : Str))=ŝ)(a:JK X x d)(h:Q d s):wpAny (model X.prog X.w) X.A (Mb (ϛ x c) X.env) Q E s:=by
 rcases a with a|⟨a,i,g⟩
 ·exact pA I f a h e
 ·exact ax I f a i h g e
def Á{D}(b:Vb T EN (aq T) j H (o.bind qH)$ iq X D):Vb T EN (aq T) j H o$ iq (Cx.SE X e) D:=by
 cases o with
 |Ib=>exact b
 |ex x σ=>exact b
 |ok k σ=>
  intro a g d f h c;cases k with
  |nx i=>cases g with
   |nx st=>exact b a _ d f h c
   |_=>exact c.elim
  |rt i=>cases g with
   |rt st=>exact b a _ d f h c
   |_=>exact c.elim
  |bk i=>cases g with
   |bk st=>exact b a _ d f h c
   |_=>trivial
  |ct i=>cases g with
   |ct st=>exact b a _ d f h c
   |_=>trivial
  |xc i x=>trivial
set_option tactic.hygienic true in
def π{D}(h:HE T X d v)(N:Gh T j H ρ B)(S:gd T j H E)(c:Vb T EN (aq T) j H (Py ρ x v E)$ iq X D) :
  ∀ s,Qs X a B H s e (T.cv x) (ZD x.cls)->wpAny (model X.prog X.w) X.A (handleBy (Xb e) X.env d) (SP X a D) X.xe s:=by
 induction h with
 |nil=>exact c.elim
 |@Uy y z np ϊ tp pos k K M F C t g r v Q hd hm n m p ό O u V=>
  intro s L;apply b_;intro z_;have I:=L.inv;obtain⟨_,⟨o,R,P⟩,_⟩:=L.obj;apply z_;refine wpAny_handleBy_cons (codeAny_handlers_test$ wpAny_Tuple$ UF$ zQ (sN I) Q hd hm$ UF$ zQ (sN I) n m p$ wpAny_items_nil ⟨by size_fits,?_⟩) (by intro q;cases q);unfold Py at c;dsimp only at c;have i:∀ q o,s.heap.get? q=SY o->(s.heap.push { cls:=Wh "tuple",data:=Ϧ [K,M].toArray }).get? q=SY o:=λ_ _ z=>da _ z;cases l:t x.cls with
  |none=>rw[l]at c;exact c.elim
  |some b=>
   rw[l]at c;have J:W.Looks (model X.prog X.w) s.heap (ev$ Xb e)$ T.cv x:=by rw[<-P];exact(W.Looks.ld R).andThen .now
   refine(W.exm_tup2 (I.Li.keeps i) (J.keeps i) (Ea s.heap rfl)$ ό x.cls b l).here ?_;cases b with
   |false=>exact V c _$ L.keep i
   |true=>
    refine codeAny_handlers_suite ((L.keep i).next λϋ G=>?_);exact nc (O (Xb e) a ϋ B H D (sN G.inv) ⟨j,ρ,E,N,S,Á c⟩) (λf s2 q=>F2 I.ok q) λ_ _ z=>z.elim
def qZ(y:X.stack=X.env::X.outer)(W:X.env.frame=SY X.env.locals)
  (V:∀ b K,Eo (model X.prog X.w) X.A X.env K->Ul T (Cx.XI X b K) d g) (ϋ:HE T X (h::k) J):FS T X (.Try d (h::k) [] [] B)$ NL g J:=by
 rintro b s n H D I ⟨N,ρ,E,ό,hr,ϊ⟩;refine wpAny_Try_except (nc (V b _ zaD [] s n H D (P3 I)
  ⟨N,ρ,E,ό,hr,?_⟩) (λf s1 q=>?_) λM M z=>z)
 ·have a:Vb T EN _ N H ((g ρ E).bind _) _:=ϊ;cases t:g ρ E with
  |Ib=>rw[t]at a;exact a
  |ex x G=>rw[t]at a;exact a
  |ok S G=>
   rw[t]at a;intro c j p P m i;have l:=a.mono P;cases S with
   |nx ρ=>cases j with
    |nx n=>exact l c _ p (Ϯ _ _) m i
    |_=>exact i.elim
   |rt ρ=>cases j with
    |rt n=>exact l c _ p (Ϯ _ _) m i
    |_=>exact i.elim
   |bk ρ=>cases j with
    |bk n=>exact l c _ p (Ϯ _ _) m i
    |_=>trivial
   |ct ρ=>cases j with
    |ct n=>exact l c _ p (Ϯ _ _) m i
    |_=>trivial
   |xc a1 x=>cases j with
    |xc a0 cls fd=>
     obtain⟨v,rfl,rfl⟩:=i;exact⟨λp0 H0 s0 e s' O F=>(D5 (lE O) y W F (Q:=λe o=>wpAny _ X.A _ _ X.xe o) λea C R L=>by subst R;exact π ϋ v m l C L)⟩
    |_=>trivial
 ·have r:=t4 q;cases f with
  |next=>exact nj r
  |brk=>exact r
  |cont=>exact r
  |ret u=>exact r
set_option tactic.hygienic true in
def o7(h:FS T X r$ de i f):FS T X r$ de i$ Sh f:=by
 rintro p s st H D I ⟨t,ρ,c,E,u,P⟩;refine h p s st H D I ⟨t,ρ,c,E,u,?_⟩;have a:Vb T EN _ t H (xs ρ (ud _) _ c) _:=P;show Vb T EN _ t H (xs ρ _ _ c) _;unfold xs ud at a;unfold xs;cases e:f ρ c with
 |Ib=>rw[e]at a;exact a
 |ex x g=>
  rw[e]at a;unfold lg at a;dsimp only at a ⊢;by_cases k:g.take c.length=c
  ·rw[na k]at a;intro K B y m w q;cases B with
   |xc G R O=>
    obtain⟨F,z⟩:=gd.down u w m k;obtain⟨N,Q⟩:=q;refine a t _ y z F ⟨⟨N.1,λj d b=>?_⟩,Q⟩;obtain⟨v,n,o⟩:=N.2 j d b;obtain⟨J,_,C⟩:=E.2 j d b;exact⟨v,n,Ja.down m.pre d J v C o⟩
   |_=>exact q.elim
  ·rw[ya k]at a;exact a.elim
 |ok d g=>
  rw[e]at a;unfold lg at a;dsimp only at a ⊢;by_cases k:g.take c.length=c
  ·rw[na k]at a;cases A:fz c.length g 6 d with
   |none=>rw[A]at a;exact a.elim
   |some d'=>
    rw[A]at a;intro K B y m w q;cases B with
    |nx G=>
     obtain⟨F,z⟩:=gd.down u w m k;have l:=q;refine a t _ y z F ⟨by simpa using l.1,λj x b=>?_⟩;rw[Jf]at b;by_cases L:i=j
     ·subst L;rw[na rfl]at b;split at b
      ·rename_i S
       cases b;obtain⟨v,n,o⟩:=l.2 i d ⋯;exact⟨v,n,vV m.pre w 6 d d' v (by rw[u.len];exact A) o⟩
      ·cases b
     ·rw[ya L]at b;obtain⟨v,n,o⟩:=l.2 j x ⋯;obtain⟨J,_,C⟩:=E.2 j x b;exact⟨v,n,Ja.down m.pre x J v C o⟩
    |_=>exact q.elim
  ·rw[ya k]at a;exact a.elim
noncomputable def eB:i'->Option (List Bool)
 |[]=>SY []
 | ϓ b::r=>(eB r).map (b::·)
 |_::_=>ń
noncomputable def yes:i'->Option (em)
 |[]=>SY []
 | Z b::r=>(yes r).map (b::·)
 |_::_=>ń
theorem oV{T:Tb}{i:b'}{H:Hp}:∀ {c:i'} {a:h8} {bs:List Bool},Db T i H c a->eB c=SY bs->a=bs.map Ϩ
 |[],a,bs,r,h=>by cases h;rw[Db]at r;exact r
 |d::c,a,bs,r,h=>by
  obtain⟨v,w,rfl,e,g⟩:=r;cases d with
  |bl b=>
   obtain⟨j,f,rfl⟩:=Ra.mp h;rw[Ja]at e;subst e;rw[oV g f];rfl
  |_=>cases h
theorem fF{T:Tb}{i:b'}{H:Hp}:∀ {c:i'} {a:h8} {bs:em},Db T i H c a->yes c=SY bs->a=bs.map Ϥ
 |[],a,bs,r,h=>by cases h;rw[Db]at r;exact r
 |d::c,a,bs,r,h=>by
  obtain⟨v,w,rfl,e,g⟩:=r;cases d with
  |int b=>
   obtain⟨j,f,rfl⟩:=Ra.mp h;rw[Ja]at e;subst e;rw[fF g f];rfl
  |_=>cases h
def eH(xs:i'):M D:=λa=>match xs with
 |[x]=>(match (Nh a x).bind eB with
  |some bs=>U (ϓ$ bs.all id) a
  |none=>ϗ)
 |_=>ϗ
def Bz(xs:i'):M D:=λa=>match xs with
 |[x]=>(match (Nh a x).bind yes with
  |some bs=>U (Z bs.sum) a
  |none=>ϗ)
 |_=>ϗ
def XU(K:ϖ)(g:List Bool->Bool):h8->Hp->VK->Prop:=λxs H Q=>∃ p a,xs=[ϙ p]/\(Me K H p (a.map Ϩ)\/Kg K H p (a.map Ϩ))/\Q (Ϩ$ g a) H
def KR(K:ϖ):h8->Hp->VK->Prop:=λxs H Q=>∃ (p:Addr) (bs:em),xs=[ϙ p]/\(Me K H p (bs.map Ϥ)\/Kg K H p (bs.map Ϥ))/\Q (Ϥ bs.sum) H
theorem mU:∀ {a:List Bool} {us:dN},ke (a.map Ϩ) us->us=a.map Lj
 |[],us,h=>by cases h;rfl
 |b::a,us,h=>by
  cases h with
  |cons r t=>cases r;rw[mU t];rfl
theorem NT{c:Type}(g:c->Bool)(d:c):∀ (a:List c),(List.range a.length).all (λi=>g$ a.getD i d)=a.all g
 |[]=>rfl
 |b::a=>by
  rw[Ab,dq,Je,EC,Je];rw[<-NT g d a];congr 1
def ň(d:List Bool):TruthOf c w A (λi v=>(d.map Lj).toArray[i]?=SY v) (λi=>d.getD i ŝ):=by
 intro i v s Q E f g;simp only[Gi,Ca]at f;cases e:d[i]? with
 |none=>simp_all
 |some b=>
  rw[e]at f;cases f;have a:Q (d.getD i ŝ) s:=g;rw[Ln,e]at a;exact qc a
def iT{s:Shared}{a:Heap}(k:∀ b u,b ∉ [s.heap.objs.size]->(s.heap.push o).get? b=SY u->a.get? b=SY u):∀ b u,s.heap.get? b=SY u->a.get? b=SY u:=λb u e=>
 k b u (λz=>absurd (xa e) ⋯)$ da _ e
def eU{st}(q:X.A.handled=ń)(I:gb X d st H s)(g:Me X.K H p m\/Kg X.K H p m)
  (h:∀ a It n St s2,ke m a->Walks X.prog X.w X.A.in1 It n [It] a.toArray.size (λi v=>a.toArray[i]?=SY v) St->St 0 s2.heap->(∀ b∈n,b<s2.heap.objs.size)->
   (∀ h' l,(∀ b o,b ∉ [It]->s2.heap.get? b=SY o->h'.get? b=SY o)->gb X d st H { s2 with heap:=h',toks:=l })->Q (Xb It) s2):wpAny (model X.prog X.w) X.A.in1 (pyIter$ Xb p) Q E s:=by
 rcases g with g|g
 ·obtain⟨a,k,pl,r⟩:=I.list g;have c:p<s.heap.objs.size:=by obtain⟨_,e,_⟩:=pl.isList;exact xa e
  refine Zh pl.isList$ h a s.heap.objs.size [s.heap.objs.size,p] _ _ k (Kj (A:=X.A.in1) q _ p (za c) a.toArray) ⟨⟨_,Ea _ rfl,rfl,rfl⟩,pl.isList.push _⟩ (λb f=>?_) (λh' l j=>I.kept$ iT j);rw[Oc];simp at f;rcases f with rfl|rfl
  ·exact Qb _
  ·exact Rb c
 ·obtain⟨a,k,pl,r⟩:=I.tuple g;have c:=pl.lt;refine DA (pl)$ h a s.heap.objs.size [s.heap.objs.size,p] _ _ k (Walks.tuple (A:=X.A.in1) q _ p (za c) a.toArray) ⟨⟨_,Ea _ rfl,rfl,rfl⟩,vJ (pl) _⟩ (λb f=>?_) (λh' l j=>I.kept$ iT j);rw[Oc];simp at f;rcases f with rfl|rfl
  ·exact Qb _
  ·exact Rb c
def sY(f:X.Lb=U2):zo X (Ϟ "all") (XU X.K λa=>a.all id):=by
 rintro b s st H xs o Q I r ⟨p,a,rfl,h,q⟩;obtain⟨u,rfl,rfl⟩:=yr r;refine call_all_walk (eU (I.ok.hd f) I h λj It m St s2 k W d n e=>?_);have c:=mU k;subst c;refine⟨_,_,_,_,_,_,λi=>a.getD i ŝ,rfl,W,d,ň a,λh' l g=>⟨Ϩ _,H,e h' l g,?_,q⟩⟩;rw[Ua,Ha];exact vd Lj$ NT id ŝ a
theorem cV:∀ (a:em) (n:Nat),n<=a.length->preSum (λi=>a.getD i 0) n=(a.take n).sum
 |a,0,_=>by simp[preSum]
 |a,n+1,h=>by
  rw[preSum,cV a n ⋯,List.take_succ_eq_append_getElem ⋯,List.sum_append];simp[show n<a.length by lia]
def aW(n:X.Lb=U2):zo X (Ϟ "sum")$ KR X.K:=by
 rintro g s st H xs B Q I r ⟨p,a,rfl,y,q⟩;obtain⟨u,rfl,rfl⟩:=yr r;refine call_sum_walkG (eU (I.ok.hd n) I y λd It A St s2 h W k o m=>⟨_,_,_,_,_,_,λi=>a.getD i 0,rfl,W,k,o,λi v f=>?_,λh' z t' w=>⟨Ϥ a.sum,H,m h' z w,⟨t',?_⟩,q⟩⟩)
 ·simp at f;obtain⟨x,c,l⟩:=uG h f;rw[Ca]at c;cases e:a[i]? with
  |none=>simp_all
  |some b=>
   rw[e]at c;cases c;obtain⟨t,rfl⟩:=l
   simp_all
 ·have j:d.toArray.size=a.length:=by rw[Ua,<-h.length,Ha]
  rw[j,cV a _$ wa _,Md]
def TQ{g:i'->Option c}{a:c}(h:(Nh d x).bind g=SY a):∃ b,Nh d x=SY b/\g b=SY a:=rf.mp h
def G0(j:T.K=X.K):Hr T (XU X.K λa=>a.all id) eH:=by
 intro E o H m xs l Q r p h
 match xs with
 |[]=>trivial
 |[x]=>
  obtain⟨v,w,rfl,k,d⟩:=p;rw[Db]at d;subst d;unfold eH at h;cases e:(Nh m x).bind eB with
  |none=>simp only[e]at h;exact h.elim
  |some a=>
   simp only[e]at h;obtain⟨n,f,g⟩:=TQ e;obtain⟨b,l,rfl,i,c⟩:=Rz r k f;rw[j,oV i g]at c;exact⟨b,a,rfl,c,Vb.here h r (by rw[Ja])⟩
 |_::_::_=>exact h.elim
def pX(i:T.K=X.K):Hr T (KR X.K) Bz:=by
 intro E n H l xs k Q r p h
 match xs with
 |[]=>trivial
 |[x]=>
  obtain⟨v,w,rfl,j,c⟩:=p;rw[Db]at c;subst c;unfold Bz at h;cases e:(Nh l x).bind yes with
  |none=>simp[e]at h;exact h.elim
  |some bs=>
   simp[e]at h;obtain⟨m,d,f⟩:=TQ e;obtain⟨b,k,rfl,g,a⟩:=Rz r j d;rw[i,fF g f]at a;exact⟨b,bs,rfl,a,Vb.here h r (by rw[Ja])⟩
 |_::_::_=>trivial
noncomputable def Fm(a:em):em:=a.foldl KA []
def QJ a:Ef (λi=>a.getD i 0) a.length=Fm a:=by
 unfold Ef Fm;congr 1;apply ph;intro i;by_cases h:i<a.length<;>simp[h]
def kH(x:D):M D:=λa=>match (wf a x).bind yes with
 |some ns=>if ns.length<=Uf then U (Z (Fm ns).length) a else ϗ
 |none=>ϗ
def C5(K:ϖ):h8->Hp->VK->Prop:=λxs H Q=>∃ (p:Addr) (ns:em),xs=[ϙ p]/\Me K H p (ns.map Ϥ)/\ns.length<=Uf/\∀ l,H l=ń->Q (ϙ l) (Fb H l (.set (λk=>(Fm ns).any (·== k)) (Fm ns).length))
def AW(h:n<=Uf):n+1<scanBound:=Su (Nat.succ_le_succ h) ⋯
def GZ(i:X.Lb=U2):zo X (Wh "set")$ C5 X.K:=by
 rintro g s n H xs v Q I r ⟨p,f,rfl,l,k,q⟩;obtain⟨u,rfl,rfl⟩:=yr r;obtain⟨a,h,pl,m⟩:=I.list l;have c:a.length=f.length:=by rw[<-h.length,Ha]
 refine call_set_list (I.ok.hd i) pl.isList (VJ h) (by rw[Ua,c];exact AW k) λh' t d j=>?_;rw[show a.toArray.size=f.length by rw[Ua,c],QJ]at d;refine⟨ϙ s.heap.objs.size,_,I.laid (λb o e=>j b o (xa e) e) (wa _) ?_,rfl,q _$ I.Kc.fresh$ wa _⟩;exact d
def ο:zo X (Ϟ "len") (λxs H Q=>∃ p S n,xs=[ϙ p]/\H p=SY (.set S n)/\Q (Ϥ n) H):=by
 rintro a s st H xs w Q I r ⟨p,S,n,rfl,g,q⟩;apply b_;intro z_;obtain⟨u,rfl,h⟩:=yr r;cases h;obtain⟨o,j,i,t,b,c,d,k,l,m,e,f⟩:=(I.Kc p _ g)
 apply z_;have v:scanBound<=2 ^ 62:=by decide
 refine call_len_set b c d e ⋯ ⟨Ϥ n,H,I.tok _,⟨_,by rw[f]⟩,q⟩
def Z8(hK:T.K=X.K)(J:X.Lb=U2)(N:Gl X "len")(O:X.mg "len" = ń)(n:Gl X "set")(q:X.mg "set" = ń)(L:FE T X e f)
  (y:(qa [e] X.env=(ŝ,Mb e X.env)::qa [] X.env)⁻¹) (r:((Zb b$ qa [] X.env).any (·.1)=ŝ)⁻¹)
  (i:(qa [ϟ (ϛ "set" t) [e] [] b] X.env=(ŝ,Mb (ϟ (ϛ "set" t) [e] [] b) X.env)::qa [] X.env)⁻¹) (g:((Zb k$ qa [] X.env).any (·.1)=ŝ)⁻¹) :
  FE T X (ϟ (ϛ "len" p) [ϟ (ϛ "set" t) [e] [] b] [] k)$ be kH f:=by
 intro j s ό H Q I h;refine JF ο N O Jx (jq (AM (GZ J) n q rfl (jq L ou y) ⋯ ⋯ y r) ou i) ⋯ ⋯ i g j s ό H Q I ?_;obtain⟨V,ρ,W,G,R,P⟩:=h;refine⟨V,ρ,W,G,R,P.bind λd w u v ϋ D ϊ z S c=>?_⟩;unfold kH at c;cases m:(wf w d).bind yes with
 |none=>rw[m]at c;exact c.elim
 |some ns=>
  rw[m]at c;dsimp only at c;by_cases o:ns.length<=Uf
  ·rw[na o]at c;obtain⟨ys,A,B⟩:=rf.mp m;obtain⟨a,vs,rfl,E,F⟩:=z.ls S A;have C:=fF F B;subst C;exact⟨a,ns,rfl,Me.of E,o,λl x=>⟨l,_,_,rfl,ng,c u _ _ (Zj x) (z.fresh x) (by rw[Ja])⟩⟩
  ·rw[ya o]at c;exact c.elim
def Gv(xs:i')(a b:Option Int):i':=(xs.drop$ HT.Hf xs.length 0 a).take$ HT.Hf xs.length xs.length b - HT.Hf xs.length 0 a
def R6{xs}(h:HT.Hf xs.length 0 b=0/\HT.Hf xs.length xs.length a=xs.length):Gv xs b a=xs:=by
 unfold Gv;rw[h.1,h.2];simp
def CO{xs}(r:Db T d H xs c) b a:Db T d H (Gv xs b a)$ kB c b a:=by
 unfold Gv kB;rw[r.length];exact Db.take _$ Db.drop _ r
end Lake
namespace HT
open Spec
variable{prog:Aa}{w:Ta}{A:Ma}{E:Value->Shared->Prop}{s:Shared}
def rj(b:Bt s.heap t a)(k:s.heap.IsSliceOf j vl l rc)(pl:zk vl c)(p:zk l e)
  (v:Hf a.size 0 c=0/\Hf a.size a.size e=a.size) (h:Q (Xb t) s):wpAny (model prog w) A (ai (Xb t)$ Xb j) Q E s:=by
 obtain⟨n,i,g,m⟩:=id k;have f:s.TypeIs (Xb j) "slice":=⟨n,i,g⟩
 unfold ai;try with_reducible refine Yb ?_
 refine ba$ BC b.typeIs ⋯ ?_;refine ba$ Ed b.typeIs ic
  (Mc ic b.typeIs cz ?_$ BA _ _)
 show wpAny _ _ (Mj _ >>= _) _ _ s;refine ba$ EX b$ ba$ dj f$ ba$ sX k pl p ?_;have d:(((Hf a.size 0 c):Int) == 0 && (1:Int) == 1 && (Hf a.size a.size e - Hf a.size 0 c) == a.size)=U2:=by
  simp_all
 show wpAny _ _ (if (((Hf a.size 0 c):Int) == 0 && 1 == 1 && (Hf a.size a.size e - Hf a.size 0 c) == a.size)=U2 then _ else _) _ _ s;rw[na d];apply b_;intro z_;obtain⟨o,r,q,u⟩:=id b;apply z_;refine ba$ ba$ dj b.typeIs$ ga$ ba$ Jq ?_;first
  |exact ga _
  |exact ga _
  |exact ba$ ga$ ga ⟨_,rfl,ga h⟩
end HT
namespace Lake
open Spec L2
def eR(K:ϖ):V->Option Int->Option Int->Hp->VK->Prop:=λx c b H Q=>∃ a xs,x=ϙ a/\Kg K H a xs/\(HT.Hf xs.length 0 c=0/\HT.Hf xs.length xs.length b=xs.length)/\Q (ϙ a) H
def yio:Dv X$ eR X.K:=by
 rintro e s o H x v vl p m j n Q I i f pl h ⟨a,xs,rfl,g,k,q⟩;cases i;obtain⟨b,r,d,l⟩:=I.tuple g;have c:b.toArray.size=xs.length:=by rw[Ua];exact r.length.symm
 exact⟨"tuple",_,ic.lookup,d.typeIs,HT.rj d f pl h ⋯ ⟨ϙ a,H,I,rfl,q⟩⟩
abbrev PF:=Option$ Ev->M D
noncomputable def JO(d:D):M$ Option Int:=match d with
 | Z i=>ret (SY i)
 |_=>Ib
def Lz(p:PF):Ev->M (Option Int):=match p with
 |none=>λb=>ret ń
 |some f=>λa=>Ic (f a) JO
def tP(T:Tb)(X:Cx)(f:Ev->M (Option Int)):TO:=λd H Q=>∃ c e g,Gh T c H e d/\gd T c H g/\Vb T (XE X d) (λh h a b=>b=a) c H (f e g) Q
abbrev FO(T:Tb)(X:Cx)(e:Option Na)(p:PF):Prop:=PO X e$ tP T X$ Lz p
theorem D6:FO T X ń ń:=by
 rintro a s d H Q I ⟨f,ρ,g,e,c,b⟩;exact Y9 a s d H Q I$ Vb.here b c rfl
def v7(g:FE T X e f):FO T X (SY e)$ SY f:=by
 intro a s n H Q I h;refine E1 g a s n H Q I ?_;obtain⟨o,ρ,q,c,k,j⟩:=h;refine⟨o,ρ,q,c,k,Vb.bind j λd r p v t w u m l b=>?_⟩;cases d with
 |int i=>exact⟨i,tq l,Vb.here b m rfl⟩
 |_=>exact b.elim
def rQ(x:D)(c b:Option Int):M D:=λa=>match x with
 | ϒ xs=>U (ϒ$ Gv xs c b) a
 | .Vi ns=>U (ύ$ Gv (ns.map Z) c b) a
 |x=>(match wf a x with
  |some xs=>U (ύ$ Gv xs c b) a
  |none=>ϗ)
def mG(x:D)(b:Option Int)(a:Option Int):M D:=rQ x b a
def yM(x:D)(a:M$ Option Int)(b:Option Int):M D:=Ic a$ mG x b
def TK(b a:M$ Option Int)(x:D):M D:=Ic b$ yM x a
def iy(f:Ev->M D)(c b:PF):Ev->M D:=λa=>Ic (f a)$ TK (Lz c a)$ Lz b a
def Ý{W V}(hK:T.K=X.K)(he:FE T X e f)(hl:FO T X W pl)(hh:FO T X V ϋ):FE T X (ϣ e (.Slice W V ń C) E)$ iy f pl ϋ:=by
 intro w s ϊ H Q I h;refine ω (Dv.or t9$ Dv.or yio qY) he hl hh w s ϊ H Q I ?_;obtain⟨μ,ρ,σ,A,hr,hp⟩:=h;refine⟨μ,ρ,σ,A,hr,hp.bind λd P L v H1 l S r1 q1 p1=>⟨L,ρ,P,A.mono S,r1,p1.bind λl R N g H2 l ό r2 q2 C=>⟨N,ρ,R,(A.mono S).mono ό,r2,C.bind λu m O i y l e3 x q3 c=>?_⟩⟩⟩;have F:=q2;have G:=q3;subst F;subst G;have z:=Ja.mono e3 _ _$ Ja.mono ό _ _ q1;have b:∀ ys,wf m d=SY ys->Vb T (XE X ϊ) (Ja T) O y (U (ύ$ Gv ys g i) m) Q->FV X.K v g i y Q\/eR X.K v g i y Q\/fP X.K v g i y Q:=λys r p4=>by
  obtain⟨a,j,rfl,o,k⟩:=x.ls z r;exact ϕ$ ϕ ⟨a,j,rfl,Me.of o,λp t=>MG p4 x (CO k g i) t⟩
 cases d with
 |nb xs=>
  have J:=z;obtain⟨p,j,rfl,o,k⟩:=z;by_cases B:HT.Hf j.length 0 g=0/\HT.Hf j.length j.length i=j.length
  ·refine ϕ$ ϑ ⟨p,j,rfl,Kg.of o,B,Vb.here c x ?_⟩;rw[R6 (by rw[k.length];exact B)];exact J
  ·exact ϑ ⟨p,j,rfl,Kg.of o,B,λq t=>AB c x (CO k g i) t⟩
 |ref n=>
  unfold mG rQ at c;dsimp only at c;cases r:wf m _ with
  |none=>rw[r]at c;exact c.elim
  |some ys=>rw[r]at c;exact b ys r c
 |ia ys=>exact b ys rfl c
 |Vi ns=>
  obtain⟨p,rfl,o⟩:=z;have k:=o.seq;rw[hK]at k;exact ϕ$ ϕ ⟨p,_,rfl,k,λp t=>MG c x (CO (DD ns) g i) t⟩
 |_=>exact c.elim
def rN(K:ϖ)(j:Str->Option Value)(x:Str)(e:Stmt)(g:ac)(i:dN):Prop:=
 ∃ f b,j x=SY (Xb f)/\Ϸ K (Xb f)=U2/\(∃ (k:Value) (l:Option Addr) (h kV c m:Value) (an:Option Addr) (a ct:Value) (d:Array (Option Value)),
  b=ϭ x x (Vl e) (Sj e) (Gf e) h kV c m an a ct/\K.lookup f=SY ⟨k,l,.func b,d⟩/\ϻ K a x=U2)/\Wq K b g []/\Wq K b g i
def ju(T:Tb)(P:Aa)(w:Ta)(c:Str->Option Value)(a:Heap)(k:Nat)(x:Str)(ps:ac)(d:dN)(e:i'->M D):Prop:=
 ∃ f b,c x=SY (Xb f)/\Ϸ T.K (Xb f)=U2/\Wq T.K b ps []/\Wq T.K b ps d/\nh P w T.K c a (Ol P w) k f b ps (Wn T ps.length e)
section
def S5(h:ju T X.prog X.w X.mg X.base k x ps l m)(s:T.K=X.K)(z:Gd k X.A)(v:Gl X x)(B:ke b l)(i:∀ C H,Db T C H a b)
  (t:FA T X (e::c) n) (g: ~~~((x == ("__debug__" : Str))=ŝ)) (u:(qa (e::c) X.env=(ŝ,Mb e X.env)::qa c X.env)⁻¹) (j:((Zb d$ qa c X.env).any (·.1)=ŝ)⁻¹) :
  FE T X (ϟ (ϛ x p) (e::c) [] d)$ Bf ps.length m a n:=by
 obtain⟨f,E,y,r,_,q,o⟩:=h;rw[s]at r o q;exact zS o z v y r q B i t g u j
def l4:ke [V.Nb] [rc]:=Ϡ rfl Ϣ
def Ν a H:Db T a H [Ϛ] [V.Nb]:=Db.cons (by rw[Ja]) Db.nil
variable{P:Aa}{w:Ta}{K:ϖ}{mg:Str->Option Value}{base:Heap}{ca:Nat->Addr}{tx:Tx}
def Ě{st}(h:rN K mg x st ps d)(S:Fc N ps$ Gf st)
  (l:∀ f a A b s H E,Gd k (A.deeper$ fg x (Gf st) s.heap.objs.size f a)->Ul ⟨K,ca,tx⟩ (yp (Ol P w) P w K mg base N x (Gf st) f a A b s H E) (Sj st) g) :
  ju ⟨K,ca,tx⟩ P w mg base (k+1) x ps d$ ni N.length g:=by
 obtain⟨f,r,n,m,⟨t,u,q,kV,j,v,p,a,ct,o,rfl,lk,c⟩,e,i⟩:=h;exact⟨f,_,n,m,e,i,dC lk c S$ l f a⟩
def ju.ud{k}{x}{ps}{a}{b}(h:ju T P w mg base k x ps a b):ju T P w mg base k x ps a (λds=>Lake.ud$ b ds):=by
 obtain⟨f,c,d,e,g,i,j⟩:=h;exact⟨f,c,d,e,g,i,jN j⟩
def x3{st}{B i w}{kV e j b ct}(X:K.In h)(G:h.Ns mainGlobals mg)
  (z:∀ t kV e j i b ct s o n g,s.heap.get? t=SY o->o.data=Ϧ m.toArray n->((g++[]).length=ps.length->vf s (ϭ x x (Vl st) (Sj st) (Gf st) (Xb t) kV e j i b ct) ⟨g,[]⟩ (ps.zip$ g++[]))/\
   ((g++m).length=ps.length->vf s (ϭ x x (Vl st) (Sj st) (Gf st) (Xb t) kV e j i b ct) ⟨g,[]⟩ (ps.zip$ g++m)))
  (a:W.nsIn K mainGlobals x=SY (SY$ Xb f)) (l:K.lookup f=SY ⟨A,B,.func$ ϭ x x (Vl st) (Sj st) (Gf st) (Xb t) kV e j i b ct,p⟩)
  (c:ϻ K b x=U2) (k:Ϸ K (Xb f)=U2) (d:K.lookup t=SY ⟨v,w,Ϧ m.toArray u,y⟩):rN K mg x st ps m:=
 ⟨f,_,Es X G a,k,⟨A,B,_,kV,e,j,i,b,ct,p,rfl,l,c⟩,λs g q r=>(z t kV e j i b ct s _ u g (q _ _ d) rfl).1 r,λs g q r=>(z t kV e j i b ct s _ u g (q _ _ d) rfl).2 r⟩
end
noncomputable def lx(l:List$ Nat × Bool):Nat->Option Bool:=λc=>l.lookup c
abbrev jT:dN:=[Wh "ValueError",Wh "Exception",Wh "BaseException",Wh "object"]
theorem YJ:∀ {l:List$ Nat × Bool} {c:Nat} {b:Bool},l.lookup c=SY b->(c,b)∈l
 |[],_,_,h=>by simp at h
 |(n,d)::r,c,b,h=>by
  rw[Pb]at h;cases e:c == n with
  |true=>simp_all
  |false=>rw[e]at h;exact ja _$ YJ h
def cj.ae(h:cj T P w c a k x ps b):cj T P w c a k x ps$ Lake.ae b:=by rw[zp];exact h
def ju.ae(h:ju T P w d a k x ps b c):ju T P w d a k x ps b$ Lake.ae c:=by rw[zp];exact h
section
variable{μ:b'}{H:Hp}{σ:Ga}
noncomputable def di(σ:Ga):D->Option (Nat × List (Str × D))
 | ϵ c ns ds=>if ns.length=ds.length then SY (c,ns.zip ds)else ń
 | Y n=>match σ[n]? with
  |some (ϔ c a)=>SY (c,a)
  |_=>ń
 |_=>ń
theorem OT:∀ {b:ac} {ds:i'} {a:List$ Str × V},a.map (·.1)=b->Db T μ H ds (a.map (·.2))->Wr T μ H (b.zip ds) a
 |[],ds,[],_,h=>by
  cases ds with
  |nil=>exact Ϣ
  |cons d ds=>have:=h.length;simp at this
 |[],ds,f::a,e,_=>by simp at e
 |n::b,ds,[],e,_=>by simp at e
 |n::b,[],f::a,e,h=>by have:=h.length;simp at this
 |n::b,d::ds,f::a,e,h=>by
  simp at e;obtain⟨v,r,c,i,j⟩:=h;simp at c;obtain⟨g,rfl⟩:=c;exact Ϡ ⟨e.1.symm,by rw[g];exact i⟩$ OT e.2 j
def sy(r:gd T μ H σ)(h:Ja T μ H d v)(e:di σ d=SY (c,k)):∃ a f b,v=ϙ a/\H a=SY (.Eb (T.ca c) f b)/\Wr T μ H k b:=by
 cases d with
 |obj m ns ds=>
  unfold di at e;by_cases l:ns.length=ds.length
  ·simp[l]at e;obtain⟨rfl,rfl⟩:=e;obtain⟨a,f,b,rfl,_,g,i,s⟩:=h;exact⟨a,f,b,rfl,g,OT i s⟩
  ·simp[l]at e
 |ref n=>
  unfold di at e;dsimp only at e;cases j:σ[n]? with
  |none=>simp_all
  |some o=>
   rw[j]at e;obtain⟨a,rfl,_,q⟩:=r.at h j;cases o with
   |Eb m p=>cases e;obtain⟨f,b,g,i⟩:=q;exact⟨a,f,b,rfl,g,i⟩
   |ia _=>cases e
   |Pa _=>cases e
   |vc _=>cases e
 |_=>cases e
theorem BB{f:Str}:∀ {b:List$ Str × D} {c:List$ Str × V},Wr T μ H b c->(∀ d,b.lookup f=SY d->∃ v,c.lookup f=SY v/\Ja T μ H d v)/\(b.lookup f=ń->c.lookup f=ń)
 |_,_,Ϣ=>⟨λd e=>by simp at e,λp=>rfl⟩
 |(g,x)::b,(o,v)::c,Ϡ ⟨e,h⟩ t=>by
  have i:=e;subst i;obtain⟨j,k⟩:=BB t;by_cases l:(f == g)=U2
  ·refine⟨λd q=>?_,λq=>?_⟩;all_goals simp_all
  ·have a:(f == g)=ŝ:=by simpa using l
   refine⟨λd q=>?_,λq=>?_⟩
   ·rw[Pb,a]at q;obtain⟨w,m,n⟩:=j d q;exact⟨w,by rw[Pb,a];exact m,n⟩
   ·rw[Pb,a]at q;rw[Pb,a];exact k q
def DI(T:Tb)(a:gV)(f:Str):Prop:=∀ c,a.contains c=U2->kq T.K (T.ca c)/\Ex T.K (T.ca c) f
noncomputable def Cc(a:gV)(f:Str)(x:D):M D:=λσ=>match di σ x with
 |some (c,b)=>if a.contains c=U2 then (match b.lookup f with
  |some d=>U d σ
  |none=>ϗ)else ϗ
 |none=>ϗ
def Ħ(E:T.K=X.K)(G:DI T cs f)(J:FE T X e g)
  (F:(Ad e f X.env (Mb e X.env)=Mb e X.env)⁻¹):FE T X (Ϝ e f m)$ be (Cc cs f) g:=by
 intro j s P H Q I h;refine l6 J F j s P H Q I ?_;obtain⟨μ,ρ,σ,C,N,L⟩:=h;refine⟨μ,ρ,σ,C,N,Vb.bind L λd n S v ό D V r O b=>?_⟩;unfold Cc at b;cases k:di n d with
 |none=>rw[k]at b;exact b.elim
 |some p=>
  obtain⟨c,u⟩:=p;rw[k]at b;dsimp only at b;by_cases i:cs.contains c=U2
  ·rw[na i]at b;obtain⟨a,t,R,rfl,x,z⟩:=sy r O k;cases l:u.lookup f with
   |none=>rw[l]at b;exact b.elim
   |some y=>
    rw[l]at b;obtain⟨w,A,B⟩:=(BB z).1 y l;obtain⟨o,q⟩:=G c i;rw[E]at o q;exact⟨a,_,t,R,w,rfl,x,o,q,A,Vb.here b r B⟩
  ·rw[ya i]at b;exact b.elim
noncomputable def Ih(f:Str)(v:D):List (Str × D)->List (Str × D)
 |[]=>[(f,v)]
 |(g,x)::r=>if g=f then (g,v)::r else (g,x)::Ih f v r
theorem xK{f:Str}{d:D}{v:V}(c:Ja T μ H d v):∀ {b:List$ Str × D} {i:List$ Str × V},Wr T μ H b i->Wr T μ H (Ih f d b) (Fn f v i)
 |_,_,Ϣ=>Ϡ ⟨rfl,c⟩ Ϣ
 |(g,x)::b,(k,w)::i,Ϡ ⟨e,h⟩ t=>by
  have j:=e;subst j;unfold Ih Fn;by_cases a:g=f
  ·rw[na a,na a];exact Ϡ ⟨rfl,c⟩ t
  ·rw[ya a,ya a];exact Ϡ ⟨rfl,h⟩$ xK c t
def Wr.mono(e:Tc μ H a b)(h:Wr T μ H c d):Wr T a b c d:=Paired.Mr h λf f q=>⟨q.1,Ja.mono e _ _ q.2⟩
def Wr.length(h:Wr T μ H a b):a.length=b.length:=Paired.length h
def iw(b:gV)(f:Str)(d x:D):M Unit:=λσ=>match x with
 | Y n=>(match σ[n]? with
  |some (ϔ c a)=>if (b.contains c && decide (a.length<1000))=U2 then U () (σ.set n$ ϔ c$ Ih f d a)else ϗ
  |_=>ϗ)
 |_=>ϗ
def Vr(c:Ev)(b:gV)(f:Str)(d x:D):M Fl:=λσ=>match iw b f d x σ with
 | U _ a=>U (Ϙ c) a
 |_=>ϗ
def NJ(a:Ev)(b:gV)(f:Str)(c:Ev->M D)(d:D):M Fl:=xs a (c a)$ Vr a b f d
def Rp(b:gV)(f:Str)(d c:Ev->M D):Ev->M Fl:=λa=>xs a (d a)$ NJ a b f c
def m7(S:T.K=X.K)(ό:DI T m f)(V:FE T X o C)(hv:FE T X b E)
  (hs:(Ig b (SY$ Ϝ o f h) k.line X.env=pure ŝ)⁻¹):FS T X (Ϻ [Ϝ o f h] b k)$ Rp m f E C:=by
 intro j s P H D I ϋ;refine â V hv hs j s P H D I ?_;obtain⟨μ,ρ,σ,i,ϊ,W⟩:=ϋ;refine⟨μ,ρ,σ,i,ϊ,W.xs i λd w u v H1 d q r1 q1 p1=>⟨u,ρ,w,i.mono q,r1,p1.xs (i.mono q) λx y l vo A d B O q2 e=>?_⟩⟩;unfold Vr iw at e;cases x with
 |ref n=>
  dsimp only at e;cases r:y[n]? with
  |none=>rw[r]at e;exact e.elim
  |some ob=>
   rw[r]at e;cases ob with
   |ia _=>exact e.elim
   |Pa _=>exact e.elim
   |vc _=>exact e.elim
   |Eb c R=>
    dsimp only at e;by_cases g:(m.contains c && decide (R.length<1000))=U2
    ·apply b_;intro z_;rw[na g]at e;rw[Da,Gc]at g;obtain⟨a,rfl,J,p,Q,F,G⟩:=O.at q2 r;have ex:Tc l A l$ Fb A a$ .Eb (T.ca c) p$ Fn f v Q:=qu (ua J) F (λd z=>by cases z) (λd d z=>by cases z);have t:=O.write (ob:=ϔ c _) J ⟨p,_,ng,xK (Ja.mono ex _ _$ Ja.mono B _ _ q1)$ Wr.mono ex G⟩;obtain⟨L,N⟩:=ό c g.1;rw[S]at L N;apply z_;exact⟨a,_,p,Q,rfl,F,L,N,by rw[<-G.length];exact g.2,e _ (ϸ P) _ t.1 t.2$ (i.mono q).mono B |>.mono t.1⟩
    ·rw[ya g]at e;exact e.elim
 |_=>exact e.elim
noncomputable def Fx(n:Nat):Ck D->Ck D
 | U Ϛ a=>U (Y n) a
 | U _ _=>ϗ
 | .ex x a=>.ex x a
 | ϗ=>ϗ
def Jl(c n:Nat)(b:i'->M D)(a:i'):M D:=λσ=>if a.length+1=n then Fx σ.length (b (Y σ.length::a)$ σ++[ϔ c []])else ϗ
def Dq(c n:Nat)(a:i'->M D)(b:Ev->M (i')):Ev->M D:=λd=>Ic (b d)$ Jl c n a
def vq(T:Tb)(P:Aa)(w:Ta)(e:Str->Option Value)(a:Heap)(k:Nat)(f:Addr)(ps:ac)(d:i'->M D):Prop:=
 ∃ c,(∀ b:dN,b.length=ps.length->bindArgs c ⟨b,[]⟩=pure (ps.zip b))/\nh P w T.K e a (Ol P w) k f c ps (Wn T ps.length d)
def OW(T:Tb)(P:Aa)(w:Ta)(b:Str->Option Value)(a:Heap)(k:Nat)(x:Str)(c:Nat)(ps:ac)(d:i'->M D):Prop:=
 ∃ f,b x=SY (Xb$ T.ca c)/\Mk T.K (T.ca c) f/\vq T P w b a k f ps d
def xX{ps:ac}(r:gd T μ H σ)(q:Db T μ H j w)(p:Vb T E (Ja T) μ H (Jl c ps.length m j σ) Q) :
  ∀ x a,H x=ń->H a=ń->a≠x->Wn T ps.length m (ϙ x::(w++[])) (Fb (Fb H a$ .own x) x$ .Eb (T.ca c) a []) (λv z=>v=.Nb/\Q (ϙ x) z) E:=by
 intro x a B h o;unfold Jl at p;by_cases n:j.length+1=ps.length
 ·rw[na n]at p;have b:Tc μ H μ$ Fb H a$ .own x:=Zj h;have t:gd T μ (Fb H a$ .own x) σ:=r.fresh h;have i:Fb H a (.own x) x=ń:=by unfold Fb;rw[ya$ Ud o];exact B
  have f:Tc μ _ _$ Fb _ x$ .Eb (T.ca c) a []:=Dw i;have F:gd T _ _$ σ++[ϔ c []]:=t.push i ⟨a,[],ng,Ϣ⟩;refine⟨μ++[x],σ++[ϔ c []],Y σ.length::j,Db.cons (yD t) (by rw[He];exact Db.mono (b.trans f) _ _ q),by rw[Ab];exact n,F,?_⟩;cases e:m _ _ with
  |Ib=>rw[e]at p;exact p.elim
  |ex y u=>rw[e]at p;exact λg l k s=>p g l ((b.trans f).trans k) s
  |ok d u=>
   rw[e]at p;intro g v l k s C;have A:d=Ϛ:=by cases d<;>first|rfl|exact p.elim
   subst A;exact⟨C,p g _ l ((b.trans f).trans k) s$ Ja.mono k _ _$ yD t⟩
 ·rw[ya n]at p;exact p.elim
def MT{st}(M:Mk X.K C f)(F:nh X.prog X.w X.K X.mg X.base (Ol X.prog X.w) k f l ps q)(J:Gd (k+1) X.A)(D:Wq X.K l ps ds)(E:ke c ds)
  (I:gb X b st H s) (r:ke m d)
  (h:∀ x j,H x=ń->H j=ń->j≠x->q (ϙ x::(m++c)) (Fb (Fb H j$ .own x) x$ .Eb C j []) (λv t=>v=.Nb/\Q (ϙ x) t) (XE X st)) :
  wpAny (model X.prog X.w) X.A (call (Xb C) d) (EP X b st Q) X.xe s:=by
 have o:=h _ s.heap.objs.size (I.Kc.fresh$ zh _) (I.Kc.fresh$ wa _)$ za$ Qb _;have i:=gb.made (C:=C) I;have p:ke (ϙ _::(m++c))$ Xb (s.heap.objs.size+1)::(d++ds):=Ϡ rfl$ r.append E;have G:(Xb (s.heap.objs.size+1)::d++ds).length=ps.length:=by
  have e:=p.length;rw[F.len _ _ _ _ o]at e
  grind
 refine ej$ í I.Li M.makes M.init (Uj.mp M.fn) (qf (F.ni _ X.stack _ _ _ _ _ _ _ (J.make C d [])
  (i.RC.make C d []) (D _ _ i.Li G) p o) λr P a=>?_)
 cases r with
 |error e=>obtain⟨z,l,n,g,L⟩:=a;exact L.rH b _ _ e P i g
 |ok B=>
  cases B with
  |ret u=>
   obtain⟨v,n,y,O,rfl,N⟩:=i.after a;exact⟨O,⟨ϙ _,n,y,rfl,N⟩⟩
  |next=>exact ϱ a
  |brk=>exact ϱ a
  |cont=>exact ϱ a
def ş(h:OW T X.prog X.w X.mg X.base k x c ps n)(y:T.K=X.K)(J:Gd (k+1) X.A)(E:Gl X x)
  (z:FA T X (e::b) o) (i: ~~~((x == ("__debug__" : Str))=ŝ)) (C:(qa (e::b) X.env=(ŝ,Mb e X.env)::qa b X.env)⁻¹) (j:((Zb a$ qa b X.env).any (·.1)=ŝ)⁻¹) :
  FE T X (ϟ (ϛ x p) (e::b) [] a)$ Dq c ps.length n o:=by
 obtain⟨f,F,g,V,B,t⟩:=h;rw[y]at g t;rintro d s st H Q I ⟨μ,ρ,σ,v,l,G⟩;exact Pe$ pA I E F (fh I.ok.mod.fw g.kp (pd (z a d s st H _ I ⟨μ,ρ,σ,v,l,G.bind λds S R P u D ό O L N=>xX O L N⟩) (by rintro us s1 ⟨P,u,m,r,q⟩;exact ⟨m.Li,(MT g t J (.all B) Ϣ m r q)⟩)) C j) i
structure qK(T:Tb)(P:Aa)(w:Ta)(mg:Str->Option Value)(base:Heap)(k:Nat)(m:Str)(c:Nat)(ps:ac)(fn:i'->M D):Prop where
 cl:kq T.K (T.ca c)
 ex:∃ f,xu T.K (T.ca c) m f/\vq T P w mg base k f ps fn
abbrev Mt:=List$ Nat × (i'->M D)
noncomputable def bq:Mt->Nat->Option (i'->M D)
 |[],_=>ń
 |(c,fn)::r,d=>if c == d then SY fn else bq r d
noncomputable def Ai(n:Nat)(b:i'->M D)(x:D)(a:i'):M D:=if a.length+1=n then b (x::a)else Ib
def Pk(d:Mt)(n:Nat)(m:Str)(a:M$ i')(x:D):M D:=λσ=>match di σ x with
 |some (c,b)=>(match bq d c,b.lookup m with
  |some fn,ń=>Ic a (Ai n fn x) σ
  |_,_=>ϗ)
 |none=>ϗ
def Ye(c:Mt)(n:Nat)(m:Str)(f:Ev->M D)(b:Ev->M (i')):Ev->M D:=λa=>Ic (f a)$ Pk c n m$ b a
theorem dM:∀ {a:Mt} {c:Nat} {fn:i'->M D},bq a c=SY fn->(c,fn)∈a
 |[],_,_,h=>by cases h
 |(d,g)::r,c,fn,h=>by
  unfold bq at h;by_cases e:(d == c)=U2
  ·rw[na e]at h;cases h
   simp_all
  ·rw[ya e]at h;exact ja _$ dM h
def iX(hK:T.K=X.K)(he:FE T X o f)(h:∀ q∈J,qK T X.prog X.w X.mg X.base k m q.1 ps q.2)(hr:Gd k X.A)(ha:FA T X (e::n) O)
  (V:(qa (e::n) X.env=(ŝ,Mb e X.env)::qa n X.env)⁻¹) (S:((Zb b$ qa n X.env).any (·.1)=ŝ)⁻¹)
  (ht:(Mb (ϟ (Ϝ o m i) (e::n) [] b) X.env=(do
   let ov <-Mb o X.env
   wh i.atName
   let (f,first) <-Be [ov] (Ah ov m pl)
   on b f first (Zb b$ qa (e::n) X.env) (Rg b$ Ke [] X.env)))⁻¹) :
  FE T X (ϟ (Ϝ o m i) (e::n) [] b)$ Ye J ps.length m f O:=by
 rintro j s st H Q I ⟨μ,ρ,σ,hE,ό,hp⟩;refine Xi (pd (he j s st H (λx t=>∃ a c G l C,x=ϙ a/\t a=SY (.Eb (T.ca c) G l)/\bq J c=SY C/\l.lookup m=ń/\tL T X O st t λϊ L=>Wn T ps.length C (x::(ϊ++[])) L Q$ XE X st) I ⟨μ,ρ,σ,hE,ό,hp.bind λd F a0 v t D e1 r1 q1 g=>?_⟩) λu s1 ⟨x,t,I1,rx,a,c,G,l,C,ex,ea,p,B,q⟩=>?_) ht
 ·unfold Pk at g;cases N:di F d with
  |none=>rw[N]at g;exact g.elim
  |some z=>
   apply b_;intro z_;obtain⟨c,gs⟩:=z;rw[N]at g;dsimp only at g;apply z_;cases p:bq J c with
   |none=>rw[p]at g;exact g.elim
   |some C=>
    cases B:gs.lookup m with
    |some y=>rw[p,B]at g;exact g.elim
    |none=>
     rw[p,B]at g;dsimp only at g;obtain⟨a,G,l,rfl,h1,h2⟩:=sy r1 q1 N;refine⟨a,c,G,l,C,rfl,h1,p,(BB h2).2 B,a0,ρ,F,hE.mono e1,r1,g.bind λds a2 a1 ϊ L D e2 r2 ϋ E=>?_⟩;unfold Ai at E;by_cases R:ds.length+1=ps.length
     ·rw[na R]at E;exact⟨a1,a2,d::ds,Db.cons (Ja.mono e2 _ _ q1) (by rw[He];exact ϋ),by rw[Ab];exact R,r2,E⟩
     ·rw[ya R]at E;exact E.elim
 ·subst ex;obtain rfl:u=Xb a:=rx;obtain⟨hC,f',P,fd,hb,hF⟩:=h _ (dM p);rw[hK]at hC P hF;exact SM I1 ea hC P B$ fh I.ok.mod.fw P.kp (pd (ha b j s1 st t _ I1 q) (by rintro ϊ s2 ⟨l,L,I2,r,ϋ⟩;exact ⟨I2.Li,(AE (vs:=ϙ a::l) hF hr (.all hb) Ϣ I2 (Ϡ rfl r) ϋ)⟩)) V S
def zsx(hK:T.K=X.K)(he:FE T X o f)(h:∀ q∈F,qK T X.prog X.w X.mg X.base k m q.1 ps q.2)(hr:Gd k X.A)
  (ht:(Mb (ϟ (Ϝ o m e) [] [] g) X.env=(do
   let S <-Mb o X.env
   wh e.atName
   let (f,first) <-Be [S] (Ah S m pl)
   on g f first (Zb g$ qa [] X.env) (Rg g$ Ke [] X.env)))⁻¹) :
  FE T X (ϟ (Ϝ o m e) [] [] g)$ Ye F ps.length m f ib:=by
 rintro B s st H Q I ⟨μ,ρ,σ,hE,O,hp⟩;refine Xi (pd (he B s st H (λx p=>∃ a c E n l,x=ϙ a/\p a=SY (.Eb (T.ca c) E n)/\bq F c=SY l/\n.lookup m=ń/\Wn T ps.length l (x::([]++[])) p Q (XE X st)) I ⟨μ,ρ,σ,hE,O,hp.bind λd i C v p D e1 V ό b=>?_⟩) λu s1 ⟨x,p,G,rx,a,c,E,n,l,ex,ϋ,j,r,q⟩=>?_) ht
 ·unfold Pk at b;cases J:di i d with
  |none=>rw[J]at b;exact b.elim
  |some z=>
   apply b_;intro z_;obtain⟨c,ϊ⟩:=z;rw[J]at b;dsimp only at b;apply z_;cases j:bq F c with
   |none=>rw[j]at b;exact b.elim
   |some l=>
    cases r:ϊ.lookup m with
    |some y=>rw[j,r]at b;exact b.elim
    |none=>
     apply b_;intro z_;rw[j,r]at b;dsimp only at b;obtain⟨a,E,n,rfl,h1,h2⟩:=sy V ό J;have t:Vb T _ _ C p (Ai ps.length l d [] i) Q:=b;unfold Ai at t;apply z_;by_cases N:([]:i').length+1=ps.length
     ·rw[na N]at t;exact⟨a,c,E,n,l,rfl,h1,j,(BB h2).2 r,C,i,[d],Db.cons ό Db.nil,N,V,t⟩
     ·rw[ya N]at t;exact t.elim
 ·subst ex;obtain rfl:u=Xb a:=rx;obtain⟨P,f',L,fd,hb,R⟩:=h _ (dM j);rw[hK]at P L R;exact SM G ϋ P L r$ W.callWith_K0 G.Li L.kp$ AE (vs:=[ϙ a]) R hr (.all hb) Ϣ G (Ϡ rfl Ϣ) q
structure E7(T:Tb)(P:Aa)(w:Ta)(mg:Str->Option Value)(base:Heap)(k:Nat)(x m:Str)(c:Nat)(ps:ac)(fn:i'->M D):Prop where
 gl:mg x=SY (Xb (T.ca c))
 sp:W.specialIn T.K (Xb (T.ca c)) (ui "__getattribute__")=SY (SY (Ϟ "type.__getattribute__"))
 ex:∃ f mc,W.readsIn T.K (T.ca c) mc=U2/\W.findCls T.K (Xb (T.ca c)) mc m=SY (.val (Xb f))/\Ϸ T.K (Xb f)=U2/\vq T P w mg base k f ps fn
def nR(h:E7 T X.prog X.w X.mg X.base k x m c ps l)(P:T.K=X.K)(ϊ:Gd k X.A)(ό:Gl X x)(R:FA T X (e::d) E)
  (n: ~~~((x == ("__debug__" : Str))=ŝ)) (u:(qa (e::d) X.env=(ŝ,Mb e X.env)::qa d X.env)⁻¹) (q:((Zb a$ qa d X.env).any (·.1)=ŝ)⁻¹)
  (ht:(Mb (ϟ (Ϝ (ϛ x p) m b) (e::d) [] a) X.env=(do
   let N <-Mb (ϛ x p) X.env
   wh b.atName
   let (f,first) <-Be [N] (Ah N m pl)
   on a f first (Zb a$ qa (e::d) X.env) (Rg a$ Ke [] X.env)))⁻¹) :
  FE T X (ϟ (Ϝ (ϛ x p) m b) (e::d) [] a)$ Bf ps.length l [] E:=by
 rintro i s st H Q I ⟨μ,ρ,σ,O,t,ϋ⟩;apply b_;intro z_;obtain⟨V,g,f,mc,F,G,J,fd,S,L⟩:=h;rw[P]at g F G J L;apply z_;refine Xi (pA I ό V (W.method_cls I.Li g$ W.cls_value I.Li F G rfl$ fh I.ok.mod.fw J (pd (R a i _ st H (λv B=>Wn T ps.length l (v++[]) B Q$ XE X st) (I.tok _) ⟨μ,ρ,σ,O,t,ϋ.bind λds z y v B D e1 r1 p1 j=>?_⟩) λus s2 ⟨v,H2,C,r,q2⟩=>⟨C.Li,?_⟩) u q) n) ht
 ·unfold Ko at j;by_cases o:(ds++[]).length=ps.length
  ·rw[na o]at j;exact⟨y,z,ds++[],p1.append Db.nil,o,r1,j⟩
  ·rw[ya o]at j;exact j.elim
 ·exact AE L ϊ (.all S) Ϣ C r q2
end
structure Hu(K:ϖ)(C:Addr)(x qual:Str)(st:Stmt)(ps:ac)(f:Addr):Prop where
 ex:∃ fd,iJ K x qual st f fd/\∀ us:dN,us.length=ps.length->bindArgs fd ⟨us,[]⟩=pure (ps.zip us)
section
variable{P:Aa}{w:Ta}{K:ϖ}{mg:Str->Option Value}{base:Heap}{ca:Nat->Addr}{tx:Tx}
def QR{st}(h:Hu K C x a st ps f)(S:Fc N ps$ Gf st)
  (j:∀ b A c s H E,Gd k (A.deeper$ fg a (Gf st) s.heap.objs.size f b)->Ul ⟨K,ca,tx⟩ (yp (Ol P w) P w K mg base N a (Gf st) f b A c s H E) (Sj st) g) :
  vq ⟨K,ca,tx⟩ P w mg base (k+1) f ps$ ni N.length g:=by
 obtain⟨n,F,d⟩:=h.ex;obtain⟨o,p,kV,i,q,m,b,ct,l,rfl,lk,e⟩:=F.ex;exact⟨_,d,dC lk e S$ j b⟩
def vq.ud{T}{k}{f}{ps}{a}(h:vq T P w mg base k f ps a):vq T P w mg base k f ps (λds=>Lake.ud$ a ds):=by
 obtain⟨b,c,d⟩:=h;exact⟨b,c,jN d⟩
def vq.ae(h:vq T P w mg base k f ps a):vq T P w mg base k f ps$ Lake.ae a:=by rw[zp];exact h
end
noncomputable def Uw(s:Stmt)(j:Nat):Stmt:=match s with
 | .ClassDef _ _ _ b _ _ _ _ _ _ _=>b.getD j (.Pass ⟨0,0,0,0⟩)
 |s=>s
def mT{K:ϖ}{st}{kV d g b ct}
  (j:∀ kV d g e b ct i,i.length=ps.length->bindArgs (ϭ x a (Vl st) (Sj st) (Gf st) rc kV d g e b ct) ⟨i,[]⟩=pure (ps.zip i))
  (l:K.lookup f=SY ⟨m,n,.func$ ϭ x a (Vl st) (Sj st) (Gf st) rc kV d g e b ct,h⟩)
  (c:ϻ K b a=U2) (k:Ϸ K (Xb f)=U2):Hu K C x a st ps f:=⟨⟨_,xP l c k,j kV d g e b ct⟩⟩
section
variable{T:Tb}{P:Aa}{w:Ta}{mg:Str->Option Value}{base:Heap}
def bH(T:Tb)(P:Aa)(w:Ta)(mg:Str->Option Value)(base:Heap)(k:Nat)(m:Str)(ps:ac)(a:Mt):Prop:=∀ q∈a,qK T P w mg base k m q.1 ps q.2
def yZ:bH T P w mg base k m ps []:=λq h=>nomatch h
def ô(l:kq T.K$ T.ca c)(n:xu T.K (T.ca c) m f)(o:vq T P w mg base j f ps e)(p:j<=k)(h:bH T P w mg base k m ps g):bH T P w mg base k m ps$ (c,e)::g:=λq d=>by
 rcases Ba.mp d with rfl|d
 ·obtain⟨i,a,b⟩:=o;exact⟨l,f,n,i,a,b.mono p⟩
 ·exact h q d
end
end Lake
namespace Lake
open L2
def nr{a b:c}(h:a=b):a=b:=h
section
variable{α β:Type}{ρ:Ev}{σ:Ga}
@[simp] theorem zd a σ(k:α->M β):(U a σ).bind k=k a σ:=rfl
@[simp] theorem yh9(a:α) σ:ret a σ=U a σ:=rfl
@[simp] theorem Ii m(k:α->M β) σ:Ic m k σ=(m σ).bind k:=rfl
@[simp] theorem ZR d:eC d ρ σ=U d σ:=rfl
@[simp] theorem Oy d r:ka 0 (SY d::r) σ=U d σ:=rfl
@[simp] theorem VN i o r:ka (i+1) (o::r) σ=ka i r σ:=rfl
@[simp] theorem zr2 o a b:Sa o a b ρ σ=(a ρ σ).bind (qM o$ b ρ):=rfl
@[simp] theorem zrc o m x:qM o m x σ=(m σ).bind (o x):=rfl
@[simp] theorem ycs o a:be o a ρ σ=(a ρ σ).bind o:=rfl
@[simp] theorem yjh b:aB (ϓ b) σ=U b σ:=rfl
@[simp] theorem ym2(p q:M α):kj p q U2 σ=p σ:=rfl
@[simp] theorem ym1(p q:M α):kj p q ŝ σ=q σ:=rfl
@[simp] theorem zv8 c:bL c σ=U (!c) σ:=rfl
@[simp] theorem zp8(k:Bool->M α) b:my k (ϓ b) σ=k b σ:=rfl
@[simp] theorem znj c:xM c σ=U (ϓ$ !c) σ:=rfl
@[simp] theorem ylv f:eT f ρ σ=(f ρ σ).bind aB:=rfl
@[simp] theorem zq9 a b:jp a b ρ σ=(a ρ σ).bind (kj (b ρ)$ ret ŝ):=rfl
@[simp] theorem ybj a b:My a b ρ σ=(a ρ σ).bind (kj (ret U2)$ b ρ):=rfl
@[simp] theorem zra a:vu a ρ σ=(a ρ σ).bind bL:=rfl
@[simp] theorem zr1 a b:qL a b ρ σ=(a ρ σ).bind (my$ kj (b ρ)$ ret$ ϓ ŝ):=rfl
@[simp] theorem ycq a b:OU a b ρ σ=(a ρ σ).bind (my$ kj (ret$ ϓ U2)$ b ρ):=rfl
@[simp] theorem zr6 a:hX a ρ σ=(a ρ σ).bind (my xM):=rfl
@[simp] theorem ycm t a b:Nz t a b ρ σ=(t ρ σ).bind (kj (a ρ)$ b ρ):=rfl
@[simp] theorem eO:ib ρ σ=U [] σ:=rfl
@[simp] theorem hO e r:Fa e r ρ σ=(e ρ σ).bind (dL$ r ρ):=rfl
@[simp] theorem KO m x:dL m x σ=(m σ).bind (LK x):=rfl
@[simp] theorem sL x xs:LK x xs σ=U (x::xs) σ:=rfl
@[simp] theorem zsb a:yf a ρ σ=(a ρ σ).bind Uv:=rfl
@[simp] theorem yjk:Uv [] σ=U (ϒ []) σ:=rfl
@[simp] theorem yjl a:Uv [a] σ=U (ϒ [a]) σ:=rfl
@[simp] theorem yjm a b:Uv [a,b] σ=U (ϒ [a,b]) σ:=rfl
@[simp] theorem yjn a b c:Uv [a,b,c] σ=U (ϒ [a,b,c]) σ:=rfl
@[simp] theorem yjo a b c d:Uv [a,b,c,d] σ=U (ϒ [a,b,c,d]) σ:=rfl
@[simp] theorem yjp a b c d e:Uv [a,b,c,d,e] σ=U (ϒ [a,b,c,d,e]) σ:=rfl
@[simp] theorem ycn a:Zi a ρ σ=(a ρ σ).bind pC:=nr rfl
@[simp] theorem zr4 a:No a ρ σ=(a ρ σ).bind fH:=rfl
@[simp] theorem yfp:fH [] σ=U (Y σ.length) (σ++[ώ []]):=nr rfl
@[simp] theorem yor g i j:oI g (Z i) (Z j) σ=U (Z$ g i j) σ:=nr rfl
@[simp] theorem yom g i j:oB g (Z i) (Z j) σ=U (ϓ$ g i j) σ:=nr rfl
theorem xF(h:C i j=U2):Zw C g (Z i) (Z j) σ=U (Z$ g i j) σ:=by
 show (if C i j=U2 then ret _ else Ib) σ=_;rw[na h];rfl
@[simp] theorem zwf i j(h:0<j)(a:j<1073741824):Nm (Z i) (Z j) σ=U (Z$ i / j) σ:=xF (by simp[iM,h,a])
@[simp] theorem bM i j(h:0<j):jj (Z i) (Z j) σ=U (Z$ i % j) σ:=xF (by simp[vO,h])
@[simp] theorem g9 i j(h:0<=j):Ly (Z i) (Z j) σ=U (Z$ i / 2 ^ j.toNat) σ:=xF (by simp[ZJ,h])
theorem Yz(h:Rv i j=U2):Ft (Z i) (Z j) σ=U (Z$ i ^ j.toNat) σ:=xF h
@[simp] theorem cQ:Ft (Z 10) (Z 12) σ=U (Z 1000000000000) σ:=Yz (by simp[Rv])
@[simp] theorem p6:Ft (Z 10) (Z 6) σ=U (Z 1000000) σ:=Yz (by simp[Rv])
@[simp] theorem p4:Ft (Z 10) (Z 4) σ=U (Z 10000) σ:=Yz (by simp[Rv])
@[simp] theorem p40:Ft (Z 10) (Z 40) σ=U (Z$ 10 ^ 40) σ:=Yz (by simp[Rv])
@[simp] theorem zwv i:iL (Z i) σ=U (Z$ -i) σ:=nr rfl
@[simp] theorem znp i j:lh (Z i) (Z j) σ=U (Z$ i+j) σ:=nr rfl
theorem ï{xs a}(h:xs.length+a.length<=Uf):lh (ϒ xs) (ϒ a) σ=U (ϒ$ xs++a) σ:=by show (if _ then _ else _:M D) σ=_;rw[na h];rfl
def Jz{xs a}(h:xs.length+a.length<=Uf):lh (ύ xs) (ύ a) σ=U (ύ$ xs++a) σ:=by
 show oz (ύ xs) (ύ a) σ=_;unfold oz;simp only[wf];rw[na h]
@[simp] theorem zn0 σ:Ux Ϛ Ϛ σ=U (ϓ U2) σ:=nr rfl
@[simp] theorem znz b:Ux (ύ b) Ϛ σ=U (ϓ ŝ) σ:=nr rfl
theorem uB(h:Og σ 8 x y=SY b):Hh x y σ=U (ϓ b) σ:=by unfold Hh;rw[h]
def wu(h:Og σ 8 x y=SY b):ah x y σ=U (ϓ$ !b) σ:=by unfold ah;rw[h]
@[simp] theorem zwg i j:Hh (Z i) (Z j) σ=U (ϓ$ i == j) σ:=uB rfl
@[simp] theorem zwu i j:ah (Z i) (Z j) σ=U (ϓ$ !(i == j)) σ:=wu rfl
@[simp] theorem zwh i j:Hh (ϐ i) (ϐ j) σ=U (ϓ$ i == j) σ:=uB rfl
theorem IB{xs}(h:rq xs k=SY d):Cb (ϒ xs) (Z k) σ=U d σ:=by show (match rq xs k with|some d=>_|none=>_)=_;rw[h]
def xI{xs}(h:rq xs k=SY d):Cb (ύ xs) (Z k) σ=U d σ:=by show (match rq xs k with|some d=>_|none=>_)=_;rw[h]
@[simp] theorem ym9 a r:Cb (ϒ$ a::r) (Z 0) σ=U a σ:=IB$ ut rfl
@[simp] theorem yna a b r:Cb (ϒ$ a::b::r) (Z 1) σ=U b σ:=IB$ ut rfl
@[simp] theorem ynb a b c r:Cb (ϒ$ a::b::c::r) (Z 2) σ=U c σ:=IB$ ut rfl
@[simp] theorem ync a b c d r:Cb (ϒ$ a::b::c::d::r) (Z 3) σ=U d σ:=IB$ ut rfl
@[simp] theorem tM xs:Dn [ϒ xs] σ=U (Z xs.length) σ:=nr rfl
@[simp] theorem zn1 xs:Dn [ύ xs] σ=U (Z xs.length) σ:=nr rfl
@[simp] theorem zn2 xs:Dn [.Vi xs] σ=U (Z xs.length) σ:=by simp[Dn,Nh]
@[simp] theorem zex xs:Hz [ύ xs] σ=U (ϒ xs) σ:=nr rfl
@[simp] theorem zkf o a:Qm o a ρ σ=(a ρ σ).bind o:=rfl
@[simp] theorem WR n f a b:Bf n f a b ρ σ=(b ρ σ).bind (Ko n f a):=rfl
@[simp] theorem Å f a:Ko 1 f [] [a] σ=f [a] σ:=by unfold Ko;rw[na ⋯];simp
@[simp] theorem ymc f a b:Ko 2 f [] [a,b] σ=f [a,b] σ:=by unfold Ko;rw[na ⋯];simp
@[simp] theorem W4 f a b c:Ko 3 f [] [a,b,c] σ=f [a,b,c] σ:=by unfold Ko;rw[na ⋯];simp
@[simp] theorem ydu f a b c:Ko 3 f [c] [a,b] σ=f [a,b,c] σ:=by unfold Ko;rw[na ⋯];simp
@[simp] theorem yme f a b c d:Ko 4 f [] [a,b,c,d] σ=f [a,b,c,d] σ:=by unfold Ko;rw[na ⋯];simp
@[simp] theorem ymf f a b c d e:Ko 5 f [] [a,b,c,d,e] σ=f [a,b,c,d,e] σ:=by unfold Ko;rw[na ⋯];simp
@[simp] theorem ymg f a b c d e g:Ko 6 f [] [a,b,c,d,e,g] σ=f [a,b,c,d,e,g] σ:=by unfold Ko;rw[na ⋯];simp
@[simp] theorem zye:Xh ρ σ=U (Ϙ ρ) σ:=rfl
@[simp] theorem Zf g h:Sb g h ρ σ=(g ρ σ).bind (uE h):=rfl
@[simp] theorem ug h ρ:uE h (Ϙ ρ) σ=h ρ σ:=rfl
@[simp] theorem zyo h d:uE h (.rt d) σ=U (.rt d) σ:=rfl
@[simp] theorem zyp h ρ x:uE h (.xc ρ x) σ=U (.xc ρ x) σ:=rfl
noncomputable def Yl(ρ:Ev)(k:α->M Fl):Ck α->Ck Fl
 | U a b=>k a b
 | .ex x b=>U (.xc ρ x) b
 | ϗ=>ϗ
@[simp] theorem Gm ρ(m:M α) k:xs ρ m k σ=Yl ρ k (m σ):=by unfold xs Yl;cases m σ<;>rfl
@[simp] theorem qm ρ k(a:α):Yl ρ k (U a σ)=k a σ:=rfl
@[simp] theorem yjw ρ(k:α->M Fl) x:Yl ρ k (.ex x σ)=U (.xc ρ x) σ:=rfl
@[simp] theorem zyg f:Di f ρ σ=Yl ρ pN (f ρ σ):=Gm ..
@[simp] theorem zx1 d:pN d σ=U (.rt d) σ:=rfl
@[simp] theorem AU f:Ri f ρ σ=Yl ρ (xL ρ) (f ρ σ):=Gm ..
@[simp] theorem qT d:xL ρ d σ=U (Ϙ ρ) σ:=rfl
@[simp] theorem DQ i f:de i f ρ σ=Yl ρ (Vt i ρ) (f ρ σ):=Gm ..
@[simp] theorem zys i d:Vt i ρ d σ=U (Ϙ$ ρ.set i$ SY d) σ:=rfl
@[simp] theorem yib t a b:jh t a b ρ σ=Yl ρ (kj (a ρ)$ b ρ) (t ρ σ):=Gm ..
@[simp] theorem zx7 f a:lM f a ρ σ=Yl ρ (sI a ρ) (f ρ σ):=Gm ..
@[simp] theorem ybg i j k a b c:sI (rl 3$ Vf (jc i)$ Vf (jc j)$ Vf (jc k) cm) ρ (ϒ [a,b,c]) σ=U (Ϙ$ ((ρ.set i$ SY a).set j$ SY b).set k$ SY c) σ:=rfl
@[simp] theorem zio c a:LM c a ρ σ=Yl ρ (CG c ρ) (a ρ σ):=Gm ..
@[simp] theorem zoq c d:CG c ρ [d] σ=U (.xc ρ ⟨c⟩) σ:=rfl
@[simp] theorem zyj g a:NL g a ρ σ=(g ρ σ).bind (SH a):=rfl
@[simp] theorem yaf a:SH a (Ϙ ρ) σ=U (Ϙ ρ) σ:=rfl
@[simp] theorem yag a x:SH a (.xc ρ x) σ=Py ρ x a σ:=rfl
theorem ų(e:h.t x.cls=SY U2):Py ρ x (h::r) σ=hit h ρ x σ:=by unfold Py;rw[e]
@[simp] theorem yem t g x:hit ⟨t,ń,g⟩ ρ x σ=(g ρ σ).bind qH:=rfl
@[simp] theorem yf2 d:qH (.rt d) σ=U (.rt d) σ:=rfl
@[simp] theorem uA n g a:ni n g a σ=Jp (g (a.map SY++List.replicate (n - a.length) ń) σ):=rfl
@[simp] theorem pT d:Jp (U (.rt d) σ)=U d σ:=rfl
@[simp] theorem EM:Jp (U (Ϙ ρ) σ)=U Ϛ σ:=rfl
@[simp] theorem zx5 x:Jp (U (.xc ρ x) σ)=.ex x σ:=rfl
@[simp] theorem ydw f:ud f σ=lg σ (f σ):=nr rfl
@[simp] theorem bp f:Sh f ρ σ=lg σ (f ρ σ):=nr rfl
theorem Gy(h:cl d=U2):fz k σ m d=SY d:=by cases m<;>(unfold fz;rw[na h])
def vP(h:cl d=U2)(b:a.take σ.length=σ):lg σ (U d a)=U d σ:=by
 unfold lg;dsimp only;rw[na b,Gy h]
@[simp] theorem zgy(h:cl d=U2):lg σ (U d σ)=U d σ:=vP h Md
theorem ML{j j':Ga}{xs}(h:xf xs=U2):lg σ (U (Y σ.length)$ σ++[ώ xs]++j)=U (ύ xs) σ:=by
 unfold lg;dsimp only;rw[na ⋯];have e:fz σ.length (σ++[ώ xs]++j) 6 (Y σ.length)=SY (ύ xs):=by
  unfold fz;dsimp only;rw[ya$ Ld _];have:(σ++[ώ xs]++j)[σ.length]?=SY (ώ xs):=by simp
  rw[this];dsimp only;have d:∀ a m,xf a=U2->vm (fz σ.length (σ++[ώ xs]++j) m) a=SY a:=by
   intro a m;induction a with
   |nil=>intro _;rfl
   |cons y a f=>
    intro c;have b:cl y=U2/\xf a=U2:=by simpa [xf]using c
    unfold vm;rw[Gy b.1,f b.2]
  rw[d xs 5 h];rfl
 rw[e]
@[simp] theorem V8 i:cl (Z i)=U2:=by simp[cl]
@[simp] theorem yk8 i:cl (ϓ i)=U2:=by simp[cl]
@[simp] theorem yb6 i:cl (ϐ i)=U2:=by simp[cl]
@[simp] theorem yb3:cl Ϛ=U2:=by simp[cl]
@[simp] theorem yb8 xs:cl (ϒ xs)=xf xs:=by simp[cl]
@[simp] theorem yb2 xs:cl (ύ xs)=xf xs:=by simp[cl]
@[simp] theorem yb5 n:cl (Y n)=ŝ:=by simp[cl]
@[simp] theorem zro:xf []=U2:=by simp[xf]
@[simp] theorem Š d a:xf (d::a)=(cl d && xf a):=by simp[xf]
theorem Jn:∀ {a:i'},(∀ d∈a,cl d=U2)->xf a=U2
 |[],_=>by simp
 |d::a,h=>by rw[Š,h d va,Jn λx b=>h x$ ja _ b];rfl
def CH{f:a->D}{l:List a}(h:∀ x,cl (f x)=U2):xf (l.map f)=U2:=Jn λd b=>by obtain⟨x,_,rfl⟩:=Xa.mp b;exact h x
@[simp] theorem zj5(l:em):xf (l.map Z)=U2:=CH V8
@[simp] theorem YT xs a:xf (xs++a)=(xf xs && xf a):=by
 induction xs with
 |nil=>simp
 |cons x xs b=>simp[b,ez]
theorem RM(h:Gu i j=U2):YS (Z i) (Z j) σ=U (Z$ i * j) σ:=xF h
def DU(h:-(2 ^ 64)<i)(a:i<2 ^ 64):Gu i j=U2:=by simp only[Gu,zp,sf,Da,Gc];exact ϑ ⟨h,a⟩
def RW(h:-(2 ^ 64)<j)(a:j<2 ^ 64):Gu i j=U2:=by simp only[Gu,zp,sf,Da,Gc];exact ϕ ⟨h,a⟩
theorem ũ{xs}{k}(a:0<=k)(h:k<xs.length):rq xs k=SY (xs.getD k.toNat Ϛ):=by
 obtain⟨n,rfl⟩:=Int.eq_ofNat_of_zero_le a;have b:n<xs.length:=by lia
 refine ut ?_;show xs[n]?=SY (xs.getD n Ϛ);rw[Ln,xb b];rfl
def Ò{a:em}{k:Int}(b:0<=k)(h:k<a.length):rq (a.map Z) k=SY (Z$ a.getD k.toNat 0):=by
 rw[ũ b (by simpa using h)];have c:k.toNat<a.length:=by lia
 simp[c]
@[simp] theorem ynw a:pC [a] σ=U (ύ [a]) σ:=nr rfl
@[simp] theorem ynv:pC [] σ=U (ύ []) σ:=nr rfl
@[simp] theorem ynx a b:pC [a,b] σ=U (ύ [a,b]) σ:=nr rfl
@[simp] theorem NA xs:Ce (σ++[ώ xs]) σ.length=SY xs:=by simp[Ce]
@[simp] theorem JD a b:(σ++[a]).set σ.length b=σ++[b]:=by
 rw[Wf _ _$ wa _];simp
@[simp] theorem zki o f a:qq o f a ρ σ=(f ρ σ).bind (Jr o$ a ρ):=rfl
theorem VC{xs}(h:wf σ x=SY xs):Jr o m x σ=(m σ).bind (o x):=by unfold Jr;rw[h];rfl
def MF{xs}(h:xs.length<1000):Pg (Y σ.length) [d] (σ++[ώ xs])=U Ϛ (σ++[ώ$ xs++[d]]):=by
 unfold Pg;simp only[NA];rw[na (show xs.length<Uf from h),JD]
def XN{ws:em}(h:Nh σ x=SY (ws.map Z)):Ht neg (Z w) x σ=U (ϓ (if neg then !(ws.any (·== w))else ws.any (·== w))) σ:=by
 have a:∀ l:em,(l.map Z).all Xw=U2:=λl=>by rw[List.all_map];exact List.all_eq_true.2 λ_ _=>rfl
 have b:∀ l:em,((l.map Z).any λz=>Cy z$ Z w)=l.any (·== w):=λl=>by rw[List.any_map];rfl
 unfold Ht;rw[h];simp only[a,b,show Xw (Z w)=U2 from rfl,Bool.and_self,Mi]
@[simp] theorem ziu xs:Nh (σ++[ώ xs]) (Y σ.length)=SY xs:=NA xs
@[simp] theorem iW xs:Nh σ (ύ xs)=SY xs:=nr rfl
@[simp] theorem zix xs:Nh σ (ϒ xs)=SY xs:=nr rfl
@[simp] theorem nH f:kg f ρ σ=(f ρ σ).bind mx:=nr rfl
@[simp] theorem zit a:mx (ϒ a) σ=U (.seq a) σ:=nr rfl
@[simp] theorem zis a:mx (ύ a) σ=U (.seq a) σ:=nr rfl
@[simp] theorem zzv f:io f ρ σ=(f ρ σ).bind ot:=nr rfl
theorem kF(h:-(2 ^ 62)<=j)(a:j<2 ^ 62):ot (Z j) σ=U (.seq$ Vz j.toNat) σ:=by
 unfold ot;dsimp only;rw[na (by simp only[zu,zp,Da,Gc];exact⟨h,a⟩)]
@[simp] theorem dw b c a:Fk b c a ρ σ=Yl ρ (UE c a ρ) (b ρ σ):=Gm ..
@[simp] theorem sG c a b:UE c a ρ (.seq b) σ=ek c a b ρ σ:=nr rfl
@[simp] theorem VY b a:ek b a [] ρ σ=U (Ϙ ρ) σ:=nr rfl
theorem Ay(h:tg d ρ=SY a):ek tg body (d::ds) ρ σ=(body a σ).bind (fx$ ek tg body ds):=by
 show (match tg d ρ with|none=>Ib|some a=>Ic (body a) (fx$ ek tg body ds)) σ=_;rw[h];rfl
@[simp] theorem xW i a d b:ek (jc i) a (d::b) ρ σ=(a (ρ.set i$ SY d) σ).bind (fx$ ek (jc i) a b):=Ay rfl
@[simp] theorem Vm k:fx k (Ϙ ρ) σ=k ρ σ:=nr rfl
theorem uu(h:m σ=U a b):Ms m σ=U a b:=by unfold Ms;rw[h]
end
section
variable{α β:Type}{ρ:Ev}{σ:Ga}
@[simp] theorem ziw a:Nh σ (.Vi a)=SY (a.map Z):=nr rfl
theorem W1(b:0<=k)(h:k<a.length):Cb (.Vi a) (Z k) σ=U (Z$ a.getD k.toNat 0) σ:=by
 simp[Cb,Ò b h]
@[simp] theorem znv c i:Ut c (Z i) σ=U (ϓ$ match c with | .int=>U2|_=>ŝ) σ:=nr rfl
@[simp] theorem zwl c i:Ut c (ϓ i) σ=U (ϓ$ match c with | .int=>U2 | .bool=>U2|_=>ŝ) σ:=nr rfl
@[simp] theorem zny xs:Ut .tuple (ϒ xs) σ=U (ϓ U2) σ:=nr rfl
@[simp] theorem zgm o d a b c:kJ o d a b c ρ σ=(a ρ σ).bind (mK o d (b ρ)$ c ρ):=nr rfl
noncomputable def pl:Nat->D->Bool
 |_,Ϛ=>U2
 |_,ϓ _=>U2
 |_,Z _=>U2
 |_,ϐ _=>U2
 |n+1,ϒ xs=>xs.all (pl n)
 |n+1,ύ xs=>xs.all (pl n)
 |_,_=>ŝ
theorem pla(n:Nat)(i:Int):pl n (Z i)=U2:=by cases n<;>rfl
theorem plb(n:Nat)(i:Str):pl n (ϐ i)=U2:=by cases n<;>rfl
theorem plc(n:Nat)(i:Bool):pl n (ϓ i)=U2:=by cases n<;>rfl
theorem pld(n:Nat)(x:i'):pl (n+1) (ϒ x)=x.all (pl n):=by cases x<;>rfl
theorem ple(n:Nat)(x:i'):pl (n+1) (ύ x)=x.all (pl n):=by cases x<;>rfl
theorem sM{f:D->D->Option Bool}:∀ {xs:i'},(∀ x∈xs,f x x=SY U2)->yi f xs xs=SY U2
 |[],_=>rfl
 |x::xs,h=>by unfold yi;rw[h x va,sM λy a=>h y$ ja _ a];rfl
theorem HD:∀ (n:Nat) (x:D),pl n x=U2->Og σ n x x=SY U2
 |0,x,h=>by cases x<;>first|exact congrArg some (beq_self_eq_true _)|rfl|cases h
 |n+1,x,h=>by
  cases x with
  |Nb=>rfl
  |bl b=>exact congrArg some (beq_self_eq_true _)
  |int b=>exact congrArg some (beq_self_eq_true _)
  |str b=>exact congrArg some (beq_self_eq_true _)
  |nb xs=>
   replace h:=List.all_eq_true.1 h;exact sM λy a=>HD n y$ h y a
  |ia xs=>
   replace h:=List.all_eq_true.1 h;exact sM λy a=>HD n y$ h y a
  |_=>trivial
def cD(h:pl 8 x=U2):Hh x x σ=U (ϓ U2) σ:=uB$ HD 8 x h
def sv(h:pl 8 x=U2):ah x x σ=U (ϓ ŝ) σ:=wu$ HD 8 x h
@[simp] theorem zo7 f b a:Vv f b a ρ σ=Yl ρ (JL ρ b a) (f ρ σ):=Gm ..
@[simp] theorem zgd o a b c x:mK o a b c x σ=(b σ).bind (WK o a c x):=nr rfl
@[simp] theorem zgf o a c x y:WK o a c x y σ=(o x y σ).bind (FN a c y):=nr rfl
@[simp] theorem zge a c y b:FN a c y (ϓ b) σ=kj (Ic c$ a y) (ret$ ϓ ŝ) b σ:=nr rfl
@[simp] theorem zpe b a d:JL ρ b a d σ=Yl ρ (cN ρ a d) (b ρ σ):=Gm ..
@[simp] theorem zpf a d x:cN ρ a d x σ=Yl ρ (Xv ρ d x) (a ρ σ):=Gm ..
@[simp] theorem zyt d a r:Xv ρ d (Y σ.length) (Z 0) (σ++[ώ$ a::r])=U (Ϙ ρ) (σ++[ώ$ d::r]):=by
 have:iA (Y σ.length) (Z 0) d (σ++[ώ$ a::r])=U () (σ++[ώ$ d::r]):=by
  simp only[iA,NA];rw[show Yp (a::r).length 0=SY 0 by simp[Yp]];simp
 unfold Xv;rw[this]
@[simp] theorem zyu d a b r:Xv ρ d (Y σ.length) (Z 1) (σ++[ώ$ a::b::r])=U (Ϙ ρ) (σ++[ώ$ a::d::r]):=by
 have:iA (Y σ.length) (Z 1) d (σ++[ώ$ a::b::r])=U () (σ++[ώ$ a::d::r]):=by
  simp only[iA,NA];rw[show Yp (a::b::r).length 1=SY 1 by simp[Yp];lia];simp
 unfold Xv;rw[this]
theorem MI(h:cl d=U2):lg σ (U d$ σ++[a])=U d σ:=vP h ⋯
@[simp] theorem zf1(f:a->Bool)(l:List a):eB (l.map λx=>ϓ$ f x)=SY (l.map f):=by
 induction l with
 |nil=>rfl
 |cons x l b=>simp[eB,b]
@[simp] theorem JS l:yes (l.map Z)=SY l:=by
 induction l with
 |nil=>rfl
 |cons x l a=>simp[yes,a]
theorem V9{f:a->Bool}{l:List a}:eH [ύ (l.map λx=>ϓ$ f x)] σ=U (ϓ$ l.all f) σ:=by
 simp only[eH];simp
def Ö(h:l.length<=1000):kH (ύ$ l.map Z) σ=U (Z (Fm l).length) σ:=by
 simp only[kH,wf,Zk,JS];rw[na (show l.length<=Uf from h)]
theorem jL:∀ (l s:em),(l.foldl PyProof.Rows.step_dedup s).length<=s.length+l.length/\((l.foldl PyProof.Rows.step_dedup s).length=s.length+l.length ↔ (l.Nodup/\∀ x∈l,x ∉ s))
 |[],s=>by simp
 |x::l,s=>by
  rw[zg];by_cases h:s.any (·== x)=U2
  ·have i:x∈s:=by simpa using h
   rw[show PyProof.Rows.step_dedup s x=s by unfold PyProof.Rows.step_dedup;rw[na h]];obtain⟨g,d⟩:=jL l s;refine⟨by simp;lia,λe=>?_,λe=>absurd i$ e.2 x va⟩;simp[Ab]at e;lia
  ·have i:x ∉ s:=by simpa using h
   rw[show PyProof.Rows.step_dedup s x=s++[x] by unfold PyProof.Rows.step_dedup;rw[ya h]];obtain⟨g,d⟩:=jL l (s++[x]);simp only[db,Ab,ri]at g d;refine⟨by simp[Ab];lia,?_⟩;rw[Ab,show s.length+(l.length+1)=s.length+(0+1)+l.length by lia,d,Cd];constructor
   ·rintro ⟨a,b⟩;refine⟨⟨λj=>(b x j) ⋯,a⟩,λy f=>?_⟩;rcases Ba.mp f with rfl|f;all_goals grind
   ·rintro ⟨⟨a,b⟩,c⟩;refine⟨b,λy f k=>?_⟩;all_goals grind
def r6 l:((Fm l).length:Int)=(l.length:Int) ↔ l.Nodup:=by
 have:=(jL l []).2;simp at this;unfold Fm;rw[<-this];lia
end
section
variable{ρ:Ev}{σ:Ga}
@[simp] theorem zkh c n a b:Dq c n a b ρ σ=(b ρ σ).bind (Jl c n a):=nr rfl
theorem UD(h:ds.length+1=n):Jl c n a ds σ=Fx σ.length (a (Y σ.length::ds)$ σ++[ϔ c []]):=by unfold Jl;rw[na h]
@[simp] theorem tK c b a:Jl c 2 b [a] σ=Fx σ.length (b [Y σ.length,a]$ σ++[ϔ c []]):=UD rfl
@[simp] theorem bR c d a b:Jl c 3 d [a,b] σ=Fx σ.length (d [Y σ.length,a,b]$ σ++[ϔ c []]):=UD rfl
@[simp] theorem ZS c g a b d e f:Jl c 6 g [a,b,d,e,f] σ=Fx σ.length (g [Y σ.length,a,b,d,e,f]$ σ++[ϔ c []]):=UD rfl
@[simp] theorem yz n:Fx n (U Ϛ σ)=U (Y n) σ:=nr rfl
@[simp] theorem vD a f c b:Rp a f c b ρ σ=Yl ρ (NJ ρ a f b) (c ρ σ):=Gm ..
@[simp] theorem NF a f b d:NJ ρ a f b d σ=Yl ρ (Vr ρ a f d) (b ρ σ):=Gm ..
theorem SB(h:cs.contains c=U2)(a:fs.length<1000):Vr ρ cs f d (Y σ.length) (σ++[ϔ c fs])=U (Ϙ ρ) (σ++[ϔ c$ Ih f d fs]):=by
 have e:iw cs f d (Y σ.length) (σ++[ϔ c fs])=U () (σ++[ϔ c$ Ih f d fs]):=by
  have:(σ++[ϔ c fs])[σ.length]?=SY (ϔ c fs):=by simp
  unfold iw;simp only[this];rw[na ⋯];simp
 unfold Vr;rw[e]
def Wp(h:a.length=ds.length):di σ (ϵ c a ds)=SY (c,a.zip ds):=by unfold di;dsimp only;rw[na h]
def Ph(h:di σ x=SY (c,fs))(a:cs.contains c=U2)(b:fs.lookup f=SY d):Cc cs f x σ=U d σ:=by
 unfold Cc;rw[h];dsimp only;rw[na a,b]
@[simp] theorem F8 b n m f a:Ye b n m f a ρ σ=(f ρ σ).bind (Pk b n m$ a ρ):=nr rfl
theorem Xp(h:di σ x=SY (c,d))(g:bq e c=SY a)(f:d.lookup m=ń):Pk e n m b x σ=(b σ).bind (Ai n a x):=by
 unfold Pk;rw[h];dsimp only;rw[g,f];rfl
def Iy(h:ds.length+1=n):Ai n a x ds σ=a (x::ds) σ:=by unfold Ai;rw[na h]
@[simp] theorem zvw a x:Ai 1 a x [] σ=a [x] σ:=Iy rfl
@[simp] theorem R8 b x a:Ai 2 b x [a] σ=b [x,a] σ:=Iy rfl
@[simp] theorem zvy c x a b:Ai 3 c x [a,b] σ=c [x,a,b] σ:=Iy rfl
@[simp] theorem zv0 e x a b c d:Ai 5 e x [a,b,c,d] σ=e [x,a,b,c,d] σ:=Iy rfl
theorem pH(h:xf (a.map (·.2))=U2):lg σ (U (Y σ.length)$ σ++[ϔ c a])=U (ϵ c (a.map (·.1)) (a.map (·.2))) σ:=by
 unfold lg;dsimp only;rw[na ⋯];have e:fz σ.length (σ++[ϔ c a]) 6 (Y σ.length)=SY (ϵ c (a.map (·.1)) (a.map (·.2))):=by
  unfold fz;dsimp only;rw[ya$ Ld _];have:(σ++[ϔ c a])[σ.length]?=SY (ϔ c a):=by simp
  have i:∀ b (m:Nat),xf b=U2->vm (fz σ.length (σ++[ϔ c a]) m) b=SY b:=by
   intro b m;induction b with
   |nil=>intro _;rfl
   |cons y b g=>
    intro f;have d:cl y=U2/\xf b=U2:=by simpa using f
    unfold vm;rw[Gy d.1,g d.2]
  simp_all
 rw[e]
@[simp] theorem yb4 c b a:cl (ϵ c b a)=xf a:=by simp[cl]
@[simp] theorem znx i:Ut .str (ϐ i) σ=U (ϓ U2) σ:=nr rfl
@[simp] theorem znw c:Ut c Ϛ σ=U (ϓ ŝ) σ:=by cases c<;>rfl
end
end Lake
namespace L2
open Spec
section
variable{κ:Type}[DecidableEq κ]
noncomputable def Lp(a:List$ κ × V)(k:κ):Option V:=(a.find? λb=>decide$ b.1=k).map (·.2)
noncomputable def xq(a:List$ κ × V)(k:κ)(v:V):List$ κ × V:=
 if (a.any λb=>decide$ b.1=k)=U2 then a.map (λb=>if b.1=k then (b.1,v)else b)else a++[(k,v)]
def QT{k:κ}(e:p.1=k):Lp (p::r) k=SY p.2:=by simp[Lp,Xd,e]
def CW{k:κ}(e:¬ p.1=k):Lp (p::r) k=Lp r k:=by simp[Lp,Xd,e]
def OK a(k:κ) v:(xq a k v).length<=a.length+1:=by
 unfold xq;split
 ·rw[Ha];lia
 ·rw[db,Ab,ri];lia
theorem Qp.An(r:Qp o u):o.isSome=u.isSome:=by
 cases o with
 |none=>cases u with
  |none=>rfl
  |some _=>exact(show False from r).elim
 |some _=>cases u with
  |none=>exact(show False from r).elim
  |some _=>rfl
def KV.val(r:KV a g)(k:κ):Qp (Lp a k)$ rn g k:=by
 unfold KV at r;induction r with
 |nil=>exact True.intro
 |@cons p q ps d h t j=>
  obtain⟨f,i⟩:=h;by_cases e:p.1=k
  ·have c:q.1=k:=f.symm.trans e;have b:rn (q::d) k=SY q.2:=by simp[rn,Xd,c]
   rw[QT e,b];exact i
  ·have c:¬ q.1=k:=λz=>e$ f.trans z;have b:rn (q::d) k=rn d k:=by simp[rn,Xd,c]
   rw[CW e,b];exact j
def KV.any(r:KV a c)(k:κ):(a.any λb=>decide$ b.1=k)=c.any λb=>decide$ b.1=k:=by
 unfold KV at r;induction r with
 |nil=>rfl
 |cons h t d=>rw[mf,mf,d,h.1]
def KV.IK(r:KV b d)(k:κ)(i:yd y u) :
  KV (b.map λa=>if a.1=k then (a.1,y)else a) (d.map λa=>if a.1=k then (a.1,u)else a):=by
 unfold KV at r ⊢;induction r with
 |nil=>exact Ϣ
 |@cons p q ps j h t g=>
  rw[Va,Va];refine Ϡ ?_ g;obtain⟨c,f⟩:=h;by_cases e:p.1=k
  ·rw[na e,na$ c.symm.trans e];exact⟨c,i⟩
  ·rw[ya e,ya (λz=>e$ c.trans z)];exact⟨c,f⟩
def KV.put(r:KV a b)(k:κ)(c:yd y u):KV (xq a k y)$ stored b k u:=by
 unfold xq stored;rw[r.any k];by_cases e:(b.any λd=>decide$ d.1=k)=U2
 ·rw[na e,na e];exact r.IK k c
 ·rw[ya e,ya e];exact Paired.snoc r ⟨rfl,c⟩
def KV.length(r:KV a b):a.length=b.length:=Paired.length r
end
def KF(r:yd (kV k) u):(dt P w).is k u=U2:=by
 cases k with
 |inl i=>obtain⟨t,e⟩:=(show ∃ t,u=Tl i t from r);subst e;exact OZ P w i t
 |inr x=>obtain⟨t,e⟩:=(show ∃ t,u=av x t from r);subst e;exact ò P w x t
section
variable{P:Aa}{w:Ta}{H:Hp}{h:Heap}{a:Addr}
def NZ(ok:Fi P w H h)(e:Rd H a u):Rk P w H h a u:=e.ok ok
def mu(ok:Fi P w H h)(e:Rd H a$ ϝ b):b.length<=sizeLine/\(a == gj)=ŝ/\∃ c,KV b c/\h.DictOf (dt P w) a c:=
 show Rk P w H h a (ϝ b)from NZ ok e
def iK(ok:Fi P w H h)(e:H a=SY (ϝ b)):b.length<=sizeLine/\(a == gj)=ŝ/\∃ c,KV b c/\h.DictOf (dt P w) a c:=mu ok$ ϑ e
end
def ql(H:Hp)(a:Addr)(y:V)(r:Option V):Prop:=
 ∃ b k,Rd H a (ϝ b)/\y=kV k/\r=Lp b k
def RE(H:Hp)(a:Addr)(y v:V)(c:Hp):Prop:=
 ∃ b k,H a=SY (ϝ b)/\y=kV k/\b.length<sizeLine/\c=Fb H a (ϝ$ xq b k v)
def RE.k{H}{a}{b}{k}{v}(e:H a=SY (ϝ b))(c:b.length<sizeLine):RE H a (kV k) v$ Fb H a$ ϝ$ xq b k v:=⟨b,k,e,rfl,c,rfl⟩
section
variable{pins:List$ Addr × Obj}{σ:St}{H:Hp}{s:Shared}{a:Addr}{y v:V}{u r:Value}{o:Option V}{A:Ma}{E:Value->Shared->Prop}
def gb.uQ(I:gb X pins σ H s):gj<s.heap.objs.size:=by
 have h:mainGlobals<s.heap.objs.size:=(I.mod.glob.keeps I.bk).lt;exact Kq ⋯ h
def zgh(t:A.units+7<cLine)(I:gb X pins σ H s)(g:ql H a y$ SY v)(p:yd y u)(h:∀ b f,gb X pins σ H f->yd v b->Q b f) :
  wpAny (model X.prog X.w) A (ai (Xb a) u) Q E s:=by
 obtain⟨n,k,e,j,l⟩:=g
 ·subst j;obtain⟨z,r,q,c,i⟩:=mu I.Kc e;obtain⟨b,m,d⟩:=Qp.some_of (v:=v) (o:=rn q k) (by rw[l];exact c.val k);exact wpAny_getItem_of (KF p) i.mapOf m$ h b _ (I.tok _) d
def Ņ(n:A.units+7<cLine)(I:gb X pins σ H s)(g:ql H a y o)(m:yd y u)(h:∀ c,gb X pins σ H c->Q (Lj o.isSome) c) :
  wpAny (model X.prog X.w) A (yb .In u$ Xb a) Q E s:=by
 obtain⟨j,k,e,f,l⟩:=g
 ·subst f;obtain⟨z,i,p,b,d⟩:=mu I.Kc e;refine wpAny_in_of (KF m) i d.mapOf ?_;rw[<-(b.val k).An,<-l];exact h _$ I.tok _
def Ξ(n:A.units+7<cLine)(I:gb X pins σ H s)(g:ql H a y o)(m:yd y u)(h:∀ c,gb X pins σ H c->Q (Lj$ !o.isSome) c) :
  wpAny (model X.prog X.w) A (yb .NotIn u$ Xb a) Q E s:=by
 obtain⟨j,k,e,f,l⟩:=g
 ·subst f;obtain⟨z,i,p,b,d⟩:=mu I.Kc e;refine wpAny_notIn_of (KF m) i d.mapOf ?_;rw[<-(b.val k).An,<-l];exact h _$ I.tok _
def uL(I:gb X pins σ H s)(i:VE$ H a)(h:Yc a s.heap h')(g:∃ q,h'.get? a=SY q)(c:Rk X.prog X.w (Fb H a d) h' a d) :
  gb X pins σ (Fb H a d) { s with heap:=h',toks:=t' }:=
 I.write (x:=a) (e:=a) i (ϑ rfl) (λb q f z=>(h.2 b f).trans z) g c
def YG(z:b.length<=sizeLine)(h:(a == gj)=ŝ)(c:KV b d)(g:e.DictOf (dt P w) a d) :
  Rk P w f e a$ ϝ b:=⟨z,h,d,c,g⟩
def B1(J:A.units+7<cLine)(I:gb X pins σ H s)(g:RE H a y v f)(F:yd y u)(D:yd v r)(h:∀ i,gb X pins σ f i->Q () i) :
  wpAny (model X.prog X.w) A (bv (Xb a) u r) Q E s:=by
 obtain⟨c,k,e,n,l,m⟩:=g
 ·subst n m;obtain⟨z,o,G,d,j⟩:=iK I.Kc e;have C:G.length<=sizeLine:=by rw[<-d.length];exact z
  have t:(xq c k v).length<=sizeLine:=by have:=OK c k v;lia
  refine wpAny_setItem_pairs (hsz:=C) (KF F) j λh' b B=>h _ ?_;have p:∃ q,h'.get? a=SY q:=let ⟨q,_,_,x,_⟩:=b;⟨q,x⟩;exact uL I (by rw[e];exact True.intro) B p$ YG t o (d.put k D) b
end
def JM(i:Na):Prop:=∀ b a,Uo i ŝ b a=operate [b,a] (ai b a)
def À{T t}
  (p:typeLookup (Wh T) "__getitem__" = pure (SY$ Ϟ t)) (q:JM b)
  (h:wpAny (model a w) A (Mb c j) (λo f=>wpAny (model a w) A (Mb b j) (λi d=>d.TypeIs o T/\wpAny (model a w) A (ai o i) Q E d) E f) E s) :
  wpAny (model a w) A (Mb (ϣ c b m) j) Q E s:=by
 refine CA (nc h (λo f k=>nc k (λi d e=>?_) λu u x=>x) λu u x=>x);obtain⟨n,e⟩:=e;unfold aY;refine ba ?_;rw[getitemInPython_of_ne n.not_modules];refine ba$ wJ n p ?_;have Df:wpAny (model a w) A (Uo b ŝ o i) (λr g=>wpAny (model a w) A (letTemporaryGo c o r >>= λu=>pure r) Q E g) E d:=by
  rw[q o i];exact wpAny_operating (nc e (λr g l=>ba$ wpAny_letTemporaryGo$ ga l) λu u x=>x)
 first
  |exact ga$ ba Df
  |exact ba$ ga$ ba Df
  |exact ba Df
def å(I:gb X b f H s)(g:ql H a y o):s.TypeIs (Xb a) "dict":=by
 obtain⟨d,k,e,_,_⟩:=g
 ·obtain⟨_,_,h,_,c⟩:=mu I.Kc e;exact c.typeIs
noncomputable def ċ(e ty:TE):TE:=λc H Q=>e c H λx d=>ty c d λy b=>∃ a v,x=ϙ a/\ql b a y (SY v)/\Q v b
section
variable{o i e value:Na}{pos pos' tpos:Vd}{td ty tv:TE}
def zxc(p:X.A.units+7<cLine)(m:PE X o td)(l:PE X i ty)(n:JM i):PE X (ϣ o i pos)$ ċ td ty:=by
 intro b s e H Q I h;refine À PySem.F.slot_dict_getitem.lookup n (pd (m b s e H _ I h) λu s1 zZ=>?_);obtain⟨x,H1,j,t,q⟩:=zZ;refine pd (l b s1 e H1 _ j q) λz s2 zZ=>?_;obtain⟨y,f,d,w,a,v,ex,g,r⟩:=zZ;subst ex;obtain rfl:u=Xb a:=t;exact⟨å d g,zgh p d g w λC B k c=>⟨v,f,k,c,r⟩⟩
end
def P0(h:Heap)(a:gj<h.objs.size):Rk P w H (h.push { cls:=Wh "dict",data:=.dict #[] }) h.objs.size$ ϝ []:=
 ⟨yh _,Ie.mpr$ Ud$ za a,[],Ϣ,UO h⟩
def Ď:TE:=λa H Q=>∀ p,H p=ń->Q (ϙ p) (Fb H p$ ϝ [])
section
variable{pos:Vd}
def UW:PE X (.Dict [] [] pos) Ď:=λb s c H Q I h=>
 wpAny_Dict_empty ⟨ϙ s.heap.objs.size,_,I.laid (a:=s.heap.objs.size) (o:=ϝ []) (t':=s.toks) (λb b q=>da _ q) (wa _)$ P0 s.heap I.uQ,rfl,h _$ I.Kc.fresh$ wa _⟩
end
section
variable{pins:List$ Addr × Obj}{σ:St}{H:Hp}{s:Shared}{a:Addr}{kvs:List$ Vc × V}{A:Ma}{E:Value->Shared->Prop}
def L5(I:gb X pins σ H s)(e:Rd H a$ ϝ kvs)(h:∀ p g,H p=ń->gb X pins σ (Fb H p$ ϝ kvs) g->Q (Xb p) g):wpAny (model X.prog X.w) A (call (Wh "dict") [Xb a]) Q E s:=by
 obtain⟨z,j,l,c,i⟩:=mu I.Kc e;refine kt_call_dict j i (by rw[<-c.length];exact z) λh' d k=>?_;refine h _ _ (I.Kc.fresh$ wa _)$ I.laid (a:=s.heap.objs.size) (o:=ϝ kvs) (t':=s.toks) (λb q f=>?_) (wa _)$ YG z (Ie.mpr$ Ud$ za I.uQ) c d;exact(k.2 b$ za$ xa f).trans$ da _ f
end
end L2
namespace Lake
open Spec L2
noncomputable def Jk:D->Option Vc
 | Z i=>SY (.inl i)
 | ϐ x=>SY (.inr x)
 |_=>ń
noncomputable def Of(b:Ga):D->Option (List$ Vc × D)
 | Ϭ ks xs=>if ks.length=xs.length then SY (ks.zip xs)else ń
 | Y n=>(match b[n]? with
  |some (Ϗ a)=>SY a
  |some (ϥ a)=>SY a
  |_=>ń)
 |_=>ń
noncomputable def Wk(a:List$ Vc × D)(k:Vc):Option D:=(a.find? λb=>decide$ b.1=k).map (·.2)
noncomputable def Ji(a:List$ Vc × D)(k:Vc)(d:D):List$ Vc × D:=
 if a.any (λb=>decide$ b.1=k)then a.map λb=>if b.1=k then (b.1,d)else b else a++[(k,d)]
section
variable{μ:b'}{H:Hp}
def IE(h:Ja T μ H y v)(e:Jk y=SY k):v=kV k:=by
 cases y<;>simp[Jk]at e<;>subst e<;>rw[Ja]at h<;>exact h
theorem lI:∀ {ks:List Vc} {ds:i'} {a:List$ Vc × V},a.map (·.1)=ks->Db T μ H ds (a.map (·.2))->gi T μ H (ks.zip ds) a
 |ks,[],a,c,b=>by
  rw[Db]at b;have:a=[]:=by simpa using b
  subst this;rw[<-c];exact Ϣ
 |ks,d::ds,a,c,b=>by
  obtain⟨v,r,e,f,g⟩:=b;cases a with
  |nil=>cases e
  |cons p a=>
   cases e;rw[<-c];exact Ϡ ⟨rfl,f⟩$ lI rfl g
def Wy(r:gd T μ H i)(h:Ja T μ H x v)(e:Of i x=SY f):∃ a b,v=ϙ a/\Rd H a (ϝ b)/\gi T μ H f b:=by
 cases x with
 |Pa ks xs=>
  obtain⟨a,b,rfl,_,c,d,j⟩:=h;unfold Of at e;dsimp only at e;split at e
  ·cases e;exact⟨a,b,rfl,c,lI d j⟩
  ·cases e
 |ref n=>
  unfold Of at e;dsimp only at e;cases q:i[n]? with
  |none=>simp_all
  |some o=>
   rw[q]at e;cases o with
   |Pa g=>
    cases e;obtain⟨a,rfl,_,b,c,d⟩:=r.at h q;exact⟨a,b,rfl,ϑ c,d⟩
   |vc g=>
    cases e;obtain⟨a,rfl,_,ob,b,c,d⟩:=r.at h q;exact⟨a,b,rfl,ϕ ⟨ob,c⟩,d⟩
   |_=>cases e
 |_=>cases e
def lD(h:gi T μ H a c) k:(Wk a k=ń/\Lp c k=ń)\/∃ d v,Wk a k=SY d/\Lp c k=SY v/\Ja T μ H d v:=by
 induction h with
 |nil=>exact ϑ ⟨rfl,rfl⟩
 |@cons p q ps l h t j=>
  obtain⟨g,i⟩:=h;by_cases e:p.1=k
  ·have b:=g.symm.trans e;exact ϕ ⟨p.2,q.2,by unfold Wk;rw[Xd,zf e];rfl,QT b,i⟩
  ·have b:=λz=>e$ g.trans z;have f:Wk (p::ps) k=Wk ps k:=by unfold Wk;rw[Xd,re e]
   rw[f,CW b];exact j
def UZ(h:gi T μ H a c) k:(a.any λb=>decide$ b.1=k)=(c.any λb=>decide$ b.1=k):=by
 induction h with
 |nil=>rfl
 |@cons p q ps e h t d=>simp_all
theorem vU{d e:Type}{F:d->e->Prop}{f:d->d}{g:e->e}(c:∀ a b,F a b->F (f a) (g b)):∀ {l:List d} {m:List e},Paired F l m->Paired F (l.map f) (m.map g)
 |_,_,Ϣ=>Ϣ
 |_,_,Ϡ h t=>Ϡ (c _ _ h) (vU c t)
theorem gX{d e:Type}{F:d->e->Prop}{a:d}{b:e}(c:F a b):∀ {l:List d} {m:List e},Paired F l m->Paired F (l++[a]) (m++[b])
 |_,_,Ϣ=>Ϡ c Ϣ
 |_,_,Ϡ h t=>Ϡ h (gX c t)
def RJ(h:gi T μ H a b) k(c:Ja T μ H d v):gi T μ H (Ji a k d)$ xq b k v:=by
 unfold Ji xq;rw[UZ h k];split
 ·refine vU (λp q h=>?_) h;by_cases e:p.1=k;all_goals simp_all
 ·exact gX ⟨rfl,c⟩ h
def gi.mono(e:Tc μ H b c)(h:gi T μ H a d):gi T b c a d:=Paired.Mr h λf f z=>⟨z.1,Ja.mono e _ _ z.2⟩
def _root_.L2.ql.kr(e:Rd H a$ ϝ b):ql H a (kV k)$ Lp b k:=⟨b,k,e,rfl,rfl⟩
def gk(x y:D):M D:=λb=>match Jk y with
 |some k=>(match Of b x with
  |some a=>(match Wk a k with
   |some d=>U d b
   |none=>ϗ)
  |none=>ϗ)
 |none=>ϗ
def zN(hu:X.A.units+9<cLine)(F:FE T X o p)(E:FE T X i fi)(K:JM i):FE T X (ϣ o i g)$ Sa gk p fi:=by
 intro c s st H Q I h;refine zxc ⋯ F E K c s st H Q I ?_;obtain⟨μ,ρ,W,q,J,G⟩:=h;refine⟨μ,ρ,W,q,J,G.bind λx m l v ϋ D t R O N=>⟨l,ρ,m,q.mono t,R,N.bind λy n V u ϊ D z r P b=>?_⟩⟩;unfold gk at b;cases f:Jk y with
 |none=>rw[f]at b;exact b.elim
 |some k=>
  rw[f]at b;cases e:Of n x with
  |none=>rw[e]at b;exact b.elim
  |some L=>
   rw[e]at b;dsimp only at b;obtain⟨a,vs,rfl,B,C⟩:=Wy r (Ja.mono z _ _ O) e;obtain rfl:=IE P f;rcases lD C k with⟨j,_⟩|⟨d,w,j,S,ό⟩
   ·rw[j]at b;exact b.elim
   ·rw[j]at b;exact⟨a,w,rfl,by rw[<-S];exact ql.kr B,Vb.here b r ό⟩
noncomputable def HW:R2:=λy x H Q=>∃ a o,x=ϙ a/\ql H a y o/\Q (Ϩ o.isSome) H
def pQ(f:X.A.units+9<cLine):Dg X (yb .In) HW:=by
 rintro b s j H y x h u Q I e d ⟨a,o,rfl,g,q⟩;obtain rfl:u=Xb a:=d;exact Ņ ⋯ I g e λi c=>⟨Ϩ o.isSome,H,c,rfl,q⟩
def Ps(y x:D):M D:=λb=>match Jk y with
 |some k=>(match Of b x with
  |some a=>U (ϓ (Wk a k).isSome) b
  |none=>ϗ)
 |none=>ϗ
theorem rT:mj T HW Ps:=by
 intro E μ H m y x u v Q r q p h;unfold Ps at h;cases c:Jk y with
 |none=>rw[c]at h;exact h.elim
 |some k=>
  rw[c]at h;cases b:Of m x with
  |none=>rw[b]at h;exact h.elim
  |some j=>
   rw[b]at h;obtain⟨a,l,rfl,g,i⟩:=Wy r p b;obtain rfl:=IE q c;refine⟨a,Lp l k,rfl,ql.kr g,Vb.here h r ?_⟩;rcases lD i k with⟨e,f⟩|⟨d,w,e,f,n⟩
   ·rw[e,f];rfl
   ·rw[e,f];rfl
noncomputable def v8:JI:=λx y v H Q=>∃ a b,x=ϙ a/\RE H a y v b/\Q b
def A5(k:X.A.units+9<cLine):vN X v8:=by
 rintro b s st H o i v e l u Q I h f j ⟨a,c,rfl,g,q⟩;obtain rfl:e=Xb a:=h;exact B1 ⋯ I g f j λm d=>⟨c,d,q⟩
def wo(c:Ev)(d x:D)(y:D):M Fl:=λb=>match x with
 | Y n=>(match Jk y with
  |some k=>(match b[n]? with
   |some (Ϗ a)=>if a.length<Uf then U (Ϙ c) (b.set n$ Ϗ$ Ji a k d)else ϗ
   |_=>ϗ)
  |none=>ϗ)
 |_=>ϗ
def HK(a:Ev)(b:Ev->M D)(d x:D):M Fl:=xs a (b a)$ wo a d x
def MO(a:Ev)(c b:Ev->M D)(d:D):M Fl:=xs a (c a)$ HK a b d
def Ts(f c b:Ev->M D):Ev->M Fl:=λa=>xs a (f a)$ MO a c b
def bW(hu:X.A.units+9<cLine)(ϊ:FE T X e f)(ho:FE T X o Q)(hi:FE T X i fi)
  (ϋ:∀ v,xk (ϣ o i b) X.env v=(do
   let t <-Be [v] (Mb o X.env);let F <-Be [v,t] (Mb i X.env)
   wh b
   Be [v,t,F] (bv t F v)
   release [v,t,F] []):=by intro _;rfl)
  (hs:(lm [ϣ o i b] e p.line X.env=pure ŝ)⁻¹) (hw:(om [ϣ o i b] e X.env=pure ń)⁻¹)
  (W:((Yd [ϣ o i b] X.env).map (·.2)=[xk (ϣ o i b) X.env])⁻¹):FS T X (Ϻ [ϣ o i b] e p)$ Ts f Q fi:=by
 intro m s st H D I hq;refine pM ϊ (DV ho hi (A5 hu) ϋ) hs hw W m s st H D I ?_;obtain⟨μ,ρ,σ,g,hr,hp⟩:=hq;refine⟨μ,ρ,σ,g,hr,hp.xs g λd L J v H1 d h r1 q1 p1=>⟨J,ρ,L,g.mono h,r1,p1.xs (g.mono h) λx N K vo H2 d r r2 q2 p2=>⟨K,ρ,N,(g.mono h).mono r,r2,p2.xs ((g.mono h).mono r) λy O q vi P d u ό q3 c=>?_⟩⟩⟩;have hx:=Ja.mono u _ _ q2;unfold wo at c;cases x with
 |ref n=>
  dsimp only at c;cases w:Jk y with
  |none=>rw[w]at c;exact c.elim
  |some k=>
   rw[w]at c;cases B:O[n]? with
   |none=>rw[B]at c;exact c.elim
   |some ob=>
    rw[B]at c;cases ob with
    |Pa l=>
     dsimp only at c;by_cases E:l.length<Uf
     ·rw[na E]at c;obtain⟨a,rfl,S,V,R,C⟩:=ό.at hx B;obtain rfl:=IE q3 w;have G:=ό.write (ob:=Ϗ _) S ⟨_,ng,by
       have ex:Tc q P q$ Fb P a$ ϝ$ xq V k v:=qu (ua S) R (λd z=>by cases z) (λd d z=>by cases z);exact RJ (gi.mono ex C) k$ Ja.mono ex _ _$ Ja.mono u _ _$ Ja.mono r _ _ q1⟩
      have j:V.length=l.length:=by unfold gi at C;exact(Paired.length C).symm
      exact⟨a,_,rfl,RE.k R (by rw[j];exact La E ⋯),c _ (ϸ st) _ G.1 G.2$ ((g.mono h).mono r).mono u |>.mono G.1⟩
     ·rw[ya E]at c;exact c.elim
    |_=>exact c.elim
 |_=>exact c.elim
noncomputable def ir:Ev->M D:=λb a=>U (Y a.length)$ a++[Ϗ []]
def C8:FE T X (.Dict [] [] b) ir:=by
 rintro a s f H Q I ⟨μ,ρ,h,g,d,e⟩;exact UW a s f H Q I λp c=>(e _ _ _ (Dw c) (d.push c ⟨[],ng,Ϣ⟩)$ yD d)
def X4:FE T X (.Dict [] [] c)$ eC$ Ϭ [] []:=by
 rintro a s h H Q I ⟨μ,ρ,j,i,d,g⟩;exact UW a s h H Q I λp b=>(g μ _ _ (Zj b) (d.fresh b)$ by rw[Ja];exact⟨p,[],rfl,λf=>(by obtain⟨u,e,_⟩:=d.mem f;rw[b]at e;cases e),(ϑ ng),rfl,Db.nil⟩)
def FM:h8->Hp->VK->Prop:=λxs H Q=>∃ a b,xs=[ϙ a]/\Rd H a (ϝ b)/\∀ p,H p=ń->Q (ϙ p) (Fb H p$ ϝ b)
def zT:zo X (Wh "dict") FM:=by
 rintro b s h H xs i Q I r ⟨a,f,rfl,e,q⟩;obtain⟨u,rfl,rfl⟩:=yr r;exact L5 I e λp g d c=>⟨ϙ p,_,c,rfl,q p d⟩
def wD(c:i'):M D:=λb=>match c with
 |[x]=>(match Of b x with
  |some a=>U (Ϭ (a.map (·.1)) (a.map (·.2))) b
  |none=>ϗ)
 |_=>ϗ
theorem YV:∀ {a:List$ Vc × D} {b:List$ Vc × V},gi T μ H a b->b.map (·.1)=a.map (·.1)/\Db T μ H (a.map (·.2)) (b.map (·.2)):=by
 intro _ _ h;induction h with
 |nil=>exact⟨rfl,Db.nil⟩
 |cons h _ i=>exact⟨by rw[Va,Va,i.1,h.1],Db.cons h.2 i.2⟩
def WZ:Hr T FM wD:=by
 intro E μ H n ds q Q r p h
 match ds with
 |[]=>trivial
 |[x]=>
  unfold wD at h;dsimp only at h;cases c:Of n x with
  |none=>rw[c]at h;exact h.elim
  |some i=>
   rw[c]at h;obtain⟨v,o,rfl,j,rfl⟩:=p;obtain⟨a,ws,rfl,e,f⟩:=Wy r j c;refine⟨a,ws,rfl,e,λl b=>?_⟩;obtain⟨k,m⟩:=YV f;exact h μ _ _ (Zj b) (r.fresh b) (by rw[Ja];exact⟨l,ws,rfl,λg=>(by obtain⟨u,d,_⟩:=r.mem g;rw[b]at d;cases d),(ϑ ng),k,Db.mono (Zj b) _ _ m⟩)
 |_::_::_=>trivial
end
structure InK(K:ϖ)(C:Addr):Prop where
 cl:L2.kq K C
 a:W.findIn K (Xb C) "__class__" = SY (SY (Ϟ "object.__class__"))
 n:W.specialIn K (Ϟ "object.__class__") "__get__" = SY (SY (Ϟ "getset_descriptor.__get__"))
 t:W.takesIn K (Ϟ "object.__class__")=SY U2
 m:Ϲ K C (Wh "object")=SY U2
def n4(K:ϖ)(c:Addr):h8->Hp->VK->Prop:=λxs H Q=>∃ a C d e b,xs=[ϙ a,ϙ c]/\H a=SY (.Eb C d e)/\InK K C/\Ϫ K (Xb C) (Xb c)=SY b/\Q (Ϩ b) H
def ý:zo X (Ϟ "isinstance")$ n4 X.K cv:=by
 rintro c s i H xs k Q I r ⟨a,C,g,h,b,rfl,d,ϊ,e,q⟩;obtain⟨u,u2,rfl,f,rfl⟩:=RS r;exact fQ I f (.Eb d ϊ.cl ϊ.a ϊ.n ϊ.t ϊ.m) e λj=>⟨Ϩ b,H,I.tok _,rfl,q⟩
noncomputable def kD(t:Nat->Option Bool)(x:D):M D:=λa=>match di a x with
 |some (c,_)=>(match t c with|some b=>U (ϓ b) a|none=>ϗ)
 |none=>ϗ
def LG(K:ϖ)(a:Nat->Addr)(b:Addr)(l:List$ Nat × Bool):Prop:=∀ p∈l,InK K (a p.1)/\Ϫ K (Xb$ a p.1) (Xb b)=SY p.2
def Ő{K}:LG K a b []:=λc h=>nomatch h
def kx{K}(z:InK K$ a c)(h:Ϫ K (Xb$ a c) (Xb d)=SY b)(r:LG K a d l):LG K a d$ (c,b)::l:=λp e=>by
 rcases Ba.mp e with rfl|e
 ·exact⟨z,h⟩
 ·exact r p e
def Ω(hK:T.K=X.K)(F:FE T X e f)(G:Gl X "isinstance")(J:X.mg "isinstance" = ń)(q:Gl X y)(o:(y == ("__debug__" : Str))=ŝ)(E:X.mg y=SY (Xb g))
  (O:LG X.K T.ca g l)
  (u:(qa [e,ϛ y k] X.env=(ŝ,Mb e X.env)::qa [ϛ y k] X.env)⁻¹) (r:((Zb j$ qa [ϛ y k] X.env).any (·.1)=ŝ)⁻¹) :
  FE T X (ϟ (ϛ "isinstance" p) [e,ϛ y k] [] j)$ be (kD$ lx l) f:=by
 intro i s R H Q I h;refine JF (ý (cv:=g)) G J tJ (jq F (jq (NI (v:=ϙ g) q E rfl o) ou) u) ⋯ ⋯ u r i s R H Q I ?_;obtain⟨W,ρ,ϊ,C,N,L⟩:=h;refine⟨W,ρ,ϊ,C,N,L.bind λx t ϋ v H1 D e1 w P d=>?_⟩;unfold kD at d;cases m:di t x with
 |none=>rw[m]at d;exact d.elim
 |some z=>
  obtain⟨c,fs⟩:=z;rw[m]at d;dsimp only at d;cases n:lx l c with
  |none=>rw[n]at d;exact d.elim
  |some b=>
   rw[n]at d;obtain⟨a,A,S,rfl,B,_⟩:=sy w P m;obtain⟨ό,V⟩:=O _ (YJ n);exact⟨a,T.ca c,A,S,b,rfl,B,ό,V,Vb.here d w (by rw[Ja])⟩
def L0(h:di a x=SY (c,d))(e:lx l c=SY b):kD (lx l) x a=U (ϓ b) a:=by
 unfold kD;rw[h];dsimp only;rw[e]
noncomputable def tH:List (Vc × D)->List (Vc × D)->Bool
 |[],[]=>U2
 |(k,Z i)::r,(a,Z j)::b=>decide (k=a) && (i == j) && tH r b
 |_,_=>ŝ
theorem eZ:∀ {l:List$ Vc × D},(∀ p∈l,∃ i,p.2=Z i)->tH l l=U2
 |[],_=>rfl
 |(k,d)::r,h=>by
  obtain⟨i,rfl⟩:=h _ va;show (_&&tH r r)=U2;rw[eZ λp a=>h p$ ja _ a];simp
def yvg(x y:D):M D:=λa=>match Of a x with
 |some b=>(match Of a y with
  |some c=>if tH b c=U2 then U (ϓ U2) a else ϗ
  |none=>ϗ)
 |none=>ϗ
noncomputable def ID(o:Int->Int->Int)(i:Nat)(c:Ev)(x d:D):M Fl:=λe=>match x,d with
 | Z a,Z b=>U (Ϙ$ c.set i$ SY$ Z$ o a b) e
 |_,_=>ϗ
def qy(o:Int->Int->Int)(i:Nat)(f:Ev->M D):Ev->M Fl:=λa=>match a[i]? with
 |some (SY x)=>xs a (f a) (ID o i a x)
 |_=>λb=>ϗ
def xS(h:ρ[i]?=SY (SY x)):qy o i f ρ a=Yl ρ (ID o i ρ x) (f ρ a):=by
 unfold qy;rw[h];exact Gm ..
@[simp] theorem zq8 o i c a b d:ID o i c (Z a) (Z b) d=U (Ϙ$ c.set i$ SY$ Z$ o a b) d:=nr rfl
section
variable{e:Na}{f:Ev->M D}{pos:Vd}
def vX(B:wM X n$ IU o)(u:X.N.Nodup)(A:X.N[i]?=SY x)(F:Loc X.env.scope x)(w:FE T X e f)(z:X.fn x=U2\/X.env.scope.names.lookup x=SY .local:=by first|exact .inl rfl|exact .inr rfl|assumption) :
  FS T X (.AugAssign (ϛ x j) n e pos)$ qy o i f:=by
 intro h s st H D I E;refine PZ u A F w B z h s st H D I ?_;obtain⟨K,ρ,M,l,C,c⟩:=E;unfold qy at c;cases k:ρ[i]? with
 |none=>rw[k]at c;exact c.elim
 |some q=>
  cases q with
  |none=>rw[k]at c;exact c.elim
  |some d=>
   rw[k]at c;obtain⟨v,r,t⟩:=l.2 i d k;refine⟨v,r,K,ρ,M,l,C,c.xs l λy O L Q P R p J G m=>?_⟩;cases d with
   |int a=>
    cases y with
    |int b=>
     subst t G;exact⟨a,b,rfl,rfl,Vb.here (g:=ϸ _) m J$ (l.mono p).set i (by rw[Ja])⟩
    |_=>exact m.elim
   |_=>exact m.elim
end
def vA(o:D->i'->M D)(m:M$ i')(x:D):M D:=λa=>match Of a x with
 |some _=>Ic m (o x) a
 |none=>ϗ
def RH(o:D->i'->M D)(f:Ev->M D)(b:Ev->M (i')):Ev->M D:=λa=>Ic (f a)$ vA o$ b a
def ER:V->h8->Hp->VK->Prop:=λx c H Q=>∃ a b k d,x=ϙ a/\c=[kV k,d]/\H a=SY (ϝ b)/\b.length<sizeLine/\
 (∀ v,Lp b k=SY v->Q v H)/\(Lp b k=ń->Q d (Fb H a$ ϝ$ xq b k d))
def Vw(x:D)(xs:i'):M D:=λb=>match x,xs with
 | Y n,[y,d]=>(match Jk y with
  |some k=>(match b[n]? with
   |some (Ϗ a)=>if a.length<Uf then (match Wk a k with
    |some e=>U e b
    |none=>U d (b.set n$ Ϗ$ Ji a k d))else ϗ
   |_=>ϗ)
  |none=>ϗ)
 |_,_=>ϗ
section
variable{o e:Na}{es:List Na}{f:Ev->M D}{fs:Ev->M (i')}{name:Str}{apos cpos:Vd}{id:String}{r:V->h8->Hp->VK->Prop}{g:D->i'->M D}
def Î:Ry X "dict.setdefault" ER:=by
 rintro l s st H x M v L Q I J G ⟨a,b,k,d,rfl,rfl,i,K,o,p⟩;cases J;obtain⟨u,r,rfl,E,m⟩:=G.two;obtain⟨z,j,n,c,h⟩:=iK I.Kc i;have D:n.length<=sizeLine:=by rw[<-c.length];exact z
 have g:(xq b k d).length<=sizeLine:=by have:=OK b k d;lia
 refine Wu Rl h.typeIs PySem.F.entry_dict_setdefault (PySem.F.args_dict_setdefault_3 _ _ _) (kt_meets_setdefault _ a (KF E) j r) ⟨n,h,D,λw C=>?_,λy h' f B=>?_⟩
 ·have q:=c.val k;rw[C]at q;cases e:Lp b k with
  |none=>rw[e]at q;exact absurd q (by simp[Qp])
  |some x=>rw[e]at q;exact⟨x,H,I.tok _,q,o x e⟩
 ·have q:=c.val k;rw[y]at q;cases e:Lp b k with
  |some x=>rw[e]at q;exact absurd q (by simp[Qp])
  |none=>
   have t:∃ q,h'.get? a=SY q:=let ⟨q,_,_,A,_⟩:=f;⟨q,A⟩;exact⟨d,_,uL I (by rw[i];exact True.intro) B t$ YG g j (c.put k m) f,m,p e⟩
def fT(I:gb X b h H s)(g:Rd H p$ ϝ c):s.TypeIs (Xb p) "dict"/\∀ a,Xb p=Xb a->∃ d,s.heap.get? a=SY d/\d.dict=ń:=by
 obtain⟨_,_,_,_,o,_,_,e,ex,_⟩:=mu I.Kc g;refine⟨⟨o,e,ex.1⟩,λa f=>?_⟩;cases f;exact⟨o,e,ex.2.1⟩
def Ĕ(r:V->h8->Hp->VK->Prop)(d:TE):TE:=λe H Q=>d e H λx c=>(∃ a b,x=ϙ a/\Rd c a (ϝ b))/\r x [] c Q
def õ(r:V->h8->Hp->VK->Prop)(f:TE)(t:TA):TE:=λd H Q=>f d H λx c=>(∃ a b,x=ϙ a/\Rd c a (ϝ b))/\t d c λxs e=>r x xs e Q
def MQ(pa:Jm "dict")(e:bP "dict" name id)(f:ev (Ϟ id)=pure (Wh "method_descriptor"))(n:Ry X id r)(p:PE X o i)
  (c:(Ad o name X.env (Mb o X.env)=Mb o X.env)⁻¹) (d:((apos.endLine == cpos.line)=U2)⁻¹):PE X (ϟ (Ϝ o name apos) [] [] cpos)$ Ĕ r i:=by
 intro b s j H Q I h;refine wpAny_Call_method0_late c d (pd (p b s j H _ I h) λv s1 ſ=>?_);obtain⟨x,H1,g,u,ty,t⟩:=ſ;obtain⟨a,q,rfl,m⟩:=ty;cases u;obtain⟨k,l⟩:=fT g m;exact⟨"dict",id,pa,e,f,k,l,Vh rfl$ PySem.evalArgs_none$ n b s1 j H1 (ϙ a) [] (Xb a) [] Q g rfl Ϣ t⟩
def ã(pa:Jm "dict")(g:bP "dict" name id)(j:ev (Ϟ id)=pure (Wh "method_descriptor"))(A:Ry X id r)(B:PE X o n)(y:PA X (e::es) t)
  (c:(Ad o name X.env (Mb o X.env)=Mb o X.env)⁻¹)
  (f:(((Zb cpos$ qa (e::es) X.env).all (λx=>!x.1) && (Rg cpos$ Ke [] X.env).all (λx=>x.1.isSome)
   && decide ((e::es).length+([]:List ij).length+(if ([]:List ij).isEmpty then 0 else 1)<30))=U2)⁻¹)
  (d:((apos.endLine == cpos.line)=U2)⁻¹) (C:(qa (e::es) X.env=(ŝ,Mb e X.env)::qa es X.env)⁻¹) (i:((Zb cpos$ qa es X.env).any (·.1)=ŝ)⁻¹) :
  PE X (ϟ (Ϝ o name apos) (e::es) [] cpos)$ õ r n t:=by
 intro b s k H Q I h;refine Ru c f d rfl (pd (B b s k H _ I h) λv s1 ſ=>?_);obtain⟨x,H1,l,G,ty,E⟩:=ſ;obtain⟨a,D,rfl,z⟩:=ty;cases G;obtain⟨u,w⟩:=fT l z;refine⟨"dict",id,pa,g,j,u,w,?_⟩;have m:=y cpos b s1 k H1 _ l E;rw[C]at m ⊢;refine Vh ⋯$ Ni (pd m λus s2 zZ=>?_);obtain⟨K,p,q,J,F⟩:=zZ;exact A b s2 k p (ϙ a) K _ us Q q rfl J F
def BS(pa:Jm "dict")(l:bP "dict" name id)(q:ev (Ϟ id)=pure (Wh "method_descriptor"))(G:Ry X id r)(M:jC T r g)(J:FE T X o f)(F:FA T X (e::es) fs)
  (c:(Ad o name X.env (Mb o X.env)=Mb o X.env)⁻¹)
  (i:(((Zb cpos$ qa (e::es) X.env).all (λx=>!x.1) && (Rg cpos$ Ke [] X.env).all (λx=>x.1.isSome)
   && decide ((e::es).length+([]:List ij).length+(if ([]:List ij).isEmpty then 0 else 1)<30))=U2)⁻¹)
  (d:((apos.endLine == cpos.line)=U2)⁻¹) (p:(qa (e::es) X.env=(ŝ,Mb e X.env)::qa es X.env)⁻¹) (b:((Zb cpos$ qa es X.env).any (·.1)=ŝ)⁻¹) :
  FE T X (ϟ (Ϝ o name apos) (e::es) [] cpos)$ RH g f fs:=by
 intro j s R H Q I h;refine ã pa l q G J F c i d p b j s R H Q I ?_;obtain⟨ό,ρ,V,y,L,K⟩:=h;refine⟨ό,ρ,V,y,L,K.bind λx m t v W U C A z k=>?_⟩;unfold vA at k;cases n:Of m x with
 |none=>rw[n]at k;exact k.elim
 |some xs=>
  rw[n]at k;obtain⟨a,S,rfl,E,ϋ⟩:=Wy A z n;exact⟨⟨a,S,rfl,E⟩,t,ρ,m,y.mono C,A,k.bind λds w u ws B U D P N O=>(M _ u B w x ds _ ws Q P (Ja.mono D _ _ z) N O)⟩
def į:jC T ER Vw:=by
 intro E G H M x xs v N Q r p q h;cases x with
 |ref n=>
  match xs with
  |[]=>exact h.elim
  |[_]=>exact h.elim
  |[y,d]=>
   obtain⟨w,z,rfl,J,K⟩:=q;obtain⟨D,b,rfl,B,C⟩:=K;rw[Db]at C;subst C;unfold Vw at h;cases m:Jk y with
   |none=>simp[m]at h;exact h.elim
   |some k=>
    simp[m]at h;cases f:M[n]? with
    |none=>simp[f]at h;exact h.elim
    |some ob=>
     cases ob with
     |Pa j=>
      simp[f]at h;by_cases o:j.length<Uf
      ·apply b_;intro z_;rw[na o]at h;obtain⟨a,rfl,A,s,u,g⟩:=r.at p f;obtain rfl:=IE J m;have i:s.length=j.length:=by unfold gi at g;exact(Paired.length g).symm
       apply z_;refine⟨a,s,k,D,rfl,rfl,u,by rw[i];exact PV o,λv e=>?_,λe=>?_⟩
       ·rcases lD g k with⟨l,b⟩|⟨I,L,l,b,F⟩
        ·rw[b]at e;cases e
        ·rw[b]at e;cases e;rw[l]at h;exact Vb.here h r F
       ·rcases lD g k with⟨l,b⟩|⟨I,L,l,b,F⟩
        ·rw[l]at h;have t:=r.write (ob:=Ϗ _) A ⟨_,ng,by
          have ex:Tc G H G$ Fb H a$ ϝ$ xq s k D:=qu (ua A) u (λO z=>by cases z) (λO O z=>by cases z);exact RJ (gi.mono ex g) k$ Ja.mono ex _ _ B⟩
         exact h _ _ _ t.1 t.2$ Ja.mono t.1 _ _ B
        ·rw[b]at e;cases e
      ·rw[ya o]at h;exact h.elim
     |ia ys=>simp[f]at h;exact h.elim
     |Eb c fs=>simp[f]at h;exact h.elim
     |vc _=>simp only[f]at h;exact h.elim
  |_::_::_::_=>exact h.elim
 |_=>exact h.elim
end
def Gp(a:Ga)(x:D):i'->Option (List Bool)
 |[]=>SY []
 |y::c=>match Og a 7 y x,Gp a x c with
  |some b,SY bs=>SY (b::bs)
  |_,_=>ń
def Xq(a:Bool)(x y:D):M D:=λb=>match Nh b y with
 |some xs=>(match Gp b x xs with
  |some bs=>U (ϓ$ if a then !(bs.any id)else bs.any id) b
  |none=>ϗ)
 |none=>ϗ
theorem aQ{a:Ga}{x:D}:∀ {xs:i'} {bs:List Bool},Gp a x xs=SY bs->bs.length=xs.length/\∀ (j:Nat) (d:D) (b:Bool),xs[j]?=SY d->bs[j]?=SY b->Og a 7 d x=SY b
 |[],bs,h=>by cases h;exact⟨rfl,λj d b h=>by simp at h⟩
 |y::k,bs,h=>by
  unfold Gp at h;cases f:Og a 7 y x with
  |none=>simp_all
  |some l=>
   cases c:Gp a x k with
   |none=>simp_all
   |some e=>
    rw[f,c]at h;cases h;obtain⟨g,i⟩:=aQ c;refine⟨by simp[g],λj d b n m=>?_⟩;cases j with
    |zero=>simp_all
    |succ j=>exact i j d b (by trivial) (by trivial)
open Classical in
def iC(a:dN)(b:List Bool)(u:Value):Bool:=decide$ ∃ j:Nat,a[j]?=SY u/\b[j]?=SY U2
def UI:iC a b u=U2 ↔ ∃ j:Nat,a[j]?=SY u/\b[j]?=SY U2:=by unfold iC;exact @decide_eq_true_iff _$ Classical.propDecidable _
def HP{a:dN}(k:c.length=a.length):a.toArray.any (iC a c)=c.any id:=by
 rw[show a.toArray.any _=a.any (iC a c) by simp,Bool.eq_iff_iff,Hc,Hc];constructor
 ·rintro ⟨u,_,i⟩;obtain⟨j,_,h⟩:=UI.mp i;exact⟨U2,ua h,rfl⟩
 ·rintro ⟨b,d,g⟩;cases (g);obtain⟨j,f,h⟩:=Fs d;have e:j<a.length:=by lia
  exact⟨a[j],Xf e,UI.mpr ⟨j,by simp,by simp[f,h]⟩⟩
def F7(m:c.length=a.length)(h:∀ (j:Nat) u b,a[j]?=SY u->c[j]?=SY b->Wc A s u x b) w(k:w∈a):Wc A s w x$ iC a c w:=by
 cases e:iC a c w with
 |true=>obtain⟨j,f,g⟩:=UI.mp e;exact h j w U2 f g
 |false=>
  obtain⟨j,d,rfl⟩:=Fs k;have i:j<c.length:=by lia
  have l:c[j]=ŝ:=by
   cases q:c[j]with
   |false=>rfl
   |true=>exact absurd (UI.mpr ⟨j,xb d,by rw[xb i,q]⟩) ⋯
  exact h j _ ŝ (xb d) ⋯
def VW(L:T.K=X.K)(ϋ:X.A.units+9<cLine){st}(I:gb X m st H s)(r:gd T B H C)(N:Ja T B H x v)(O:Ja T B H y u)(S:yd v n)(R:yd u t)
  {xs} (e:Nh C y=SY xs) (J:Gp C x xs=SY h) :
  (Q (Lj$ h.any id) s->wpAny (model X.prog X.w) X.A (yb .In n t) Q X.xe s)/\(Q (Lj$ !h.any id) s->wpAny (model X.prog X.w) X.A (yb .NotIn n t) Q X.xe s):=by
 obtain⟨p,W,rfl,E,f⟩:=Rz r O e;rw[L]at f;obtain⟨lb,M⟩:=aQ J;cases R;have l:∀ {a:dN},ke W a->(h.length=a.length/\∀ w∈a,Wc X.A.in1 s w n _):=fun {a} q=>by
  have l1:=E.length;have ϊ:=q.length;have g:h.length=a.length:=by lia
  refine⟨g,F7 g λj w b c o=>?_⟩;obtain⟨z,F,ό⟩:=uG q c;obtain⟨d,G,P⟩:=VL E F;exact yI I r 7 X.A.in1 d x z v w n b ⋯ P N ό S$ M j d b G o
 rcases f with f|f
 ·obtain⟨a,q,pl,_⟩:=L2.gb.list I f;obtain⟨g,k⟩:=l q;refine⟨λi=>pw _ pl.isList (λw c=>k w (by simpa using c)) ?_,λi=>Cs _ pl.isList (λw c=>k w ⋯) ?_⟩<;>rw[HP g]<;>exact i
 ·obtain⟨a,q,pl,_⟩:=L2.gb.tuple I f;obtain⟨g,k⟩:=l q;refine⟨λi=>Qu _ pl (λw c=>k w (by simpa using c)) ?_,λi=>mr _ pl (λw c=>k w ⋯) ?_⟩<;>rw[HP g]<;>exact i
def JW(f:T.K=X.K)(g:X.A.units+9<cLine):Dg X (yb .In)$ rD T$ Xq ŝ:=by
 rintro c s st H v u m l Q I k j ⟨E,n,d,x,y,r,h,i,a⟩;unfold Xq at a;cases e:Nh d y with
 |none=>rw[e]at a;exact a.elim
 |some xs=>
  rw[e]at a;dsimp only at a;cases b:Gp d x xs with
  |none=>rw[b]at a;exact a.elim
  |some bs=>
   rw[b]at a;exact(VW f g I r h i k j e b).1 ⟨Ϩ _,H,I,rfl,Vb.here a r (by rw[Ja];rfl)⟩
def vR(f:T.K=X.K)(g:X.A.units+9<cLine):Dg X (yb .NotIn)$ rD T$ Xq U2:=by
 rintro c s st H v u m l Q I k j ⟨E,n,d,x,y,r,h,i,a⟩;unfold Xq at a;cases e:Nh d y with
 |none=>rw[e]at a;exact a.elim
 |some xs=>
  rw[e]at a;dsimp only at a;cases b:Gp d x xs with
  |none=>rw[b]at a;exact a.elim
  |some bs=>
   rw[b]at a;exact(VW f g I r h i k j e b).2 ⟨Ϩ _,H,I,rfl,Vb.here a r (by rw[Ja];rfl)⟩
def cW{xs}(e:Nh a y=SY xs)(c:Gp a x xs=SY b):Xq neg x y a=U (ϓ$ if neg then !(b.any id)else b.any id) a:=by unfold Xq;rw[e];dsimp only;rw[c]
noncomputable def qI:Ev->M D:=λa a=>ϗ
noncomputable def zr:Ev->M Fl:=λa a=>ϗ
def jE:FE T X e qI:=by rintro pins s st H Q I ⟨b,c,σ,_,_,a⟩;exact a.elim
section
variable{pins:List$ Addr × Obj}{σ:St}{H:Hp}{s:Shared}{h':Heap}
def JE(e:H b=SY u)(n:H a=ń):b≠a:=λz=>by rw[z,n]at e;cases e
def _root_.L2.gb.Ot{a:b'}(I:gb X pins σ H s)(k:∀ b u,b ∉ a->s.heap.get? b=SY u->h'.get? b=SY u)(h:∀ b∈a,Bl X pins H b)(j:s.heap.objs.size<=p)(i:Rk X.prog X.w (Fb H p o) h' p o) :
  gb X pins σ (Fb H p o) { s with heap:=h',toks:=t' }:=by
 have f:=I.Kc.fresh j;have E:∀ b u,H b=SY u->b ∉ a:=λb u e z=>by rw[(h b z).1]at e;cases e
 refine I.step (λb g=>?_) (λb o m m d e m=>k b o d e) (λb o m m d e m=>⟨o.slots,k b o d e⟩) (λb u m q n=>by rw[ee$ za$ La (xa q) j];exact n)
  (λb o d e=>⟨o,k b o d e⟩) (λb xs q=>by rw[ee$ JE q f];exact q) (λb u xs q=>by rw[ee$ JE q f];exact q) (λb ps q=>⟨#[],by rw[ee$ JE q f,q];simp⟩) (λm C=>?_) (λb u e=>?_) I.bare
 ·obtain⟨F,x,G,y,A,B⟩:=h b g;exact⟨y,x,A,B⟩
 ·obtain⟨o,t,l,D,r⟩:=C;exact⟨o,t,l,k _ o (λz=>(h _ z).2.1 rfl) D,r⟩
 ·by_cases g:b=p
  ·subst g;rw[ng]at e;cases e;exact i
  ·rw[ee g]at e;refine(I.Kc b u e).Yj (λc v d q=>k c v ?_ q) (λc q=>by rw[ee$ JE q f];exact q) λc xs q=>by rw[ee$ JE q f];exact q
   grind
def _root_.L2.gb.iu{a:b'}(I:gb X pins σ H s)(k:∀ b u,b ∉ a->s.heap.get? b=SY u->h'.get? b=SY u)(f:∀ b∈a,Bl X pins H b):gb X pins σ H { s with heap:=h',toks:=t' }:=by
 have y:∀ b u,H b=SY u->b ∉ a:=λb u e z=>by rw[(f b z).1]at e;cases e
 refine I.step (λb t=>?_) (λb o m m d e m=>k b o d e) (λb o m m d e m=>⟨o.slots,k b o d e⟩) (λb u m q n=>n)
  (λb o d e=>⟨o,k b o d e⟩) (λb xs q=>q) (λb u xs q=>q) (λb ps q=>⟨#[],by rw[q];simp⟩) (λm w=>?_) (λb u e=>?_) I.bare
 ·obtain⟨A,i,B,j,l,p⟩:=f b t;exact⟨j,i,l,p⟩
 ·obtain⟨o,h,g,x,r⟩:=w;exact⟨o,h,g,k _ o (λz=>(f _ z).2.1 rfl) x,r⟩
 ·refine(I.Kc b u e).Yj (λc v d q=>k c v ?_ q) (λm q=>q) λm m q=>q
  grind
end
def Vn{h:Heap}(e:h.get? a=SY o)(i:h.get? b=SY f)(c:o.cls=Wh n)(g:f.cls=Wh d)(j:n≠d):a≠b:=λz=>by
 simp_all
noncomputable def nT(K:ϖ)(l:Addr):It:=
 ⟨λi H=>∃ xs x,Me K H l xs/\xs[i]?=SY x,λi H v a=>∃ p x,H p=ń/\v=ϙ p/\(∀ xs,Me K H l xs->xs[i]?=SY x)/\a=Fb H p (.nb [Ϥ i,x]),λi H=>∃ xs,Me K H l xs/\i=xs.length⟩
noncomputable def VT(K:ϖ)(l m:Addr):It:=
 ⟨λi H=>∃ xs a x y,Me K H l xs/\Me K H m a/\xs[i]?=SY x/\a[i]?=SY y,λi H v b=>∃ p x y,H p=ń/\v=ϙ p/\(∀ xs,Me K H l xs->xs[i]?=SY x)/\(∀ a,Me K H m a->a[i]?=SY y)/\b=Fb H p (.nb [x,y]),
  λi H=>∃ xs a,Me K H l xs/\Me K H m a/\i=min xs.length a.length⟩
def i4{P:Aa}{w:Ta}{K:PySem.W.Frag}{j:List Na}{kk:Nat}{F:Vd}(l e r:Addr):jo P w K (ϰ j kk F) (nT K l) [e,r] e (λi h=>(∃ a,IsEnum h e r i a)/\h.IsListIter r l i) where
 mem:=by simp
 obj:=λi h st b f=>by
  obtain⟨⟨a,s1⟩,o,s2,c,d⟩:=st;simp only[Ba,oe,dm]at f;rcases f with rfl|rfl;all_goals grind
 keep:=λi h h' st k=>by
  obtain⟨⟨a,s1⟩,s2⟩:=st;exact⟨⟨a,k e ⋯ _ s1⟩,s2.at λo q=>k r ⋯ o q⟩
 item:=by
  intro X O V N S i D s σ H E I J st ό;subst O V N;obtain⟨xs,x,L,ϋ⟩:=ό;obtain⟨g,rv,p,hz⟩:=I.list L;obtain⟨u,hu,ru⟩:=rv.get ϋ;obtain⟨⟨a,s1⟩,s2⟩:=st;obtain⟨oa,ea,ca,_⟩:=id p.isList;obtain⟨ob,G,cb,_⟩:=id s2;have a0:l≠e:=Vn ea s1 ca rfl ⋯;have a1:l≠r:=Vn ea G ca cb ⋯;have ϊ:e≠r:=Vn s1 G rfl cb ⋯;have W:=WalksT.enumerate (prog:=X.prog) (w:=X.w) (I.ok.hd S) e r l ϊ a0 a1 g.toArray;have hi:i<g.toArray.size:=by
   have:=(aa.mp hu).1;omega
  refine W.item i s _ E hi ⟨⟨a,s1⟩,s2,p.isList⟩ λT a2 h' tk R hT v m hk=>?_;obtain⟨t,y,M,rfl⟩:=R;have ey:y=u:=by
   have:g.toArray[i]?=SY u:=by simpa using hu
   rw[this]at M;cases M;rfl
  subst ey;refine⟨Xb T,rfl,W.go j kk F i T { s with heap:=h',toks:=tk } _ E m λh2 hS C=>?_⟩;have B:=W.apart i T h' m;have n:h2.IsTuple T #[Tl i t,y]:=by
   obtain⟨o,e1,c1⟩:=v;exact⟨o,C T o B e1,c1⟩
  have hn:H T=ń:=I.Kc.fresh hT;refine⟨ϙ T,Fb H T _,I.Ot (λb o f q=>C b o f$ hk b o f q) J hT ?_,rfl,⟨T,x,hn,rfl,λys M=>by rw[I.Cj M L];exact ϋ,rfl⟩,⟨hS.1,hS.2.1⟩,λb f=>?_⟩
  ·exact⟨(show 2<=sizeLine by decide),[Tl i t,y],Ϡ ⟨t,rfl⟩$ Ϡ ru Ϣ,n⟩
  ·rw[ee (λz=>B (by rw[<-z];exact f))];exact(J b f).1
 done:=by
  intro X O V N S i D s σ H E I J st ό;subst O V N;obtain⟨xs,L,ϋ⟩:=ό;obtain⟨g,rv,p,hz⟩:=I.list L;obtain⟨⟨a,s1⟩,s2⟩:=st;have hl:=rv.length;exact wpAny_pyNext_enum_end (I.ok.hd S) s1 s2 p.isList (by simp;lia) λh' G=>⟨rfl,I.iu (λb o f q=>G b o (λz=>f (by simp[z])) q) J⟩
 self:=λA i s Q E st h=>by
  obtain⟨⟨a,s1⟩,s2⟩:=st;exact GC s1 h
def gU{l m z TI TO q r}{xs B}(s:TI≠TO)(t:q≠r)(w:h.IsList l xs)(x:h.IsList m B)(s1:IsZip h z TI TO f)(s2:dP h TI a b)(j:dP h TO c d)(y:h.IsListIter q l u)(A:h.IsListIter r m v):ZipApart z TI TO q r l m:=by
 obtain⟨C,o,k,_⟩:=w;obtain⟨D,p,n,_⟩:=x;obtain⟨E,g,e,_⟩:=y;obtain⟨F,i,c5,_⟩:=A;exact⟨Vn s2 s1 rfl rfl ⋯,Vn j s1 rfl rfl ⋯,Vn g s1 e rfl ⋯,Vn i s1 c5 rfl ⋯,s,Vn s2 g rfl e ⋯,Vn s2 i rfl c5 ⋯,Vn j g rfl e ⋯,Vn j i rfl c5 ⋯,t,
  Vn o s1 k rfl ⋯,Vn o j k rfl ⋯,Vn o g k e ⋯,Vn o i k c5 ⋯,Vn p s1 n rfl ⋯,Vn p j n rfl ⋯,Vn p g n e ⋯,Vn p i n c5 ⋯⟩
def Y2{P:Aa}{w:Ta}{K:PySem.W.Frag}{D:List Na}{kk:Nat}{a0:Vd}(l m z TI TO g j:Addr)(d1:TI≠TO)(d2:g≠j) :
  jo P w K (ϰ D kk a0) (VT K l m) [z,TI,TO,g,j] z (λi h=>IsZip h z TI TO rc/\dP h TI (Xb g) (Xb j)/\(∃ a b,dP h TO a b)/\h.IsListIter g l i/\h.IsListIter j m i) where
 mem:=by simp
 obj:=λi h st b e=>by
  obtain⟨s1,s2,⟨a,c,n⟩,⟨o4,r,c4,d4⟩,⟨o5,t,c5,d5⟩⟩:=st;simp at e;rcases e with rfl|rfl|rfl|rfl|rfl
  ·exact⟨_,s1,λv z=>by cases z⟩
  ·exact⟨_,s2,λv z=>by cases z⟩
  ·exact⟨_,n,λv z=>by cases z⟩
  ·exact⟨o4,r,λv z=>by rw[d4]at z;cases z⟩
  ·exact⟨o5,t,λv z=>by rw[d5]at z;cases z⟩
 keep:=λi h h' st k=>by
  obtain⟨s1,s2,⟨a,c,n⟩,r,t⟩:=st;exact⟨k z ⋯ _ s1,k TI ⋯ _ s2,⟨a,c,k TO ⋯ _ n⟩,r.at λo q=>k g ⋯ o q,t.at λo q=>k j ⋯ o q⟩
 item:=by
  intro X hP hw hK hc i ϊ s σ H E I hf st hg;subst hP hw hK;obtain⟨xs,ys,x,y,hq,B,hx,hy⟩:=hg;obtain⟨f,rv,p,V⟩:=I.list hq;obtain⟨d,J,ϋ,a2⟩:=I.list B;obtain⟨u,hu,ru⟩:=rv.get hx;obtain⟨u2,R,a4⟩:=J.get hy;obtain⟨s1,s2,⟨a,c,n⟩,r,t⟩:=st;have W:=EA (prog:=X.prog) (w:=X.w) (I.ok.hd hc) z TI TO g j l m (gU d1 d2 p.isList ϋ.isList s1 s2 n r t) f.toArray d.toArray;have hi:i<min f.toArray.size d.toArray.size:=by
   have h1:=(aa.mp hu).1;have h2:=(aa.mp R).1;simp;lia
  refine W.item i s _ E hi ⟨s1,s2,⟨a,c,n⟩,r,t,p.isList,ϋ.isList⟩ λT a5 h' tk a1 hT M F hk=>?_;obtain⟨v1,v2,S,ό,rfl⟩:=a1;have e1:v1=u:=by
   have:f.toArray[i]?=SY u:=by simpa using hu
   rw[this]at S;cases S;rfl
  have e2:v2=u2:=by
   have:d.toArray[i]?=SY u2:=by simpa using R
   rw[this]at ό;cases ό;rfl
  subst e1;subst e2;refine⟨Xb T,rfl,W.go D kk a0 i T { s with heap:=h',toks:=tk } _ E F λh2 L N=>?_⟩;have G:h2.IsTuple T #[v1,v2]:=by
   obtain⟨o,e1,c1⟩:=M;exact⟨o,N T o (W.apart i T h' F) e1,c1⟩
  have hn:H T=ń:=I.Kc.fresh hT;have C:∀ b,b ∉ [z,TI,TO,g,j]->b ∉ [z,TO,g,j]:=λb e O=>e (by simp at O ⊢;rcases O with h|h|h|h<;>simp[h]);have a3:∀ b∈[z,TI,TO,g,j],b<s.heap.objs.size:=λb e=>by
   simp at e;rcases e with rfl|rfl|rfl|rfl|rfl
   ·exact xa s1
   ·exact xa s2
   ·exact xa n
   ·obtain⟨o,q,_⟩:=r;exact xa q
   ·obtain⟨o,q,_⟩:=t;exact xa q
  refine⟨ϙ T,Fb H T _,I.Ot (λb o e q=>N b o (C b e)$ hk b o (C b e) q) hf hT ?_,rfl,⟨T,x,y,hn,rfl,λzs V=>by rw[I.Cj V hq];exact hx,λzs V=>by rw[I.Cj V B];exact hy,rfl⟩,⟨L.1,L.2.1,L.2.2.1,L.2.2.2.1,L.2.2.2.2.1⟩,λb e=>?_⟩
  ·exact⟨(show (2:Nat)<=sizeLine by decide),[v1,v2],Ϡ ru$ Ϡ a4 Ϣ,G⟩
  ·rw[ee$ za$ La (a3 b e) hT];exact(hf b e).1
 done:=by
  intro X hP hw hK hc i ϊ s σ H E I hf st hg;subst hP hw hK;obtain⟨xs,ys,hq,B,hx⟩:=hg;obtain⟨f,rv,p,V⟩:=I.list hq;obtain⟨d,J,ϋ,a2⟩:=I.list B;obtain⟨s1,s2,⟨a,c,n⟩,r,t⟩:=st;have hl:=rv.length;have a6:=J.length;have ei:i=min f.toArray.size d.toArray.size:=by simp;lia
  subst ei;have C:∀ b,b ∉ [z,TI,TO,g,j]->b ∉ [z,TO,g,j]:=λb e O=>e (by simp at O ⊢;rcases O with h|h|h|h<;>simp[h]);exact(EA (prog:=X.prog) (w:=X.w) (A:=X.A) (I.ok.hd hc) z TI TO g j l m (gU d1 d2 p.isList ϋ.isList s1 s2 n r t) f.toArray d.toArray).done s _ E ⟨s1,s2,⟨a,c,n⟩,r,t,p.isList,ϋ.isList⟩ λh' tk hk=>⟨rfl,I.iu (t':=tk) (λb o e q=>hk b o (C b e) q) hf⟩
 self:=λA i s Q E st h=>VF st.1 h
abbrev NX:=Nat->Ga->Option (Option D)
def Sz(T:Tb)(c:b')(f:Hp)(nx:NX)(J:It):Prop:=∀ a H e i,Tc c f a H->gd T a H e->match nx i e with
 |none=>True
 |some ń=>J.stop i H
 |some (SY d)=>J.go i H/\∀ x b,J.LB i H x b->Tc a H a b/\gd T a b e/\Ja T a b d x
def æ(T:Tb)(X:Cx)(f:Ev->M NX):TI:=λb H R=>∃ a c d,Gh T a H c b/\gd T a H d/\Vb T (XE X b) (Sz T) a H (f c d) R
abbrev Zq(T:Tb)(X:Cx)(b a:Na)(f:Ev->M NX):Prop:=PI X b a$ æ T X f
def Vp(nx:NX)(e:D->Ev->Option Ev)(a:Ev->M Fl):Nat->Nat->Ev->M Fl
 |0,_,_=>Ib
 |k+1,i,f=>λc=>match nx i c with
  |none=>ϗ
  |some ń=>U (Ϙ f) c
  |some (SY d)=>match e d f with
   |none=>ϗ
   |some b=>Ic (a b) (fx$ Vp nx e a k$ i+1) c
def oJ(b:D->Ev->Option Ev)(a:Ev->M Fl)(c:Ev)(nx:NX):M Fl:=Vp nx b a 1001 0 c
def Up(b:Ev->M NX)(d:D->Ev->Option Ev)(a:Ev->M Fl):Ev->M Fl:=λc=>xs c (b c)$ oJ d a c
section
variable{tgt iter:Na}{body:List Stmt}{src:Ev->M NX}{t:D->Ev->Option Ev}{g:Ev->M Fl}{pos:Vd}
def qC(L:Eo (model X.prog X.w) X.A X.env X.xe)(hc:X.Lb=U2)(hi:Zq T X tgt iter src)(hg:FG T X tgt t)(ϊ:Ul T X body g)
  (hs:∀ x,je iter X.env x=pure x:=by intro _;rfl):FS T X (.For tgt iter body [] pos)$ Up src t g:=by
 intro u s st H D I hq;refine nP L hc hi hg ϊ hs u s st H D I ?_;obtain⟨b,ρ,q,E,hr,L⟩:=hq;refine⟨b,ρ,q,E,hr,L.xs E λnx P l J R U W r1 q1 p1=>?_⟩;refine⟨λi m j p=>∃ b ρ q,Tc l R b p/\Gh T b p ρ j/\gd T b p q/\Vb T EN _ b p (Vp nx t g m i ρ q) _,⟨1001,l,ρ,P,Ϯ _ _,E.mono W,r1,p1⟩,?_⟩;rintro i m j p ⟨n,v,c,ex,r,S,a⟩;cases m with
 |zero=>exact a.elim
 |succ m=>
  unfold Vp at a;have B:=q1 n p c i ex S;cases C:nx i c with
  |none=>simp only[C]at a;exact a.elim
  |some o=>
   cases o with
   |none=>
    simp only[C]at a B;exact ϑ ⟨B,Vb.here (g:=ϸ j) a S r⟩
   |some d=>
    simp only[C]at a B;obtain⟨K,hy⟩:=B;refine ϕ ⟨K,λk e=>∃ b ρ q,Tc l R b e/\Gh T b e ρ k/\gd T b e q/\Vb T EN _ b e _ (iq X D),λk e h=>⟨m,Qb _,h⟩,λx e y=>?_⟩;obtain⟨f,ό,hx⟩:=hy x e y;cases M:t d v with
    |none=>simp only[M]at a;exact a.elim
    |some z=>
     simp only[M]at a;exact⟨n,c,v,d,z,r.mono f,ό,hx,M,λk F=>⟨n,z,c,F,ό,(Vb.mono f a).bind λfl Q N gl H4 U ϋ V q4 p4=>XJ V q4 p4 λO a0 G p5=>⟨N,O,Q,(ex.trans f).trans ϋ,G,V,p5⟩⟩⟩
end
def Fu(a:D):NX:=λi b=>match wf b a with
 |some xs=>(match xs[i]? with
  |some x=>SY (SY$ ϒ [Z (i:Int),x])
  |none=>if i=xs.length then SY ń else ń)
 |none=>ń
def pG(a b:D):NX:=λi d=>match wf d a with
 |some xs=>(match wf d b with
  |some c=>(match xs[i]? with
   |some x=>(match c[i]? with
    |some y=>SY (SY$ ϒ [x,y])
    |none=>if i=min xs.length c.length then SY ń else ń)
   |none=>if i=min xs.length c.length then SY ń else ń)
  |none=>ń)
 |none=>ń
def jA(d:D):M NX:=λa=>match wf a d with
 |some _=>U (Fu d) a
 |none=>ϗ
def yH(f:Ev->M D):Ev->M NX:=λa=>Ic (f a) jA
def yX(a b:D):M NX:=λc=>match wf c a with
 |some _=>(match wf c b with
  |some _=>U (pG a b) c
  |none=>ϗ)
 |none=>ϗ
def wT(m:M D)(a:D):M NX:=Ic m$ yX a
def eN(f g:Ev->M D):Ev->M NX:=λρ=>Ic (f ρ)$ wT$ g ρ
section
variable{elts:List Na}{kk:Nat}{p0 p pos:Vd}{f g:Ev->M D}
def P2:bootBuiltins "enumerate" = SY (Wh "enumerate"):=by decide +kernel
def A8:bootBuiltins "zip" = SY (Wh "zip"):=by decide +kernel
def RY(K:ϖ)(b:TA):TI:=λd H R=>b d H λc a=>∃ l xs,c=[ϙ l]/\Me K a l xs/\R (nT K l) a
def W8(o:Gl X "enumerate")(t:X.mg "enumerate" = ń)(n:PA X [a] j)(v:(qa [a] X.env=[(ŝ,Mb a X.env)])⁻¹):PI X (ϰ elts kk p0) (ϟ (ϛ "enumerate" p) [a] [] pos)$ RY X.K j:=by
 intro d s A H R I h;refine Call_$ ax I o t P2$ qd (pd (n pos d s A H _ I h) λus s1 ſ=>?_) v rfl;apply b_;intro z_;obtain⟨E,H1,f,y,x⟩:=ſ;obtain⟨l,xs,e,u,q⟩:=x;subst e;apply z_;cases y with
 |cons r z=>
  cases z;cases r;obtain⟨w,D,pl,C⟩:=f.list u;refine call_enumerate_list pl.isList λh' g k B m=>GC g ⟨s1.heap.objs.size+1,[s1.heap.objs.size+1,s1.heap.objs.size],_,_,H1,rfl,f.kept m,i4 l _ _,⟨⟨_,g⟩,k⟩,λb i=>?_,q⟩;have c:s1.heap.objs.size<=b:=by simp at i;rcases i with rfl|rfl<;>lia
  exact f.Yn c$ f.Kc.fresh c
def i9(N:Gl X "enumerate")(O:X.mg "enumerate" = ń)(h:FE T X e f)(w:(qa [e] X.env=[(ŝ,Mb e X.env)])⁻¹):Zq T X (ϰ elts kk p0) (ϟ (ϛ "enumerate" p) [e] [] pos)$ yH f:=by
 intro k s st H R I S;refine W8 N O (jq h ou w) w k s st H R I ?_;obtain⟨W,ρ,σ,M,Q,P⟩:=S;refine⟨W,ρ,σ,M,Q,P.bind λd o ϋ v H1 z e1 C B j=>?_⟩;unfold jA at j;cases m:wf o d with
 |none=>rw[m]at j;exact j.elim
 |some ds=>
  rw[m]at j;obtain⟨l,V,rfl,J,h2⟩:=C.ls B m;refine⟨l,V,rfl,Me.of J,Vb.here j C λϊ E r i ex D=>?_⟩;unfold Fu;cases n:wf r d with
  |none=>trivial
  |some xs=>
   apply b_;intro z_;obtain⟨l',ws,F,L,t⟩:=D.ls (Ja.mono ex _ _ B) n;cases F;have b:Me X.K E l ws:=Me.of L;apply z_;dsimp only;cases G:xs[i]? with
   |none=>
    by_cases u:i=xs.length
    ·rw[na u];exact⟨ws,b,by rw[u];exact t.length⟩
    simp_all
   |some d'=>
    obtain⟨x,A,ό⟩:=t.get G;refine⟨⟨ws,x,b,A⟩,λz H' y=>?_⟩;obtain⟨q,x',a,rfl,c,rfl⟩:=y;have g:=c ws b;rw[A]at g;cases g;exact⟨Zj a,D.fresh a,⟨q,_,rfl,ng,Db.cons (by rw[Ja])$ Db.cons (Ja.mono (Zj a) _ _ ό) Db.nil⟩⟩
def Y8(K:ϖ)(b:TA):TI:=λe H R=>b e H λc a=>∃ l m xs d,c=[ϙ l,ϙ m]/\Me K a l xs/\Me K a m d/\R (VT K l m) a
def Y3(A:Gl X "zip")(B:X.mg "zip" = ń)(z:PA X [a,b] t)(O:(qa [a,b] X.env=[(ŝ,Mb a X.env),(ŝ,Mb b X.env)])⁻¹)(g:(qa [b] X.env=[(ŝ,Mb b X.env)])⁻¹):PI X (ϰ elts kk p0) (ϟ (ϛ "zip" p) [a,b] [] pos)$ Y8 X.K t:=by
 intro e s M H R I h;refine Call_$ ax I A B A8$ qd (pd (z pos e s M H _ I h) λus s1 ⟨S,H1,c,J,F⟩=>?_) ⋯ (by rw[g];rfl);apply b_;intro z_;obtain⟨l,m,xs,T,rfl,C,f,q⟩:=F;apply z_;cases J with
 |cons r j=>
  cases j with
  |cons G j=>
   cases j;cases r;cases G;obtain⟨E,Q,pl,P⟩:=c.list C;obtain⟨o,L,i,D⟩:=c.list f;refine call_zip_2 pl.isList i.isList λh' k u v w x N y=>VF k ⟨s1.heap.objs.size+4,[s1.heap.objs.size+4,s1.heap.objs.size+2,s1.heap.objs.size+3,s1.heap.objs.size,s1.heap.objs.size+1],_,_,H1,rfl,c.kept y,Y2 l m (s1.heap.objs.size+4) _ _ s1.heap.objs.size (s1.heap.objs.size+1) (show (s1.heap.objs.size+2)≠s1.heap.objs.size+3 by omega) (show s1.heap.objs.size≠s1.heap.objs.size+1 by lia),⟨k,u,⟨_,_,v⟩,w,x⟩,λb n=>?_,q⟩;have d:s1.heap.objs.size<=b:=by simp at n;rcases n with rfl|rfl|rfl|rfl|rfl<;>lia
   exact c.Yn d$ c.Kc.fresh d
def V7(hg:Gl X "zip")(hm:X.mg "zip" = ń)(h:FE T X e f)(h':FE T X b g)(hs:(qa [e,b] X.env=[(ŝ,Mb e X.env),(ŝ,Mb b X.env)])⁻¹)(w:(qa [b] X.env=[(ŝ,Mb b X.env)])⁻¹) :
  Zq T X (ϰ elts kk p0) (ϟ (ϛ "zip" p) [e,b] [] pos)$ eN f g:=by
 intro C s st H R I hw;refine Y3 hg hm (jq h (jq h' ou w)$ by simp_all) hs w C s st H R I ?_;obtain⟨μ,ρ,σ,ϋ,hr,hp⟩:=hw;refine⟨μ,ρ,σ,ϋ,hr,hp.bind λd Q P v H1 z e1 r1 q1 p1=>⟨P,ρ,Q,ϋ.mono e1,r1,p1.bind λό F a2 v2 H2 z e2 N q2 n=>?_⟩⟩;unfold yX at n;cases L:wf F d with
 |none=>rw[L]at n;exact n.elim
 |some ds=>
  rw[L]at n;cases o:wf F ό with
  |none=>rw[o]at n;exact n.elim
  |some a1=>
   rw[o]at n;have D:=Ja.mono e2 _ _ q1;obtain⟨l,vs,rfl,h1,h2⟩:=N.ls D L;obtain⟨m,ws,rfl,h3,h4⟩:=N.ls q2 o;refine⟨l,m,vs,ws,rfl,Me.of h1,Me.of h3,Vb.here n N λa3 S G i ex O=>?_⟩;unfold pG;cases fl:wf G d with
   |none=>trivial
   |some xs=>
    apply b_;intro z_;obtain⟨l',E,b,h5,V⟩:=O.ls (Ja.mono ex _ _ D) fl;cases b;apply z_;cases M:wf G ό with
    |none=>trivial
    |some ys=>
     apply b_;intro z_;obtain⟨m',a,b,h7,W⟩:=O.ls (Ja.mono ex _ _ q2) M;cases b;have j:Me X.K S l E:=Me.of h5;have k:Me X.K S m a:=Me.of h7;have l1:=V.length;have l2:=W.length;apply z_;dsimp only;cases ei:xs[i]? with
     |none=>
      by_cases u:i=min xs.length ys.length
      ·rw[na u];exact⟨E,a,j,k,by rw[u,l1,l2]⟩
      simp_all
     |some d'=>
      cases J:ys[i]? with
      |none=>
       by_cases u:i=min xs.length ys.length
       ·rw[na u];exact⟨E,a,j,k,by rw[u,l1,l2]⟩
       all_goals simp_all
      |some a0=>
       apply b_;intro z_;obtain⟨x,ϊ,rx⟩:=V.get ei;obtain⟨y,hy,ry⟩:=W.get J;apply z_;refine⟨⟨E,a,x,y,j,k,ϊ,hy⟩,λz H' yy=>?_⟩;obtain⟨q,x',y',c,rfl,t,r,rfl⟩:=yy;have A:=t E j;rw[ϊ]at A;cases A;have B:=r a k;rw[hy]at B;cases B;exact⟨Zj c,O.fresh c,⟨q,_,rfl,ng,Db.cons (Ja.mono (Zj c) _ _ rx)$ Db.cons (Ja.mono (Zj c) _ _ ry) Db.nil⟩⟩
end
open PySem.Builtin.Str (occurrences partsBetween subAt)
end Lake
namespace Lake
open Spec L2
section
variable{a b c:Na}{fa fb fc:Ev->M D}{pos:Vd}
def bY(ho:Dg X (yb A) r)(hs:mj T r o)(n:Dg X (yb e) ό)(t:mj T ό R)(ha:FE T X a fa)(hb:FE T X b fb)(hc:FE T X c fc)
  (hm:Ct [A,e] [b,c]=ŝ:=by with_unfolding_all rfl):FT T X (.Compare a [A,e] [b,c] pos)$ eT$ kJ o R fa fb fc:=by
 intro f s st H Q I h;refine KZ ho n ha hb hc hm f s st H Q I ?_;obtain⟨W,ρ,σ,m,hr,p⟩:=h;have hp:Vb T _ (Ja T) W H _ (λx ϋ=>∃ k,x=Ϩ k/\Q k ϋ):=p.bind λd i g v ϊ d j E B C=>by
  obtain⟨k,l,q⟩:=BH B C;exact⟨k,l,q.here E rfl⟩
 refine⟨W,ρ,σ,m,hr,hp.bind λx i g v ϊ d j E C B=>⟨g,ρ,i,m.mono j,E,B.bind λy K F w H2 d O r2 S p2=>(hs _ F H2 K x y v w _ r2 (Ja.mono O _ _ C) S$ p2.bind λz L G u H3 d P V q3 p3=>?_)⟩⟩;obtain⟨k,rfl,l,p4⟩:=gF q3 p3;refine⟨k,l,?_⟩;cases k with
 |true=>
  exact⟨G,ρ,L,((m.mono j).mono O).mono P,V,p4.bind λz N J u5 H5 d e5 r5 q5 p5=>t _ J H5 N y z w u5 _ r5 (Ja.mono e5 _ _$ Ja.mono P _ _ S) q5 p5⟩
 |false=>unfold kj at p4;rw[ya qb]at p4 ⊢;exact Vb.here p4 V (by rw[Ja])
end
def nL(h:Ev)(c:Nat)(f:Str)(x:D)(a:Int)(y:D):M Fl:=λe=>match y with
 | Z b=>(match x with
  | Y n=>(match e[n]? with
   |some (ϔ g d)=>if (g == c && decide (d.length<1000))=U2 then U (Ϙ h) (e.set n$ ϔ c$ Ih f (Z$ a+b) d)else ϗ
   |_=>ϗ)
  |_=>ϗ)
 |_=>ϗ
def AF(b:Ev)(e:gV)(f:Str)(h:Ev->M D)(x:D):M Fl:=λd=>match di d x with
 |some (c,g)=>if e.contains c=U2 then (match g.lookup f with
  |some (Z a)=>xs b (h b) (nL b c f x a) d
  |_=>ϗ)else ϗ
 |none=>ϗ
def lV(b:gV)(f:Str)(d c:Ev->M D):Ev->M Fl:=λa=>xs a (c a)$ AF a b f d
def L1{W V}(hK:T.K=X.K)(hc:DI T F f)(ho:FE T X o V)(hv:FE T X e W):FS T X (.AugAssign (Ϝ o f v) .Add e N)$ lV F f W V:=by
 intro u s st H D I hq;refine ż ho hv R9 u s st H D I ?_;obtain⟨μ,ρ,σ,t,hr,hp⟩:=hq;refine⟨μ,ρ,σ,t,hr,hp.xs t λx C Q vo H1 M G r1 q1 d=>?_⟩;unfold AF at d;cases J:di C x with
 |none=>rw[J]at d;exact d.elim
 |some p=>
  obtain⟨c,fs⟩:=p;rw[J]at d;dsimp only at d;by_cases l:F.contains c=U2
  ·apply b_;intro z_;rw[na l]at d;obtain⟨a,dx,vs,rfl,h1,h2⟩:=sy r1 q1 J;apply z_;cases L:fs.lookup f with
   |none=>rw[L]at d;exact d.elim
   |some y=>
    rw[L]at d;cases y with
    |int i=>
     obtain⟨w,h3,h4⟩:=(BB h2).1 _ L;obtain⟨ϊ,k2⟩:=hc c l;rw[hK]at ϊ k2;refine⟨a,_,dx,vs,w,rfl,h1,ϊ,k2,h3,Q,ρ,C,t.mono G,r1,d.xs (t.mono G) λz R B vz S M ό r2 q2 b=>?_⟩;unfold nL at b;cases z with
     |int j=>
      refine⟨i,j,tq h4,tq q2,?_⟩;have O:=Ja.mono ό _ _ q1;cases x with
      |ref n=>
       dsimp only at b;cases k:R[n]? with
       |none=>rw[k]at b;exact b.elim
       |some ob=>
        rw[k]at b;cases ob with
        |ia _=>exact b.elim
        |Pa _=>exact b.elim
        |vc _=>exact b.elim
        |Eb E m=>
         dsimp only at b;by_cases g:(E == c && decide (m.length<1000))=U2
         ·apply b_;intro z_;rw[na g]at b;rw[Da,Gc,Uj]at g;obtain⟨rfl,hl⟩:=g;obtain⟨a',ea,ϋ,h,A,q,r⟩:=r2.at O k;cases ea;have ex:Tc B S B$ Fb S a$ .Eb (T.ca E) h$ Fn f (Ϥ$ i+j) A:=qu (ua ϋ) q (λM z=>by cases z) (λM M z=>by cases z);have P:=r2.write (ob:=ϔ E$ Ih f (Z _) m) ϋ ⟨h,_,ng,xK (by rw[Ja])$ Wr.mono ex r⟩;apply z_;exact⟨h,A,q,by rw[<-r.length];exact hl,b _ (ϸ st) _ P.1 P.2$ (t.mono G).mono ό |>.mono P.1⟩
         ·rw[ya g]at b;exact b.elim
      |_=>exact b.elim
     |_=>exact b.elim
    |_=>exact d.elim
  ·rw[ya l]at d;exact d.elim
def oq(y x:D):M D:=λb=>match Jk y with
 |some k=>(match Of b x with
  |some a=>U (ϓ$ !(Wk a k).isSome) b
  |none=>ϗ)
 |none=>ϗ
noncomputable def jW:R2:=λy x H Q=>∃ a o,x=ϙ a/\ql H a y o/\Q (Ϩ$ !o.isSome) H
def hU(f:X.A.units+9<cLine):Dg X (yb .NotIn) jW:=by
 rintro b s j H y x h u Q I e d ⟨a,o,rfl,g,q⟩;obtain rfl:u=Xb a:=d;exact Ξ ⋯ I g e λi c=>⟨Ϩ _,H,c,rfl,q⟩
theorem uS:mj T jW oq:=by
 intro E o H m y x u v Q r q p h;unfold oq at h;cases c:Jk y with
 |none=>rw[c]at h;exact h.elim
 |some k=>
  rw[c]at h;cases b:Of m x with
  |none=>rw[b]at h;exact h.elim
  |some j=>
   rw[b]at h;obtain⟨a,l,rfl,g,i⟩:=Wy r p b;obtain rfl:=IE q c;refine⟨a,Lp l k,rfl,ql.kr g,Vb.here h r ?_⟩;rcases lD i k with⟨e,f⟩|⟨d,w,e,f,n⟩
   ·rw[e,f];rfl
   ·rw[e,f];rfl
def Mv(T:Tb)(P:Aa)(w:Ta)(e:Str->Option Value)(a:Heap)(k:Nat)(f:Addr)(ps:ac)(c:dN)(d:i'->M D):Prop:=
 ∃ b,Wq T.K b ps []/\Wq T.K b ps c/\nh P w T.K e a (Ol P w) k f b ps (Wn T ps.length d)
structure Tq(K:ϖ)(C:Addr)(x qual:Str)(st:Stmt)(ps:ac)(dv:dN)(f:Addr):Prop where
 ex:∃ fd,(∃ (oc:Value) (od:Option Addr) (dV kV doc pm:Value) (an:Option Addr) (cdv ct:Value) (osl:Array (Option Value)),
  fd=ϭ x qual (Vl st) (Sj st) (Gf st) dV kV doc pm an cdv ct/\K.lookup f=SY ⟨oc,od,.func fd,osl⟩/\ϻ K cdv qual=U2)/\Wq K fd ps []/\Wq K fd ps dv
section
variable{P:Aa}{w:Ta}{K:ϖ}{mg:Str->Option Value}{base:Heap}{ca:Nat->Addr}{tx:Tx}
def sW{st}(h:Tq K C x a st ps e f)(S:Fc N ps$ Gf st)
  (m:∀ b A c s H E,Gd k (A.deeper$ fg a (Gf st) s.heap.objs.size f b)->Ul ⟨K,ca,tx⟩ (yp (Ol P w) P w K mg base N a (Gf st) f b A c s H E) (Sj st) g) :
  Mv ⟨K,ca,tx⟩ P w mg base (k+1) f ps e$ ni N.length g:=by
 obtain⟨q,⟨r,t,p,kV,l,u,o,b,ct,n,rfl,lk,d⟩,i,j⟩:=h.ex;exact⟨_,i,j,dC lk d S$ m b⟩
def Mv.ae(h:Mv T P w mg base k f ps a b):Mv T P w mg base k f ps a$ Lake.ae b:=by rw[zp];exact h
def IV{st}{kV e i a ct}
  (w:∀ t kV e i h a ct s o n g,s.heap.get? t=SY o->o.data=Ϧ j.toArray n->((g++[]).length=ps.length->vf s (ϭ x b (Vl st) (Sj st) (Gf st) (Xb t) kV e i h a ct) ⟨g,[]⟩ (ps.zip$ g++[]))/\
   ((g++j).length=ps.length->vf s (ϭ x b (Vl st) (Sj st) (Gf st) (Xb t) kV e i h a ct) ⟨g,[]⟩ (ps.zip$ g++j)))
  (l:K.lookup f=SY ⟨y,z,.func$ ϭ x b (Vl st) (Sj st) (Gf st) (Xb t) kV e i h a ct,k⟩)
  (c:ϻ K a b=U2) (d:K.lookup t=SY ⟨r,u,Ϧ j.toArray q,v⟩):Tq K C x b st ps j f:=
 ⟨⟨_,⟨y,z,_,kV,e,i,h,a,ct,k,rfl,l,c⟩,λs g m p=>(w t kV e i h a ct s _ q g (m _ _ d) rfl).1 p,λs g m p=>(w t kV e i h a ct s _ q g (m _ _ d) rfl).2 p⟩⟩
end
def CT{pl}(hK:T.K=X.K)(he:FE T X o f)(hC:kq T.K$ T.ca c)(R:xu T.K (T.ca c) m fa)
  (h:Mv T X.prog X.w X.mg X.base k fa ps dv p) (hr:Gd k X.A) (ha:FA T X (e::n) O)
  (ϋ:(qa (e::n) X.env=(ŝ,Mb e X.env)::qa n X.env)⁻¹) (ό:((Zb b$ qa n X.env).any (·.1)=ŝ)⁻¹)
  (ht:(Mb (ϟ (Ϝ o m i) (e::n) [] b) X.env=(do
   let ov <-Mb o X.env
   wh i.atName
   let (f,first) <-Be [ov] (Ah ov m pl)
   on b f first (Zb b$ qa (e::n) X.env) (Rg b$ Ke [] X.env)))⁻¹) :
  FE T X (ϟ (Ϝ o m i) (e::n) [] b)$ Ye [(c,p)] ps.length m f O:=by
 rintro j s st H Q I ⟨μ,ρ,σ,hE,V,hp⟩;have P:=hE;refine Xi (pd (he j s st H (λx t=>∃ a G l,x=ϙ a/\t a=SY (.Eb (T.ca c) G l)/\l.lookup m=ń/\tL T X O st t λus L=>Wn T ps.length p (x::(us++[])) L Q$ XE X st) I ⟨μ,ρ,σ,hE,V,hp.bind λd F a0 v t D e1 r1 q1 g=>?_⟩) λu s1 ⟨x,t,I1,rx,a,G,l,ex,ea,B,q⟩=>?_) ht
 ·unfold Pk at g;cases N:di F d with
  |none=>rw[N]at g;exact g.elim
  |some z=>
   apply b_;intro z_;obtain⟨c',gs⟩:=z;rw[N]at g;dsimp only at g;apply z_;by_cases C:c=c'
   ·subst C;have J:bq [(c,p)] c=SY p:=by unfold bq;rw[na$ WX c]
    cases B:gs.lookup m with
    |some y=>rw[J,B]at g;exact g.elim
    |none=>
     apply b_;intro z_;rw[J,B]at g;dsimp only at g;obtain⟨a,G,l,rfl,h1,h2⟩:=sy r1 q1 N;apply z_;refine⟨a,G,l,rfl,h1,(BB h2).2 B,a0,ρ,F,P.mono e1,r1,g.bind λds a2 a1 us L D e2 r2 ϊ E=>?_⟩;unfold Ai at E;by_cases S:ds.length+1=ps.length
     ·rw[na S]at E;exact⟨a1,a2,d::ds,Db.cons (Ja.mono e2 _ _ q1) (by rw[He];exact ϊ),by rw[Ab];exact S,r2,E⟩
     ·rw[ya S]at E;exact E.elim
   ·have J:bq [(c,p)] c'=ń:=by unfold bq;rw[ya (by simpa using C)];rfl
    rw[J]at g;exact g.elim
 ·subst ex;obtain rfl:u=Xb a:=rx;obtain⟨fd,hb,_,hF⟩:=h;rw[hK]at hC R hF hb;refine SM I1 ea hC R B ?_;refine fh I.ok.mod.fw R.kp (pd (ha b j s1 st t _ I1 q) λus s2 ⟨l,L,I2,r,ϊ⟩=>⟨I2.Li,?_⟩) ϋ ό;exact AE (vs:=ϙ a::l) hF hr hb Ϣ I2 (Ϡ rfl r) ϊ
noncomputable def yC(a:gV)(b:Ev):Ev:=ń::ń::a.map λi=>(b[i]?).getD ń
noncomputable def Pz(a:gV)(st:St):St:=ń::ń::a.map λi=>(st[i]?).getD ń
def L3{st} a(h:Gh T b H ρ st):Gh T b H (yC a ρ)$ Pz a st:=by
 refine⟨by simp[yC,Pz],λi d e=>?_⟩;cases i with
 |zero=>cases e
 |succ j=>exact(SW a h).2 j d e
section
variable{pins:List$ Addr × Obj}{st:St}{H:Hp}{s:Shared}{x z0:Str}{M':ac}{ix:gV}{scope:Scope}{fp:b'}
def rZ(I:gb X pins st H s)(L:ak X x M' ix scope)(g:∀ b∈fp,Bl X pins H b/\b<s.heap.objs.size)(M:h'.Ns s.heap.objs.size m)
  (D:∀ b o,s.heap.get? b=SY o->h'.get? b=SY o) :
  gb (Lo X (x::z0::M') scope (Ui X.env scope.names []) s.heap.objs.size s H fp) [] (Pz ix st) H { s with heap:=h',toks:=t' }:=by
 have d:∀ n c,(Ui X.env scope.names []).lookup n=SY c->X.env.cells.lookup n=SY c:=λn c e=>GL X.env scope.names [] n c (λU U q=>by simp at q) e;have t:H s.heap.objs.size=ń:=I.Kc.fresh$ wa _;refine⟨⟨I.ok.mod,L.kind,I.ok.glob,I.ok.blt,wa _,λa b c A r=>I.ok.inj a b c (d a c A)$ d b c r,λa ha=>?_,λa c h=>(by cases h),I.ok.hd,I.ok.frames,ϑ rfl,λb w=>⟨za (g b w).2,λa c e=>?_⟩,λb o e=>I.bs b o e,zb I.ok.su I.sz,λb o e w=>?_,λb w z=>?_,I.stack,I.Aj⟩,
  rfl,I.bare,Un.kept D,⟨m,M,λi y v V F e3=>?_⟩,λa c e=>?_,t,λa c e=>I.Gg a c$ d a c e,λp hp=>absurd (show p∈[]from hp) ⋯,I.Kc.kept D,?_⟩
 ·
  have G:(scope.names.map λ(n,k)=>if (k == Bb && X.env.scope.kind == ϡ && X.env.kindOf n == SY wc)then (n,wc)else (n,k)).lookup a=SY wc\/(scope.names.map λ(n,k)=>if (k == Bb && X.env.scope.kind == ϡ && X.env.kindOf n == SY wc)then (n,wc)else (n,k)).lookup a=SY Bb:=ha;have S:scope.names.lookup a=SY Bb:=by
   rcases G with z|z
   ·obtain⟨k0,A,r⟩:=CK z;rcases r with r|⟨r,_⟩
    ·subst r;exact absurd rfl$ fD L _$ Lv A
    ·rw[r]at A;exact A
   ·obtain⟨k0,A,r⟩:=CK z;all_goals simp_all
  exact vF X.env scope.names [] a (Lv S)$ fA I L _ (Lv S) rfl
 ·exact(g b w).1.2.2.2.2.1 a c$ d a c e
 ·rcases(g b w).1.2.2.2.1 with z|z
  ·exact I.ok.Er b o e z
  ·exact absurd (La (xa e)$ zb I.ok.su z)$ Ld _
 ·rcases Ba.mp (I.yq b z)with q|q
  ·exact(g b w).1.2.1 q
  ·exact(g b w).1.2.2.1 q
 ·
  cases i with
  |zero=>simp[Pz]at F
  |succ i=>
  cases i with
  |zero=>simp[Pz]at F
  |succ j=>
   have E:M'[j]?=SY y:=V;have f:(ix.map λi=>(st[i]?).getD ń)[j]?=SY _:=F;rw[Ca]at f;cases R:ix[j]? with
   |none=>rw[R]at f;cases f
   |some C=>
    rw[R]at f;have Q:(st[C]?).getD ń=SY v:=Ub f;have W:st[C]?=SY (SY v):=by
     cases q:st[C]? with
     |none=>rw[q]at Q;cases Q
     |some o=>simp_all
    have ϋ:X.N[C]?=SY y:=by
     have z:=vd (λl=>l[j]?) L.at_
     simp_all
    have q:=Jb.mp L.wV y$ ua E;simp only[Da,sf]at q;have T:X.env.scope.names.lookup y=SY wc\/X.env.scope.names.lookup y=SY Bb:=by
     all_goals simp_all
    have P:scope.names.lookup y=SY Bb:=eq_of_beq q.2;obtain⟨m0,a0,K⟩:=I.loc;obtain⟨u,ru,lu⟩:=K C y v ϋ W (by rcases T with z|z;exact ϕ$ ϑ z;exact ϕ$ ϕ z);refine⟨u,ru,ϕ ⟨sS (env:=X.env) P,?_⟩⟩;rcases lu with⟨z,_⟩|⟨_,c,ϊ,zc⟩
    ·rcases T with k|k
     ·rw[show X.env.kindOf y=X.env.scope.names.lookup y from rfl,k]at z;cases z
     ·rw[show X.env.kindOf y=X.env.scope.names.lookup y from rfl,k]at z;cases z
    ·obtain⟨ό,B⟩:=vF X.env scope.names [] y (Lv P) (fA I L _ (Lv P) rfl);have e7:=d y ό B;rw[ϊ]at e7;cases e7;obtain⟨o,O,J⟩:=zc;exact⟨c,B,o,D _ _ O,J⟩
 ·apply b_;intro z_;obtain⟨v,o,O,J⟩:=I.cell a c (d a c e);apply z_;exact⟨v,o,D _ _ O,J⟩
 ·simp[Pz,Lo];simpa using (vd List.length L.at_)
end
noncomputable def pp(l:em):em:=l.mergeSort λa b=>decide$ a<=b
def Uq l:(pp l).Perm l:=List.mergeSort_perm l _
def UC l:(pp l).Pairwise (·<=·):=by
 have:=List.pairwise_mergeSort (le:=λa b:Int=>decide$ a<=b) (λa b c d e=>by simp at *;lia) (λa b=>by simp;lia) l;exact this.imp λh=>by simpa using h
theorem EE:∀ {l m:em},l.Perm m->l.Pairwise (·<=·)->m.Pairwise (·<=·)->l=m
 |[],m,h,_,_=>by rw[List.nil_perm]at h;exact h.symm
 |a::l,[],h,_,_=>by have:=h.length_eq;simp at this
 |a::l,b::m,h,c,d=>by
  rw[List.pairwise_cons]at c d;have f:=h.subset va;have g:=h.symm.subset va;have e:a=b:=by
   rcases Ba.mp f with e|f
   ·exact e
   ·rcases Ba.mp g with e|g
    ·exact e.symm
    ·have:=c.1 b g;have:=d.1 a f;lia
  subst e;rw[EE (zaE h) c.2 d.2]
def û(h:l.Perm m):pp l=pp m:=EE (((Uq l).trans h).trans (Uq m).symm) (UC l)$ UC m
def wN(K:ϖ):h8->Hp->VK->Prop:=λxs H Q=>∃ (p:Addr) (is:em),xs=[ϙ p]/\Me K H p (is.map Ϥ)/\is.length<64/\∀ l,H l=ń->Q (ϙ l) (Fb H l$ ϯ$ (pp is).map Ϥ)
def zjx:zo X (Ϟ "sorted")$ wN X.K:=by
 rintro g s x H xs v Q I r ⟨p,d,rfl,n,c,q⟩;obtain⟨u,rfl,rfl⟩:=yr r;obtain⟨f,h,pl,t⟩:=I.list n;have a:=h.length;rw[Ha]at a;refine sorted_ints pl.isList (VJ h) ⋯ λb o i j k=>?_;obtain⟨e,m⟩:=sortedAll_at s.heap f b;have l:=EE (j.trans (Uq d).symm) k$ UC d;subst l;exact⟨ϙ _,_,I.laid (λy y=>sortedAll_old) (zh _) (show Rk X.prog X.w _ _ _ (ϯ _)from⟨by rw[Ha,((Uq d).length_eq)];exact zb (jd c) ⋯,b.toList,e,xD i,by rw[Oi];exact m⟩),rfl,q _$ I.Kc.fresh$ zh _⟩
def GJ(xs:i'):M D:=λa=>match xs with
 |[x]=>(match wf a x with
  |some b=>(match yes b with
   |some is=>if is.length<64 then dA ((pp is).map Z) a else ϗ
   |none=>ϗ)
  |none=>ϗ)
 |_=>ϗ
theorem UL{b:b'}{H:Hp}:∀ a:em,Db T b H (a.map Z) (a.map Ϥ)
 |[]=>Db.nil
 |i::a=>Db.cons (by rw[Ja]) (UL a)
def ź(n:T.K=X.K):Hr T (wN X.K) GJ:=by
 intro E s H m xs q Q r p h
 match xs with
 |[]=>trivial
 |[x]=>
  obtain⟨v,w,rfl,j,d⟩:=p;rw[Db]at d;subst d;unfold GJ at h;cases e:wf m x with
  |none=>simp[e]at h;exact h.elim
  |some k=>
   simp[e]at h;cases a:yes k with
   |none=>simp[a]at h;exact h.elim
   |some is=>
    simp[a]at h;by_cases c:is.length<64
    ·rw[na c]at h;obtain⟨b,o,rfl,f,g⟩:=r.ls j e;obtain rfl:=fF g a;exact⟨b,is,rfl,Me.of f,c,λl i=>oC h r (UL _) i⟩
    ·rw[ya c]at h;exact h.elim
 |_::_::_=>cases h
def aw(c a:List$ Vc × V):List$ Vc × V:=a.foldl (λb d=>xq b d.1 d.2) c
def ZE(c a:List$ Vc × D):List$ Vc × D:=a.foldl (λb d=>Ji b d.1 d.2) c
def Ķ:∀ {a} {d} {b} {e},KV a d->KV b e->KV (aw b a) (merged e d):=by
 intro a;induction a with
 |nil=>intro d b e c f;cases c;exact f
 |cons p a g=>
  intro d b e c f;cases c with
  |cons q c=>
   obtain⟨h,i⟩:=q;have:=g c$ f.put p.1 i;simpa [aw,merged,h]using this
def ę:∀ a b,(aw b a).length<=b.length+a.length:=by
 intro a;induction a with
 |nil=>intro b;simp[aw]
 |cons p a d=>
  intro b;have e:=d$ xq b p.1 p.2;have f:=OK b p.1 p.2;have c:aw b (p::a)=aw _ a:=rfl;rw[c,Ab]
  lia
def LP:V->h8->Hp->VK->Prop:=λx e H Q=>∃ a b d c,x=ϙ a/\e=[ϙ b]/\a≠b/\H a=SY (ϝ d)/\Rd H b (ϝ c)/\d.length+c.length<=sizeLine/\Q .Nb (Fb H a$ ϝ$ aw d c)
def i6:Ry X "dict.update" LP:=by
 intro p s K H x M v L Q I C B h;apply b_;intro z_;obtain⟨a,b,g,d,rfl,rfl,l,o,k,G,q⟩:=h;cases C;obtain⟨u,rfl,rfl⟩:=yr B;obtain⟨z,r,ws,e,n⟩:=iK I.Kc o;obtain⟨N,m,i,c,j⟩:=mu I.Kc k;have D:g.length=ws.length:=by unfold KV at e;exact Paired.length e
 apply z_;have E:d.length=i.length:=by unfold KV at c;exact Paired.length c
 refine Wu Zm n.typeIs PySem.F.entry_dict_update (PySem.F.args_dict_update_2 _ _) (meets_dict_update (dt X.prog X.w) a b l m) ⟨ws,i,n,j,by lia,λh' f O A=>?_⟩;have t:∃ q,h'.get? a=SY q:=let ⟨q,_,_,y,_⟩:=f;⟨q,y⟩;have J:=ę d g;exact⟨.Nb,_,uL I (by rw[o];exact True.intro) A t$ YG ⋯ r (Ķ c e) f,rfl,q⟩
noncomputable def apart(n:Nat):D->Bool
 | Y m=>!(m == n)
 |_=>U2
def Wz(x:D)(xs:i'):M D:=λb=>match x,xs with
 | Y n,[y]=>(match b[n]? with
  |some (Ϗ a)=>(match Of b y with
   |some more=>if (apart n y && decide (a.length+more.length<=Uf))=U2 then U Ϛ (b.set n$ Ϗ$ ZE a more)else ϗ
   |none=>ϗ)
  |_=>ϗ)
 |_,_=>ϗ
def N5:∀ {a} {d} {b} {e},gi T g H a d->gi T g H b e->gi T g H (ZE b a) (aw e d):=by
 intro a;induction a with
 |nil=>intro d b e c f;unfold gi at c;cases c;exact f
 |cons p a h=>
  intro d b e c f;cases c with
  |cons q c=>
   have:=h c$ RJ f p.1 q.2;simpa [ZE,aw,q.1]using this
def ŗ:jC T LP Wz:=by
 intro E D H F x xs v O Q r p q h;cases x with
 |ref n=>
  match xs with
  |[]=>exact h.elim
  |[y]=>
   obtain⟨w,z,rfl,s,B⟩:=q;rw[Db]at B;subst B;unfold Wz at h;cases d:F[n]? with
   |none=>simp[d]at h;exact h.elim
   |some ob=>
    cases ob with
    |Pa g=>
     simp only[d]at h;cases i:Of F y with
     |none=>simp[i]at h;exact h.elim
     |some more=>
      simp only[i]at h;by_cases f:(apart n y && decide (g.length+more.length<=Uf))=U2
      ·rw[na f]at h;simp[Da,Gc]at f;obtain⟨a,rfl,j,t,u,k⟩:=r.at p d;obtain⟨b,ws,rfl,I,l⟩:=Wy r s i;have L:t.length=g.length:=by unfold gi at k;exact(Paired.length k).symm
       have M:ws.length=more.length:=by unfold gi at l;exact(Paired.length l).symm
       have o:a≠b:=by
        cases y with
        |ref m=>
         obtain⟨G,e,K⟩:=s;cases e;intro e;subst e;have:=f.1;simp[apart,(zI r.nd K j)]at this
        |Pa ks ds=>
         obtain⟨G,A,e,J,_⟩:=s;cases e;intro e;subst e;exact J$ ua j
        |_=>cases i
       refine⟨a,b,t,ws,rfl,rfl,o,u,I,by rw[L,M];exact zb f.2 ⋯,?_⟩;have C:=r.write (ob:=Ϗ _) j ⟨_,ng,by
        have ex:Tc D H D$ Fb H a$ ϝ$ aw t ws:=qu (ua j) u (λP z=>by cases z) (λP P z=>by cases z);exact N5 (gi.mono ex l)$ gi.mono ex k⟩
       exact h _ _ _ C.1 C.2 (by rw[Ja])
      ·rw[ya f]at h;exact h.elim
    |ia ys=>simp only[d]at h;exact h.elim
    |Eb c N=>simp[d]at h;exact h.elim
    |vc _=>simp only[d]at h;exact h.elim
  |_::_::_=>exact h.elim
 |_=>exact h.elim
def DP:bootBuiltins "sorted" = SY (Ϟ "sorted"):=by decide +kernel
theorem IP:∀ {ks:List Vc} {a:dN},a.length=ks.length->(∀ (j:Nat) (v:Value) (k:Vc),a[j]?=SY v->ks[j]?=SY k->yd (kV k) v)->ke (ks.map kV) a
 |[],[],_,_=>Ϣ
 |[],_::_,h,_=>by simp at h
 |_::_,[],h,_=>by simp at h
 |k::ks,v::a,h,b=>Ϡ (b 0 v k rfl rfl) (IP ⋯ λj v k c d=>b (j+1) v k c d)
def P1(h:(dt P w).is k v=U2):yd (kV k) v:=by
 rcases Ju h with⟨i,t,rfl,rfl⟩|⟨x,t,rfl,rfl⟩<;>exact⟨t,rfl⟩
theorem QS:∀ {a:List$ Vc × V} {ws:List$ Vc × Value},KV a ws->ws.map (·.1)=a.map (·.1)
 |[],_,h=>by cases h;rfl
 |p::a,_,h=>by
  cases h with
  |cons q h=>simp only[Va];rw[QS h,q.1]
noncomputable def sA:Vc->D
 | .inl i=>Z i
 | .inr x=>ϐ x
end Lake
namespace Lake
open Spec Calls W PyProof.V
def BY
  (K:KdlSrc k w C r d n P v) (D:A.handled=ń) (p:v s.heap) (G:n<=sizeLine)
  (Df:∀ h j a,(∀ b o,s.heap.get? b=SY o->h.get? b=SY o)->s.heap.objs.size<=h.objs.size->vn P a n->R a.toList { s with heap:=h,toks:=j }) :
  wpAny (model k w) A (collect$ Xb r) R E s:=by
 have B:=K.there _ p;let S:Addr:=s.heap.objs.size;let ϊ:Fo->Shared->Prop:=λq u=>∃ (h:Heap) (j:Nat) (a:Array Value) (c:Nat),q=.ok (.ret$ Xb S)/\u={ s with heap:=h,toks:=j }/\(∀ b o,s.heap.get? b=SY o->h.get? b=SY o)/\
  h.get? S=SY { cls:=Wh "list",dict:=ń,data:=Ϧ a c,slots:=#[] }/\vn P a n
 have i:∀ {h:Heap} {j c:Nat} {a:Array Value},(∀ b o,s.heap.get? b=SY o->h.get? b=SY o)->h.get? S=SY { cls:=Wh "list",dict:=ń,data:=Ϧ a c,slots:=#[] }->vn P a n->R a.toList { s with heap:=h,toks:=j }:=
  λm g l=>Df _ _ _ m (jd$ xa g) l
 have t:(s.heap.push { cls:=Wh "list",data:=Ϧ ([]:dN).toArray }).get? S=SY { cls:=Wh "list",data:=Ϧ #[] }:=Ea _ rfl;have ni:=kdl_extend (A:=A) (s:={ s with heap:=s.heap.push { cls:=Wh "list",data:=Ϧ ([]:dN).toArray } }) (R:=ϊ) K D (K.keep _ _ p λb F o e=>da _ e) S (Jd B.1) (Jd B.2) (Xb S) 0 t
  (λh j a c m g l=>⟨h,j,a,c,rfl,rfl,λb o e=>m b o (za$ xa e)$ da _ e,g,l⟩) G
 refine ba$ Lq$ Jc Kx$ ba$ Dc$ ga ⟨Sd Mn _,Jc WF$ nc ni (λf u x=>?_) (λe u x=>by obtain⟨_,_,_,_,z,_⟩:=x;cases z)⟩;cases f with
 |done f=>
  obtain⟨h,j,a,c,e,rfl,m,g,l⟩:=x;cases e;exact ba$ Hm g$ ga$ i m g l
 |again H=>
  refine⟨x.1,qf x.2 λq s2 y=>?_⟩;obtain⟨h,j,a,c,rfl,rfl,m,g,l⟩:=y;exact ba$ Hm g$ ga$ i m g l
end Lake
namespace Lake
open Spec L2
def ZK:h8->Hp->VK->Prop:=λxs H Q=>∃ (a:Addr) (b:List (Vc × V)) (is:em),xs=[ϙ a]/\Rd H a (ϝ b)/\b.map (·.1)=is.map Sum.inl/\is.length<64/\∀ l,H l=ń->Q (ϙ l) (Fb H l$ ϯ$ (pp is).map Ϥ)
theorem BU:∀ {a:em} {b:dN},ke ((a.map (Sum.inl:Int->Vc)).map kV) b->xh b a
 |[],_,h=>by cases h;exact .nil
 |i::a,_,h=>by
  cases h with
  |cons q h=>
   obtain⟨t,rfl⟩:=q;exact .cons i t$ BU h
def Z4(hc:X.Lb=U2):zo X (Ϟ "sorted") ZK:=by
 rintro P s σ H xs us Q I r ⟨a,g,n,rfl,ϊ,i,t,q⟩;obtain⟨u,rfl,rfl⟩:=yr r;obtain⟨z,hd,p,D,ό⟩:=mu I.Kc ϊ;obtain⟨G,y⟩:=ό.dictAt;have J:=QS D;have a4:p.length=g.length:=by have:=vd List.length J;simpa using this
 have a0:g.length=n.length:=by have:=vd List.length i;simpa using this
 have L:p.length<=sizeLine:=by lia
 refine Nn kind_sorted plain_sorted entry_sorted (args_sorted1 _) ?_;unfold bi.«sorted»;refine ba (m:=checkCount "sorted" 1 1 _)$ ga$ ba (BY (A:=X.A.in1) (W.kdl_dict (knd:=dt X.prog X.w) (kvs:=p) (ep:=G) hd) (I.ok.hd hc) y L λh' tk d N l c=>?_);have K:d.toList.length=p.length:=by rw[gc];exact c.1
 have M:ke ((p.map (·.1)).map kV) d.toList:=IP (by rw[Ha];exact K) λj v k V E=>by
  obtain⟨k',x,hx,B⟩:=c.2 j v (by rw[<-Pd];exact V);rw[Ca,hx]at E;cases E;exact P1 B
 rw[J,i]at M;refine ba$ Gs ?_ (by rw[K];exact L);have f:(h'.push _).get? h'.objs.size=SY (Km "list" d.toList.toArray 0):=Ea _ rfl;refine ba$ Yb$ Mc VO ⟨_,f,rfl⟩ xJ (WO f (BU M) ⋯ λh C R S T=>⟨_,rfl,(ga ⟨_,rfl,?_⟩)⟩)$ XO _;have ϋ:C=pp n:=EE (S.trans (Uq n).symm) T$ UC n;subst ϋ;obtain⟨e,he⟩:=XX (out:=h) f;exact⟨ϙ h'.objs.size,_,I.laid (t':=tk) (λb o F=>by
  have O:b<h'.objs.size:=xa$ N b o F;rw[YO (za O) (by rw[GA];exact Rb O)];exact da _$ N b o F) l (show Rk X.prog X.w _ _ _ (ϯ _)from⟨by rw[Ha,((Uq n).length_eq)];exact zb (jd t) ⋯,h.toList,e,xD R,by rw[Oi];exact he⟩),rfl,q _$ I.Kc.fresh l⟩
noncomputable def Cv:List (Vc × D)->Option (em)
 |[]=>SY []
 |(.inl i,_)::r=>(Cv r).map (i::·)
 |_::_=>ń
theorem jR{c:b'}{H:Hp}:∀ {a:List$ Vc × D} {us:List$ Vc × V} {is:em},gi T c H a us->Cv a=SY is->us.map (·.1)=is.map Sum.inl
 |[],_,is,h,e=>by unfold gi at h;cases h;cases e;rfl
 |(k,d)::a,_,is,h,e=>by
  cases h with
  |cons q h=>
   cases k with
   |inr x=>cases e
   |inl i=>
    unfold Cv at e;cases b:Cv a with
    |none=>simp_all
    |some f=>
     rw[b]at e;cases e;simp only[Va];rw[jR h b,<-q.1]
def nB(xs:i'):M D:=λb=>match xs with
 |[x]=>(match Of b x with
  |some a=>(match Cv a with
   |some is=>if is.length<64 then dA ((pp is).map Z) b else ϗ
   |none=>ϗ)
  |none=>ϗ)
 |_=>ϗ
def k7:Hr T ZK nB:=by
 intro E q H n xs o Q r p h
 match xs with
 |[]=>trivial
 |[x]=>
  obtain⟨v,w,rfl,k,f⟩:=p;rw[Db]at f;subst f;unfold nB at h;cases e:Of n x with
  |none=>simp only[e]at h;exact h.elim
  |some d=>
   simp only[e]at h;cases b:Cv d with
   |none=>simp[b]at h;exact h.elim
   |some is=>
    simp only[b]at h;by_cases c:is.length<64
    ·rw[na c]at h;obtain⟨a,m,rfl,g,i⟩:=Wy r k e;exact⟨a,m,is,rfl,g,jR i b,c,λl j=>oC h r (UL _) j⟩
    ·rw[ya c]at h;exact h.elim
 |_::_::_=>exact h.elim
def TW(K:ϖ):h8->Hp->VK->Prop:=λxs H Q=>wN K xs H Q\/ZK xs H Q
def v4(d:X.Lb=U2):zo X (Ϟ "sorted")$ TW X.K:=by
 intro a s c H xs b Q I r h;rcases h with h|h
 ·exact zjx a s c H xs b Q I r h
 ·exact Z4 d a s c H xs b Q I r h
def Ws(xs:i'):M D:=λa=>match xs with
 |[x]=>(match wf a x with
  |some _=>GJ [x] a
  |none=>nB [x] a)
 |_=>ϗ
def zpv(d:T.K=X.K):Hr T (TW X.K) Ws:=by
 intro E c H a xs b Q r p h
 match xs with
 |[]=>trivial
 |[x]=>
  unfold Ws at h;cases e:wf a x with
  |some f=>simp[e]at h;exact ϑ$ ź d E c H a [x] b Q r p h
  |none=>simp[e]at h;exact ϕ$ k7 E c H a [x] b Q r p h
 |_::_::_=>trivial
end Lake
namespace Lake
def By(xs:Array Nat):Prop:=∀ i k:Nat,∀ a b:Nat,i<k->xs[i]?=SY a->xs[k]?=SY b->a<b
def Cut(xs:Array Nat)(j p:Nat):Prop:=p<=xs.size/\(∀ i a:Nat,i<p->xs[i]?=SY a->a<j)/\∀ i a:Nat,p<=i->xs[i]?=SY a->j<=a
def uZ{xs}(q:By xs) j:∀ d c b,b - c<=d->c<=b->b<=xs.size->(∀ i a:Nat,i<c->xs[i]?=SY a->a<j)->(∀ i a:Nat,b<=i->xs[i]?=SY a->j<=a)->Cut xs j (wn xs j d c b):=by
 intro d;induction d with
 |zero=>
  intro c b u v k l m;have e:c=b:=by lia
  subst e;exact⟨k,l,m⟩
 |succ f s=>
  intro c b u v k l m;unfold wn;by_cases p:c<b
  ·rw[na p];dsimp only;have r:(c+b) / 2<xs.size:=by lia
   have h:=Kb r;have t:xs.getD ((c+b) / 2) j=xs[(c+b) / 2]:=by simp[r]
   rw[t];by_cases n:xs[(c+b) / 2]<j
   ·rw[na n];refine s _ _ ⋯ ⋯ k (λi a o g=>?_) m;by_cases e:i=(c+b) / 2
    ·subst e;rw[h]at g;cases g;exact n
    ·have:=q i _ a _ ⋯ g h;lia
   ·rw[ya n];refine s _ _ ⋯ ⋯ ⋯ l (λi a o g=>?_);by_cases e:i=(c+b) / 2
    ·subst e;rw[h]at g;cases g;lia
    ·have:=q _ i _ a ⋯ h g;lia
  ·rw[ya p];have e:c=b:=by lia
   subst e;exact⟨k,l,m⟩
def zR{xs}(c:By xs) j:Cut xs j$ Le xs j:=by
 exact uZ c j _ _ _ ⋯ ⋯ (wa _) (λi a h=>by lia) (λi a h b=>by
  have:=(Nc.mp b).1;lia)
def Z6{xs}(a:Cut xs j p)(b:Cut xs j q):p=q:=by
 rcases qw p q with h|h|h
 ·have f:=La h b.1;have e:=Kb f;have c:=b.2.1 p _ h e;have d:=a.2.2 p _ (wa _) e
  lia
 ·exact h
 ·have g:=La h a.1;have e:=Kb g;have c:=a.2.1 q _ h e;have d:=b.2.2 q _ (wa _) e
  lia
def W6{xs:Array Nat}(d:p<=xs.size) i:(qj xs p x)[i]?=if i<p then xs[i]? else if i=p then SY x else xs[i - 1]?:=by
 unfold qj;have s1:(xs.extract 0 p).size=p:=by simp;lia
 rw[Array.getElem?_append,Array.size_push,s1];by_cases a:i<p
 ·rw[na ⋯,na a,qr,ya (by rw[s1];lia),Cp];simp;lia
 ·rw[ya a];by_cases b:i=p
  ·subst b;rw[na ⋯,na rfl,qr,na (by rw[s1])]
  ·rw[ya ⋯,ya b,Cp];by_cases c:i - 1<xs.size
   ·rw[na ⋯];congr 1;lia
   ·rw[ya ⋯,Dp ⋯]
def Ū{xs}(m:By xs)(l:Cut xs x p)(t:¬ xs[p]?=SY x):By$ qj xs p x:=by
 have r:∀ i a:Nat,p<=i->xs[i]?=SY a->x<a:=λi a s c=>by
  have g:=l.2.2 i a s c;rcases Nat.lt_or_ge x a with h|h
  ·exact h
  ·have e:a=x:=by lia
   subst e;by_cases o:i=p
   ·subst o;exact absurd c t
   ·have v:=(Nc.mp c).1;have u:p<xs.size:=by lia
    have q:=Kb u;have:=m p i _ _ ⋯ q c;have:=l.2.2 p _ (wa _) q
    lia
 intro i k a b n c d;rw[W6 l.1]at c d;by_cases g:i<p
 ·rw[na g]at c;by_cases j:k<p
  ·rw[na j]at d;exact m i k a b n c d
  ·rw[ya j]at d;by_cases f:k=p
   ·rw[na f]at d;cases d;exact l.2.1 i a g c
   ·rw[ya f]at d;exact m i _ a b ⋯ c d
 ·rw[ya g]at c;have j:¬ k<p:=by lia
  rw[ya j,ya ⋯]at d;by_cases f:i=p
  ·rw[na f]at c;cases c;exact r _ b ⋯ d
  ·rw[ya f]at c;exact m (i - 1) (k - 1) a b ⋯ c d
structure Dj(b:Bool)(t:Od):Prop where
 led:t.led = !b
 QH:By t.place
 QO:t.dummies=#[]
def EU j:uw #[] j=ŝ:=by
 unfold uw;simp
def l5(h:Dj b t) j:t.slot j=.empty/\¬ t.place[Le t.place j]?=SY j\/∃ i,t.slot j=.live i:=by
 unfold SetTable.slot;by_cases e:(t.place[Le t.place j]? == SY j)=U2
 ·rw[na e];exact ϕ ⟨_,rfl⟩
 ·rw[ya e,h.QO,EU]
  simp_all
def ñ(h:Dj b t) d l:∀ a p m,p.dummy=ń->ig t d l a p=SY m->(∃ j,m=.empty j ń/\¬ t.place[Le t.place j]?=SY j)\/∃ j i nx,m=.candidate j i nx:=by
 intro a;induction a with
 |zero=>intro p m _ e;unfold ig at e;cases e
 |succ f o=>
  intro p m k e;unfold ig at e;rcases l5 h p.j with⟨c,n⟩|⟨i,c⟩
  ·rw[c]at e;dsimp only at e;cases e;rw[k];exact ϑ ⟨_,rfl,n⟩
  ·rw[c]at e;dsimp only at e;by_cases g:(d i == l)=U2
   ·rw[na g]at e;cases e;exact ϕ ⟨_,_,_,rfl⟩
   ·rw[ya g]at e;refine o _ m ?_ e;unfold SetTable.advance;split<;>exact k
def zgx(h:Dj b t)(e:t.freeSlot c=SY (j,f)):¬ t.place[Le t.place j]?=SY j:=by
 unfold SetTable.freeSlot SetTable.probe at e;cases a:ig t _ c _ _ with
 |none=>rw[a]at e;cases e
 |some m=>
  rcases ñ h _ _ _ _ m rfl a with⟨d,rfl,g⟩|⟨d,i,nx,rfl⟩;all_goals simp_all
theorem Dj.put(h:Dj b t)(a:¬ t.place[Le t.place j]?=SY j):Dj b (t.put j).1:=by
 unfold SetTable.put;refine⟨h.led,Ū h.QH (zR h.QH j) a,?_⟩;rw[h.QO,EU];rfl
def Dj.plain(h:Dj b t):Dj b { t with plain:=p }:=⟨h.led,h.QH,h.QO⟩
def ı n:By$ Array.range n:=by
 intro i k a c e b d;have f:=(Nc.mp b).1;have g:=(Nc.mp d).1
 simp_all
def Dj.Yq(h:Dj b t) n:Dj b$ t.standIn n:=⟨h.led,ı n,rfl⟩
def Dj.or(h:Dj b t) n:Dj b$ t.orStandIn n:=by
 unfold SetTable.orStandIn;split
 ·exact h
 ·exact h.Yq n
def Dj.lay(h:Dj b t) c a x:Dj b (layNew t c a x).2.1:=by
 unfold layNew;cases e:t.freeSlot a with
 |none=>exact h.Yq _
 |some q=>
  obtain⟨j,d⟩:=q;dsimp only;exact(h.put$ zgx h e).or _
def K6 m(f:Nat->Option Nat):By ((((List.range m).filterMap λj=>(f j).map (j,·)).map (·.1)).toArray):=by
 have p:List.Pairwise (·<·) (((List.range m).filterMap λj=>(f j).map (j,·)).map (·.1)):=by
  have n:List.Pairwise (·<·)$ List.range m:=List.pairwise_lt_range;have e:((List.range m).filterMap λj=>(f j).map (j,·)).map (·.1)=(List.range m).filter λj=>(f j).isSome:=by
   rw[List.map_filterMap];rw[<-List.filterMap_eq_filter];congr 1;funext j;cases o:f j<;>simp[Option.guard,o]
  rw[e];exact n.sublist Hs
 intro i k a c b d g;rw[Gi]at d g;obtain⟨q,h⟩:=aa.mp d;obtain⟨r,l⟩:=aa.mp g;rw[<-h,<-l];exact Co.mp p i k q r b
def Dj.pE(h:Dj b t) d c:Dj b (xn t d c).2.1:=by
 unfold xn;cases e:t.relaid _ c with
 |none=>exact h.Yq _
 |some q=>
  obtain⟨g,f⟩:=q;dsimp only;split
  ·unfold SetTable.relaid SetTable.laid at e;cases a:SetTable.layClean _ _ with
   |none=>rw[a]at e;cases e
   |some ow=>
    rw[a]at e;cases e;exact⟨h.led,K6 _ _,rfl⟩
  ·exact h.Yq _
def Dj.fresh b:Dj b$ Et 0 0$ !b:=⟨rfl,λi k a c e d e=>by simp[Et]at d,rfl⟩
end Lake
namespace Lake
open Spec
section
variable{prog:Aa}{w:Ta}{K:Type}[DecidableEq K][BEq K][LawfulBEq K]{knd:KeyKind prog w K}{A:Ma}{E:Value->Shared->Prop}{s:Shared}{b:Bool}{a:Addr}{k:K}{x:Value}
def zq(knd:KeyKind prog w K)(b:Bool)(h:Heap)(a:Addr)(S:K->Bool)(n:Nat):Prop:=
 ∃ o c d t,h.get? a=SY o/\o.ExactSet/\o.data=.set c d t/\QC knd c.toList/\(∀ k,S k=U2 ↔ ∃ e∈c.toList,knd.is k e.2=U2)/\c.size<scanBound/\t.fits c.size=U2/\c.size=n/\Dj b t
def lS{h:Heap}(q:h.get? a=SY o)(i:o.ExactSet)(r:o.data=.set p f t)(j:QC knd c.toList)
  (l:∀ k,S' k=U2 ↔ ∃ e∈c.toList,knd.is k e.2=U2) (m:c.size<scanBound) (n:d.fits c.size=U2) (s:Dj b d) :
  (h.update a$ mv c d).get? a=SY { o with data:=.set c (f+1) d }/\zq knd b (h.update a$ mv c d) a S' c.size:=by
 obtain⟨g,_⟩:=SetOf_store q i r j l m n;exact⟨g,_,c,f+1,d,g,i,rfl,j,l,m,n,rfl,s⟩
def rS{g:Bool->Um Unit}(N:∀ c s1 n,n () s1->wpAny (model prog w) A (g c) n E s1)
  (u:s.heap.get? a=SY o) (v:o.ExactSet) (x:o.data=.set L J t) (B:QC knd d.toList) (C:∀ k,j k=U2 ↔ ∃ e∈d.toList,knd.is k e.2=U2) (D:d.size<scanBound) (M:f.fits d.size=U2) (F:Dj b f)
  (q:∀ m,Yc a s.heap m->zq knd b m a j d.size->R (SY U2) { s with heap:=m }) :
  wpAny (model prog w) A (do
    storeSet a d f
    if (!O && f.tooFull)=U2 then do
      g (xn f d$ Af d.size).2.2
      storeSet a (xn f d$ Af d.size).1 (xn f d$ Af d.size).2.1
      pure (SY U2)
     else pure (SY U2)) R E s:=by
 refine ba$ HC u x ?_$ dg D;obtain⟨r,I⟩:=lS u v x B C D M F;have h:=Wb s.heap a$ mv d f;split
 ·have i:=relayAll_perm f d$ Af d.size;have G:=relayAll_fits f d$ Af d.size;have H:=F.pE d$ Af d.size;generalize xn f d _=ϊ at i G H ⊢;obtain⟨l,Q,P⟩:=ϊ;have z:l.size=d.size:=by rw[<-gc,i.length_eq,gc]
  refine ba$ N _ _ _$ ba$ HC r rfl ?_$ dg ⋯;obtain⟨_,p⟩:=lS (S':=j) r v rfl (B.perm i) (λk=>(C k).trans ⟨(by rintro ⟨e,he,y⟩;exact ⟨e,i.mem_iff.mpr he,y⟩),(by rintro ⟨e,he,y⟩;exact ⟨e,i.mem_iff.mp he,y⟩)⟩) ⋯ G H;rw[z]at p;exact ga$ q _ (h.trans$ Wb _ a _) p
 ·exact ga$ q _ h I
def Η(L:knd.is k x=U2)(M:x.scannable=U2)(ϋ:zq knd b s.heap a S n)(hn:n+1<scanBound)
  (q:∀ d,Yc a s.heap d->zq knd b d a (λD=>S D || decide (D=k)) (if S k then n else n+1)->Q (!S k) { s with heap:=d }):wpAny (model prog w) A (setAddHashed a x$ knd.hash k) Q E s:=by
 apply b_;intro z_;obtain⟨o,f,X,t,l,I,m,B,C,R,J,T,ό⟩:=ϋ;apply z_;refine Yb$ ba$ Xe l m J ?_;dsimp only;rw[byScan_of M R B];refine ba$ ba$ Jq$ ba$ wpAny_setScan_of L l m J B ?_;cases V:List.findIdx? (λe=>knd.is k e.2) f.toList with
 |some j=>
  obtain⟨hj,pj,_⟩:=List.findIdx?_eq_some_iff_getElem.mp V;have u:=(C k).mpr ⟨f.toList[j],Xf hj,pj⟩;refine ga$ ga ?_;have z:=q s.heap (yJ a s.heap) ⟨o,f,X,t,l,I,m,B,λD=>by
   rw[sf,Gc,<-C D];exact⟨λy=>y.elim id λe=>e ▸ u,ϑ⟩,R,J,by rw[u];exact T,ό⟩
  rw[u]at z
  simp_all
 |none=>
  have u:S k=ŝ:=by
   cases y:S k with
   |false=>rfl
   |true=>obtain⟨e,he,p⟩:=(C k).mp y;have:=List.findIdx?_eq_none_iff.mp V e he;rw[p]at this;cases this
  have H:∀ c {s1:Shared} {i:Unit->Shared->Prop},i () s1->wpAny (model prog w) A (match c with|true=>rule "set.scan.the-table-gave-way" | false=>pure ()) i E s1:=λc s1 i y=>by
   cases c
   ·exact ga y
   ·exact Jq y
  have r:=layNew_perm t f (knd.hash k) x;have F:=layNew_fits t f (knd.hash k) x;have G:=ό.lay f (knd.hash k) x;generalize layNew t f _ x=ϊ at r F G ⊢;apply b_;intro z_;obtain⟨g,t1,wd,gv⟩:=ϊ;rw[Array.toList_push]at r;have N:=(B.push L M).perm r;have O:=mem_push_iff L C r;have W:g.size=n+1:=by rw[<-gc,r.length_eq,db,gc,T];rfl
  apply z_;have P:g.size<scanBound:=by omega
  have Df:∀ d,Yc a s.heap d->zq knd b d a _ g.size->Q U2 { s with heap:=d }:=λd v h=>by
   have:=q d v;rw[u]at this;rw[W]at h;exact this h
  refine ba$ H _ ?_;split
  ·refine ba ?_;rw[hashByValue_scannable 8 M];refine ga$ rS (b:=b) ?_ l I m N O P ?_ ?_ ?_
   ·exact λc s1 i y=>H c y
   ·split
    ·exact F
    ·exact SetTable.fits_plain_off F
   ·split
    ·exact G
    ·exact G.plain
   ·exact λd v h=>ga$ Df d v h
  ·refine ba$ ga ?_;refine rS ?_ l I m N O P F G ?_
   ·exact λc s1 i y=>H c y
   ·exact λd v h=>ga$ Df d v h
end
noncomputable def bT(w:Ta):Bool:=w.params.followText "set-order"
section
variable{prog:Aa}{w:Ta}{A:Ma}
def yY(g:zq (Mf prog w) b h a S n)(e:∀ k,S k=c k)(f:n=d):zq (Mf prog w) b h a c d:=by
 obtain rfl:S=c:=funext e
 simp_all
def QN(f:zq (Mf prog w) b h a S n)(k:∀ o,h.get? a=SY o->c.get? a=SY o):zq (Mf prog w) b c a S n:=by
 obtain⟨o,e,d,t,g,r⟩:=f;exact⟨o,e,d,t,k o g,r⟩
def Α{St}(W:WalksS prog w A.in1 I u j G n P St) a(x:a ∉ u) f(H:∀ i v,P i v->∃ t,v=Tl (f i) t)(N:n+1<scanBound) :
  ∀ k i s,n - i=k->i<=n->St i s->zq (Mf prog w) b s.heap a (λy=>(Ef f i).any (·== y)) (Ef f i).length->
   (∀ d,Moved (a::j) G s d->zq (Mf prog w) b d.heap a (λy=>(Ef f n).any (·== y)) (Ef f n).length->R (.ok$ .ret rc) d)->codeAny (model prog w) A (.builtin "set.update.loop" ⟨[Xb a,Xb I],[]⟩) R s:=by
 have r:a ∉ j:=λz=>x$ W.sub _ z;have h:∀ c∈j,c∈a::j:=λc g=>ja _ g;intro k;induction k with
 |zero=>
  intro i s K J st l q;obtain rfl:i=n:=by lia
  exact Jc F.entry_set_update_loop$ ba (W.done s _ _ st λd m=>(ga$ q d (m.mono h)$ QN l λo e=>m.heap a _ r e))
 |succ k L=>
  intro i s K J st l q;have B:i<n:=by lia
  refine Jc F.entry_set_update_loop$ ba (W.item i s _ _ B st λv d E p m=>?_);apply b_;intro z_;obtain⟨t,rfl⟩:=H i v E;apply z_;refine ba$ Yb$ Yb$ ba$ (Mf prog w).pyHash (intKind_is _ _ _ _) ?_;refine Η (intKind_is _ _ _ _) rfl (QN l λo e=>m.heap a _ r e) (by have:=HA f i;lia) λh' sb S2=>?_;have C:zq _ b h' a (λy=>(Ef f$ i+1).any (·== y)) (Ef f$ i+1).length:=yY S2 (λy=>by rw[YX,step_any]) (by rw[YX,step_length]);refine ga ⟨Sd F.plain_set_update_loop _,L (i+1) _ ⋯ B (W.frame _ d _ _ p (zh _) λc g o e=>?_) C λs2 M D=>?_⟩
  ·rw[sb.2 c (λz:c=a=>x (by rw[<-z];exact g))];exact e
  ·refine q s2 (Moved.trans W.gtrans ((m.mono h).then_heap (zh _) λc o g e=>?_) M) D;rw[sb.2 c (λz:c=a=>g (by rw[z];exact va))];exact e
variable{E:Value->Shared->Prop}{s:Shared}
def N3 x(q:Q (Xb s.heap.objs.size) { s with heap:=s.heap.push { cls:=Wh "set",dict:=ń,data:=.set #[] 0 (.fresh 0 0$ !bT w) } }) :
  codeAny (model prog w) A (.call (Ϟ "set.__new__") ⟨[Wh "set",x],[]⟩) (wants Q E) s:=by
 refine zJ$ ba$ Lx (PySem.F.newCall_set_1 x)$ ga ⟨Sd PySem.F.plain_set_new _,Jc PySem.F.entry_set_new ?_⟩;unfold bi.«set.__new__» Px;have a:=sub_set_self;obtain⟨b,g,d,e,c⟩:=s
 wp_walk
 exact Hg$ ga$ ba$ wpAny_alloc$ ga$ ga q
end
section
variable{prog:Aa}{w:Ta}{A:Ma}{E:Value->Shared->Prop}{s:Shared}
abbrev Iw(w:Ta):Obj:={ cls:=Wh "set",dict:=ń,data:=.set #[] 0 (.fresh 0 0$ !bT w) }
set_option maxHeartbeats 3200000 in
def l7{l}{a}{h}{Q}(W:A.handled=ń)(ϋ:s.heap.IsList l a)(X:xh a.toList h)(ό:a.size+1<scanBound)
  (q:∀ d t,zq (Mf prog w) (bT w) d s.heap.objs.size (λy=>(Ef (λi=>h.getD i 0) a.size).any (·== y)) (Ef (λi=>h.getD i 0) a.size).length->
   (∀ b o,b<s.heap.objs.size->s.heap.get? b=SY o->d.get? b=SY o)->Q (Xb s.heap.objs.size) { s with heap:=d,toks:=t }) :
  wpAny (model prog w) A (call (Wh "set") [Xb l]) Q E s:=by
 obtain⟨c,tl,K⟩:=Uc.mro;have f1:=Uc.made;have f2:=Uc.sub;refine ej$ zJ (show wpAny _ _ (callAny (Wh "set") _) _ _ _ from ga ⟨Code.quiet_builtin _ (by decide +kernel),Jc PySem.F.entry_type_call ?_⟩);rw[Around.under_plain (weight_type_call_type "set" [Xb l] []) rfl];have f3:=Uc.notType;have f4:=Uc.canCreate;have f5:=PySem.F.typeCall_set_1$ Xb l;repeat (any_goals (first|assumption|wp_step))
 refine qf (N3 (Xb l) (E:=E) (Q:=λob s1=>ob=Xb s.heap.objs.size/\s1={ s with heap:=s.heap.push (Iw w) }) ⟨rfl,rfl⟩) λr s1 C=>?_;cases r with
 |error e=>exact C
 |ok P=>
  cases P with
  |ret ob=>
   apply b_;intro z_;obtain⟨rfl,rfl⟩:=C;have I:(s.heap.push$ Iw w).get? s.heap.objs.size=SY (Iw w):=Ea _ rfl;have tS:Rn { s with heap:=s.heap.push (Iw w) } (Xb s.heap.objs.size) "set":=⟨_,I,rfl⟩
   apply z_;have i1:=Uc.init.lookup;have i2:=Uc.init.bind$ Xb s.heap.objs.size;repeat (any_goals (first|assumption|wp_step))
   refine qf (sk (R:=wants (λr s2=>r=rc/\∃ d t,s2={ s with heap:=d,toks:=t }/\zq (Mf prog w) (bT w) d s.heap.objs.size (λy=>(Ef (λi=>h.getD i 0) a.size).any (·== y)) (Ef (λi=>h.getD i 0) a.size).length/\
     (∀ b o,b<s.heap.objs.size->s.heap.get? b=SY o->d.get? b=SY o)) E) Uc.init.plain PySem.F.entry_set_init$ check_set_init_1 tS ?_) λr2 s2 g=>?_
   ·obtain⟨⟨oc,od,a0,G⟩,J,j,N,m⟩:=ϋ;simp only at j m;subst j;subst m;have x:(s.heap.push$ Iw w).get? l=SY { cls:=Wh "list",dict:=od,data:=Ϧ a N,slots:=G }:=da _ J;have g1:=PySem.F.sub_list_set;have g2:=PySem.F.sub_list_frozenset;have g3:(Wh "list" == Wh "dict")=ŝ:=by decide
    have n:(s.heap.push$ Iw w).IsList l a:=⟨_,x,rfl,N,rfl⟩
    unfold bi.«set.__init__» noKeywords Qx;generalize z:pyIter=PI
    wp_walk
    subst z;refine Zh n$ ba$ Lq ?_;have L:l<s.heap.objs.size:=xa J;have T:A.in1.in1.in1.handled=ń:=by simp[W]
    have nI:l≠(s.heap.push$ Iw w).objs.size:=by rw[Oc];exact za$ Rb L
    have nf:s.heap.objs.size ∉ [(s.heap.push$ Iw w).objs.size,l]:=by
     rw[Oc];simp only[Ba,oe,dm,not_or];exact⟨za$ Qb _,Jd L⟩
    refine Α (b:=bT w) ((Kj T _ l nI a).toS) s.heap.objs.size nf (λi=>h.getD i 0) (λi v ϊ=>IntsAre.int_at X i v (by rw[Pd];exact ϊ)) ό (a.size - 0) 0 _ ⋯ (yh _) ⟨⟨_,Ea _ rfl,rfl,rfl⟩,(n.push _)⟩ ?S0 ?RR;case S0=>
     exact⟨Iw w,#[],0,_,da _ I,⟨rfl,rfl,rfl⟩,rfl,λe V=>by simp at V,λk=>by simp[ZX],by decide,by rfl,by simp[ZX],Dj.fresh _⟩
    case RR=>
     intro s' p f;obtain⟨d,S,O,H,D⟩:=s';obtain rfl:S=s.gens:=p.gens;obtain rfl:O=s.drawn:=p.drawn;obtain rfl:D=s.os:=p.os;refine ga$ ga ⟨rfl,d,H,rfl,f,λb o M e=>?_⟩;refine p.heap b o ?_$ da _$ da _ e;rw[Oc];simp only[Ba,oe,dm,not_or];exact⟨za M,za$ Rb M⟩
   ·cases r2 with
    |error e=>exact g
    |ok u=>
     cases u with
     |ret r=>
      obtain⟨rfl,d,t,rfl,f,B⟩:=g;repeat (any_goals (first|assumption|wp_step))
      exact q _ _ f B
     |_=>exact g
  |_=>exact C
end
def Nt:bP "set_iterator" "__next__" "set_iterator.__next__":=.of (owner:="set_iterator") (n:="__next__") (by rw[AJ,sw];kernel_rfl) (by decide +kernel) (by decide +kernel) (by decide +kernel) (ϑ$ by decide +kernel) (by rw[Mq];kernel_rfl)
def KG:eP table "set_iterator.__next__" = SY bi.«set_iterator.__next__»:=entryFor_of_tree (by kernel_rfl)
def gG a:nv "set_iterator.__next__" ⟨[a],[]⟩:=by unfold nv;kernel_rfl
def Χ:eP table "set.__iter__" = SY bi.«frozenset.__iter__»:=ZO (id':="frozenset.__iter__") (by kernel_rfl) (by first|rfl|decide +kernel) (by decide +kernel) (by kernel_rfl)
def rp(h:Heap)(a:Addr)(c:Array$ Int × Value)(b:Nat)(t:Od):Prop:=∃ o,h.get? a=SY o/\o.ExactSet/\o.data=.set c b t
def Zp(h:Heap)(I a:Addr)(first:Value)(i n b:Nat):Prop:=∃ o,h.get? I=SY o/\o.cls=Wh "set_iterator"/\o.data=ϩ #[first,pc i,Xb a,pc n,pc b]
section
variable{prog:Aa}{w:Ta}{A:Ma}{E:Value->Shared->Prop}{s:Shared}{I a:Addr}{es:Array$ Int × Value}{ep:Nat}{t:Od}{i:Nat}
def Zp.ty(h:Zp s.heap I a first i n ep):s.TypeIs (Xb I) "set_iterator":=let ⟨o,b,c,_⟩:=h;⟨o,b,c⟩
def G3{f:Nat}(g:Zp s.heap I a (pc f) i es.size ep)(m:rp s.heap a es ep t)(p:t.fits es.size=U2)(u:a≠I)
  (r:∀ A E (Q:Option (Value × Nat)->Shared->Prop),Q (SY (v,b)) s->wpAny (model prog w) A (qv a f i ep) Q E s)
  (q:∀ e,Zp e I a (pc b) (i+1) es.size ep->Yc I s.heap e->Q (SY v) { s with heap:=e }):wpAny (model prog w) A (pyNext$ Xb I) Q E s:=by
 obtain⟨o,h,n,c⟩:=id g;obtain⟨x,l,y,k⟩:=id m;refine ba$ fm$ Ed g.ty Nt$ Mc Nt g.ty KG ?_$ gG _;refine ba$ ga$ ba$ uk h c$ ba$ Cf l k p ?_;rw[ya ⋯];refine ba$ r _ _ _$ ba$ eg h c ⋯ ?_;have j:=yc (Fp (·.setIfInBounds 0$ Tl b 0)) h$ Qe$ ec c _;have d:=ec c (·.setIfInBounds 0$ Tl b 0);refine ba$ eg j d ⋯$ ga ⟨_,rfl,ga$ q _ ⟨_,(yc _ j$ Qe$ ec d _),?_,?_⟩$ (Wb ..).trans$ Wb ..⟩
 ·rw[Sl,Sl];exact n
 ·rw[ec d];simp[pc]
def jQ{Q}{first:Value}{n:Nat}{d}(f:A.handled=ń)(sb:Yc I s.heap d)(q:∀ b,Mm I s.heap b->Q ń { s with heap:=b }) :
  wpAny (model prog w) A.in1 (do let e <-newExc (Wh "StopIteration") [];raiseNew e:Um PySem.Fin) (λDf a=>∃ v,Df=Fin.done (Flow.ret v)/\wpAny (model prog w) A (pure$ SY v) Q E a)
   (λe a=>wpAny (model prog w) A (do let c <-LA e (Wh "StopIteration");if c=U2 then pure ń else throw e) Q E a) { s with heap:=d }:=by
 refine ba$ ba$ Dc (ba$ Lx (by rfl)$ Dc (ba$ wpAny_handled ?_)$ by size_fits) (by size_fits);rw[f];refine ba$ ga$ wpAny_throw ?_;refine ba$ XF ⟨_,Ea _ rfl,rfl⟩ isSubtype_stop ?_;exact ga$ q _$ (sb.extBut.push _).push _
def Õ{f:Nat}(l:A.handled=ń)(b:Zp s.heap I a (pc f) i es.size ep)(j:rp s.heap a es ep t)(k:t.fits es.size=U2)
  (m:∀ A E Q,Q ń s->wpAny (model prog w) A (qv a f i ep) Q E s)
  (q:∀ c,Mm I s.heap c->Q ń { s with heap:=c }):wpAny (model prog w) A (pyNext$ Xb I) Q E s:=by
 obtain⟨o,e,p,d⟩:=id b;obtain⟨r,h,u,g⟩:=id j;refine ba$ fm$ Ed b.ty Nt$ Mc Nt b.ty KG ?_$ gG _;refine ba$ ga$ ba$ uk e d$ ba$ Cf h g k ?_;rw[ya ⋯];exact ba$ m _ _ _$ ba$ eg e d ⋯$ jQ (first:=rc) (n:=0) l (Wb ..) q
end
theorem MM{a:Type}:∀ (l:List a) (i:Nat) (h:i<l.length),(l[i]::l.eraseIdx i).Perm l
 |x::l,0,_=>.refl _
 |x::l,i+1,h=>by
  have:=MM l i ⋯;exact(List.Perm.swap _ _ _).trans$ this.cons x
theorem GT{d:Type}(nx:Nat->Nat):∀ (a k:Nat) (left:List d) (out:Array d),left.length=a->∃ b:List d,(yn nx a k left out).toList=out.toList++b/\b.Perm left
 |0,k,left,out,h=>by
  obtain rfl:=Ep.mp h;exact⟨[],by unfold yn;simp,.refl _⟩
 |a+1,k,left,out,h=>by
  have c:nx k % left.length<left.length:=Xu _ ⋯;unfold yn;rw[xb c];obtain⟨b,e,p⟩:=GT nx a (k+1) _ (out.push left[nx k % left.length]) (by rw[On c];lia);exact⟨left[nx k % left.length]::b,by rw[e];simp,((p.cons _).trans$ MM left _ c)⟩
def fU nx(xs:Array a):(Io nx xs).toList.Perm xs.toList:=by
 obtain⟨b,e,p⟩:=GT nx xs.size 0 xs.toList #[] ⋯;unfold Io
 simp_all
noncomputable def fB(pl:Array Nat)(i:Nat):Nat:=if i=0 then 0 else pl.getD (i - 1) 0+1
def J0{pl}(d:By pl)(k:i<=pl.size):Le pl (fB pl i)=i:=by
 refine Z6 (zR d _) ⟨k,λj a l b=>?_,λj a l b=>?_⟩
 ·unfold fB;rw[ya ⋯];have c:i - 1<pl.size:=by lia
  have f:=Kb c;have h:pl.getD (i - 1) 0=pl[i - 1]:=by simp[c]
  by_cases e:j=i - 1
  ·subst e;rw[f]at b;cases b;lia
  ·have:=d j _ a _ ⋯ b f;lia
 ·unfold fB;by_cases g:i=0
  ·rw[na g];lia
  ·rw[ya g];have c:i - 1<pl.size:=by lia
   have h:pl.getD (i - 1) 0=pl[i - 1]:=by simp[c]
   have:=d _ j _ a ⋯ (Kb c) b;lia
section
variable{prog:Aa}{w:Ta}{A:Ma}{E:Value->Shared->Prop}{s:Shared}{a:Addr}{es:Array$ Int × Value}{ep:Nat}{t:Od}{i:Nat}
def OI(q:Q (bT w) s):wpAny (model prog w) A setsByText Q E s:=by
 exact ba$ Hg$ ga q
def B0(b:bT w=U2)(f:rp s.heap a es ep t)(c:t.fits es.size=U2)(q:Q (((Io (w.params.setOrder a ep) es)[i]?).map λe=>(e.2,0)) s):wpAny (model prog w) A (qv a 0 i ep) Q E s:=by
 obtain⟨o,g,x,d⟩:=f;refine ba$ Xe g d c$ ba$ OI ?_;rw[b];simp;refine ba$ ba$ Xe g d c$ ba$ OI ?_;rw[b];exact ba$ Hg$ ga$ ga q
def S4(j:bT w=ŝ)(h:Dj (bT w) t)(u:(!t.plain && decide (es.size > 1))=ŝ)(r:i<=es.size)(p:rp s.heap a es ep t)(c:t.fits es.size=U2)(q:Q ((es[i]?).map λe=>(e.2,fB t.place (i+1))) s):wpAny (model prog w) A (qv a (fB t.place i) i ep) Q E s:=by
 obtain⟨o,g,x,d⟩:=p;have l:t.place.size=es.size:=by simp[SetTable.fits,Da]at c;exact c.1
 refine ba$ Xe g d c$ ba$ OI ?_;rw[j];simp;refine Kf (λz=>?_) (λv=>?_)
 ·have:(!t.plain && decide (es.size > 1))=U2:=z;rw[u]at this;cases this
 ·refine ba ?_;refine Kf (λz=>?_) (λv=>ga ?_)
  ·have:=z;rw[h.led,j]at this;cases this
  ·rw[J0 h.QH (by rw[l];exact r)];refine ga ?_;by_cases k:i<es.size
   ·have f:es[i]?=SY es[i]:=Kb k;have b:i<t.place.size:=by rw[l];exact k
    have m:t.place[i]?=SY t.place[i]:=Kb b;rw[f]at q ⊢;rw[m];have n:fB t.place (i+1)=t.place[i]+1:=by unfold fB;simp[b]
    rwa [n]at q
   ·have f:es[i]?=ń:=Dp ⋯
    simp_all
end
section
variable{prog:Aa}{w:Ta}{A:Ma}{E:Value->Shared->Prop}{s:Shared}{I a p:Addr}{es:Array$ Int × Value}{ep:Nat}{t:Od}{i:Nat}
def v6{M}{a}(b:n≠0)(q:∀ i,i<n->∀ c,Q i { s with drawn:=c }):wpAny M A (choose a n) Q E s:=λd ps d=>⟨b,q _ (Xu _$ Nat.pos_of_ne_zero b) _⟩
theorem bX{M:Pi}{d:Type}:∀ (n:Nat) (xs:List d) (s:Shared) (Q:List d->Shared->Prop),xs.length=n->(∀ b c,b.Perm xs->Q b { s with drawn:=c })->wpAny M A (drawOrder n xs) Q E s
 |0,xs,s,Q,h,q=>by
  obtain rfl:=Ep.mp h;exact ga$ q [] s.drawn$ .refl _
 |n+1,[],s,Q,h,q=>by cases h
 |n+1,x::xs,s,Q,h,q=>by
  refine ba (v6 ⋯ λi a c=>?_);rw[xb a];exact ba (bX n _ _ _ (by rw[On a];simpa using h) λb e p=>ga$ q _ e$ (p.cons _).trans$ MM _ i a)
def aA(h:Heap)(p:Addr)(ps:gV):Prop:=∃ o n,h.get? p=SY o/\o.data=Ϧ (ps.map λ(i:Nat)=>pc i).toArray n
def AY(d:Zp s.heap I a (Xb p) i es.size ep)(n:rp s.heap a es ep t)(k:t.fits es.size=U2)(r:aA s.heap p ps)(x:ps[i]?=SY j)(y:es[j]?=SY v)
  (q:∀ c,Zp c I a (Xb p) (i+1) es.size ep->Yc I s.heap c->Q (SY v.2) { s with heap:=c }):wpAny (model prog w) A (pyNext$ Xb I) Q E s:=by
 obtain⟨o,f,u,b⟩:=id d;obtain⟨B,h,D,g⟩:=id n;obtain⟨C,z,m,l⟩:=r;refine ba$ fm$ Ed d.ty Nt$ Mc Nt d.ty KG ?_$ gG _;refine ba$ ga$ ba$ uk f b$ ba$ Cf h g k ?_;rw[ya ⋯];refine ba$ Kh m l ?_;dsimp only;have e:(ps.map λ(i:Nat)=>pc i).toArray[(i:Int).toNat]?=SY (Tl j 0):=by
  rw[Int.toNat_natCast,Gi,Ca,x];rfl
 rw[e];simp;refine ba$ ba$ Xe h g k ?_;dsimp only;rw[ya ⋯];rw[y];refine ga$ ba$ eg f b ⋯$ ga ⟨_,rfl,ga$ q _ ⟨_,(yc _ f$ Qe$ ec b _),?_,?_⟩$ Wb ..⟩
 ·rw[Sl];exact u
 ·rw[ec b];simp
def zgo(u:A.handled=ń)(c:Zp s.heap I a (Xb p) i es.size ep)(l:rp s.heap a es ep t)(r:t.fits es.size=U2)(m:aA s.heap p ps)(x:ps[i]?=ń)
  (q:∀ f,Mm I s.heap f->Q ń { s with heap:=f }):wpAny (model prog w) A (pyNext$ Xb I) Q E s:=by
 obtain⟨o,d,v,b⟩:=id c;obtain⟨z,j,C,g⟩:=id l;obtain⟨B,y,k,h⟩:=m;refine ba$ fm$ Ed c.ty Nt$ Mc Nt c.ty KG ?_$ gG _;refine ba$ ga$ ba$ uk d b$ ba$ Cf j g r ?_;rw[ya ⋯];refine ba$ Kh k h ?_;dsimp only;have e:(ps.map λ(i:Nat)=>pc i).toArray[(i:Int).toNat]?=ń:=by
  simp_all
 rw[e];refine ba (eg d b ⋯ (ba (eg (yc _ d$ Qe$ ec b _) (ec b (·.setIfInBounds 0 _)) ⋯ ?_)));exact jQ (s:=s) (first:=rc) (n:=0) u ((Wb ..).trans$ Wb ..) q
noncomputable abbrev nz(a:Addr)(first:Value)(n ep:Nat):Obj:={ cls:=Wh "set_iterator",data:=ϩ #[first,pc 0,Xb a,pc n,pc ep] }
noncomputable abbrev WM(ps:gV):Obj:={ cls:=Wh "tuple",data:=Ϧ (ps.map λ(i:Nat)=>pc i).toArray }
def f9(l:rp s.heap a es ep t)(c:t.fits es.size=U2)(n:es.size<scanBound)
  (j:(!bT w && (!t.plain && decide (es.size > 1)))=ŝ->Q (Xb s.heap.objs.size) { s with heap:=s.heap.push (nz a (pc 0) es.size ep) })
  (k:(!bT w && (!t.plain && decide (es.size > 1)))=U2->∀ b e,b.Perm (List.range es.size)->Q (Xb$ s.heap.objs.size+1) { s with heap:=(s.heap.push$ WM b).push (nz a (Xb s.heap.objs.size) es.size ep),drawn:=e }) :
  wpAny (model prog w) A (pyIter$ Xb a) Q E s:=by
 apply b_;intro z_;obtain⟨o,g,x,d⟩:=id l;have h:s.TypeIs (Xb a) "set":=⟨o,g,x.1⟩
 apply z_;refine IC h Ro$ Mc Ro h Χ (ba$ ga$ ba$ ba$ Cf g d c$ ga$ ba$ ba$ Xe g d c$ ba$ OI$ ga$ Kf (λz=>?_)$ λz=>?_)$ PySem.F.args_set_iter_1 _
 ·have f:=z;refine ba (bX _ _ _ _ ⋯ λb e i=>?_);have m:b.length=es.size:=by rw[i.length_eq,qh]
  refine ba$ wpAny_newTuple (ba$ JC (da _ g) d c ?_) (by rw[Ha,m];exact dg n);refine ba$ Dc (ga ⟨_,rfl, "set_iterator",_,⟨_,Ea _ rfl,rfl⟩,Nt.lookup,?_⟩) (by size_fits);have:=k f b e i;rw[<-Oc s.heap _]at this;omega
 ·have f:(!bT w && (!t.plain && decide (es.size > 1)))=ŝ:=by
   cases y:(!bT w && (!t.plain && decide (es.size > 1)))with
   |false=>rfl
   |true=>exact absurd y z
  refine ba$ ga$ ba$ JC g d c$ ba$ Dc (ga ⟨_,rfl, "set_iterator",_,⟨_,Ea _ rfl,rfl⟩,Nt.lookup,?_⟩) (by size_fits);exact j f
end
def QV:bP "set_iterator" "__iter__" "set_iterator.__iter__":=.of (owner:="set_iterator") (n:="__iter__") (by rw[AJ,sw];kernel_rfl) (by decide +kernel) (by decide +kernel) (by decide +kernel) (by first|exact ϑ (by decide +kernel)|exact .inr _) (by rw[Mq];kernel_rfl)
def N6:eP table "set_iterator.__iter__" = SY bi.«dict_keyiterator.__iter__»:=ZO (id':="dict_keyiterator.__iter__") (by kernel_rfl) (by first|rfl|decide +kernel) (by decide +kernel) (by kernel_rfl)
def ζ a:nv "set_iterator.__iter__" ⟨[a],[]⟩:=by unfold nv;kernel_rfl
section
variable{prog:Aa}{w:Ta}{A:Ma}{I a p:Addr}{es:Array$ Int × Value}{ep:Nat}{t:Od}
def LU(h:Zp s.heap I a first i n ep)(q:Q (Xb I) s):wpAny (model prog w) A (pyIter$ Xb I) Q E s:=by
 exact IC h.ty QV$ Mc QV h.ty N6 (ga ⟨_,rfl, "set_iterator",_,h.ty,Nt.lookup,q⟩)$ ζ _
def Zp.keep(x:Zp h I a first i n ep)(k:∀ o,h.get? I=SY o->b.get? I=SY o):Zp b I a first i n ep:=let ⟨o,e,r⟩:=x;⟨o,k o e,r⟩
def rp.keep(x:rp h a es ep t)(k:∀ o,h.get? a=SY o->b.get? a=SY o):rp b a es ep t:=let ⟨o,e,r⟩:=x;⟨o,k o e,r⟩
def aA.keep{h a}(x:aA h p ps)(k:∀ o,h.get? p=SY o->a.get? p=SY o):aA a p ps:=let ⟨o,n,e,r⟩:=x;⟨o,n,k o e,r⟩
def nX{f:Nat->Nat}{ord:List$ Int × Value}(C:A.handled=ń)(n:t.fits es.size=U2)(g:a≠I)(D:ord.length=es.size)
  (r:∀ (s:Shared) (i:Nat),rp s.heap a es ep t->i<=es.size->∀ (A:Ma) (E:Value->Shared->Prop) (Q:Option (Value × Nat)->Shared->Prop),Q ((ord[i]?).map λe=>(e.2,f (i+1))) s->wpAny (model prog w) A (qv a (f i) i ep) Q E s) :
  Walks prog w A I [I,a] [I] es.size (λi v=>(ord[i]?).map (·.2)=SY v) (λi h=>Zp h I a (pc$ f i) i es.size ep/\rp h a es ep t) where
 sub:=λb c=>by simp at c;simp[c]
 frame:=λF F F st q=>⟨st.1.keep λo e=>q I ⋯ o e,st.2.keep λo e=>q a ⋯ o e⟩
 item:=λi s Q E p st d=>by
  have m:i<ord.length:=by rw[D];exact p
  have x:=xb m;exact G3 st.1 st.2 n g (λA' j k u=>r s i st.2 (jd p) A' j k (by rw[x];exact u)) λl y sb=>(d _ l s.toks ⋯ ⟨y,st.2.keep λo e=>by rw[sb.2 a g];exact e⟩ λb o c e=>by rw[sb.2 b (λz=>c (by simp[z]))];exact e)
 done:=λs Q E st d=>by
  exact Õ C st.1 st.2 n (λA' j k u=>r s es.size st.2 (wa _) A' j k ⋯) λl B=>d l s.toks λb o c e=>B b o (λz=>c (by simp[z])) e
 self:=λF F F F st d=>LU st.1 d
def lZ{ps:gV}(C:A.handled=ń)(x:t.fits es.size=U2)(n:a≠I)(r:p≠I)(q:ps.Perm$ List.range es.size) :
  Walks prog w A I [I,a,p] [I] es.size (λi v=>((ps[i]?).bind λj=>es[j]?).map (·.2)=SY v) (λi h=>(Zp h I a (Xb p) i es.size ep/\rp h a es ep t)/\aA h p ps) where
 sub:=λb c=>by simp at c;simp[c]
 frame:=λF F F st l=>⟨⟨st.1.1.keep λo e=>l I ⋯ o e,st.1.2.keep λo e=>l a ⋯ o e⟩,st.2.keep λo e=>l p ⋯ o e⟩
 item:=λi s Q E D st d=>by
  have m:ps.length=es.size:=by rw[q.length_eq,qh]
  have f:i<ps.length:=by rw[m];exact D
  have g:=xb f;have u:=Kb$ Wi.mp$ q.mem_iff.mp$ Xf f;exact AY st.1.1 st.1.2 x st.2 g u λk y sb=>(d _ k s.toks (by rw[g,Zk,u];rfl) ⟨⟨y,st.1.2.keep λo e=>by rw[sb.2 a n];exact e⟩,st.2.keep λo e=>by rw[sb.2 p r];exact e⟩ λb o c e=>by rw[sb.2 b (λz=>c (by simp[z]))];exact e)
 done:=λs Q E st d=>by
  have m:ps.length=es.size:=by rw[q.length_eq,qh]
  have g:ps[es.size]?=ń:=by rw[<-m];simp
  exact zgo C st.1.1 st.1.2 x st.2 g λk B=>d k s.toks λb o c e=>B b o (λz=>c (by simp[z])) e
 self:=λF F F F st d=>LU st.1.1 d
def D1(d:s.TypeIs (Xb a) "set")(h:Q ŝ s):wpAny (model prog w) A (Nj$ Xb a) Q E s:=by
 refine ba$ wJ d PySem.F.slot_set_len.lookup ?_;generalize e:("set.__len__")=f;subst e;exact ba$ XF (b:=U2) d (by rw[Mq];kernel_rfl)$ Kf (λc=>absurd c ⋯) (λg=>(Kf (λg=>(ba$ dj d$ ga h))$ λc=>absurd (by decide +kernel) c))
end
end Lake
namespace Lake
open Spec Calls W PyProof.V
section
variable{prog:Aa}{w:Ta}{A:Ma}{E:Value->Shared->Prop}{s:Shared}{a:Addr}{es:Array$ Int × Value}{ep:Nat}{t:Od}
def mO{D}{St}(W:Walks prog w A.in1 I y [I] n P St)(N:n<=sizeLine)(k:S ∉ y)(K:s.TypeIs (Xb a) "set")(st:St 0 s.heap)
  (t:s.heap.get? S=SY { cls:=Wh "list",data:=Ϧ #[] x })
  (J:∀ h' q g c,(∀ b o,b≠S->b≠I->s.heap.get? b=SY o->h'.get? b=SY o)->h'.get? S=SY { cls:=Wh "list",dict:=ń,data:=Ϧ g c,slots:=#[] }->vn P g n->R (.ok$ .ret d) { s with heap:=h',toks:=q }) :
  wpAny (model prog w) A.in1 (do
    let p <-Be [Xb I] (Nj$ Xb a)
    if (p || D)=U2 then do
     rule "list.extend.makes-room"
     DJ (Xb S)
     again (.builtin "list.extend.loop" ⟨[Xb S,Xb I,d],[]⟩)
    else again (.builtin "list.extend.loop" ⟨[Xb S,Xb I,d],[]⟩))
   (λDf j=>match Df with | .done f=>R (.ok f) j | .again v=>v.quiet=U2/\codeAny (model prog w) A v R j) (λe j=>R (.error e) j) s:=by
 have l:∀ h r q,St 0 h->(∀ b o,b≠S->s.heap.get? b=SY o->h.get? b=SY o)->h.get? S=SY { cls:=Wh "list",data:=Ϧ #[] r }->codeAny (model prog w) A (.builtin "list.extend.loop" ⟨[Xb S,Xb I,d],[]⟩) R { s with heap:=h,toks:=q }:=by
  intro h r q u M G;refine codeAny_extend_loopS W.toS N S k d n 0 _ #[] r rfl (yh _) u G (ItemsOf.nil _) λj g c C E L=>?_;rw[Moved.eq_with C];refine J j.heap j.toks g c (λb o i H e=>C.heap b o (λz=>?_)$ M b o i e) E L;rcases Ba.mp z with z|z
  ·exact i z
  ·exact H$ Oa.mp z
 refine ba$ Yb$ D1 K$ Kf (λF=>(ba$ Jq$ ba ?_)) (λF=>ga ⟨Sd Sm _,l _ x _ st (λb o F e=>e) t⟩);refine ba$ gh t rfl ?_;have B:=yc (Fe (·.push rc)) t rfl;refine gh B rfl ?_;have m:∀ b o,b≠S->s.heap.get? b=SY o->((s.heap.update S (Fe (·.push rc))).update S (Fe (·.pop))).get? b=SY o:=λb o i e=>(Ae _ _$ Ud i).trans$ (Ae _ _$ Ud i).trans e;exact ga ⟨Sd Sm _,l _ _ _ (W.frame 0 _ _ st λb i o e=>m b o (λz=>k$ z ▸ i) e) (λb o i e=>m b o i e) (yc (Fe (·.pop)) B rfl)⟩
theorem aL{a b:Type}{f:a->Option b}{g:a->b}:∀ {l:List a},(∀ j∈l,f j=SY (g j))->l.filterMap f=l.map g
 |[],_=>rfl
 |x::l,h=>by rw[af,h x va,Va,aL λj c=>h j$ ja _ c]
def FZ{a}{b:List$ Int × Value}(c:b.length=n)(h:vn (λi v=>(b[i]?).map (·.2)=SY v) a n):a.toList=b.map (·.2):=by
 apply ph;intro i;rw[Pd,Ca];cases e:a[i]? with
 |none=>
  have:n<=i:=by have:=bn.mp e;rw[h.1]at this;exact this
  simp_all
 |some v=>exact(h.2 i v e).symm
def ĸ(es:Array$ Int × Value):(List.range es.size).filterMap (λj=>(es[j]?).map (·.2))=es.toList.map (·.2):=by
 apply ph;intro i;have e:(List.range es.size).filterMap (λj=>(es[j]?).map (·.2))=(List.range es.size).map (λj=>((es[j]?).map (·.2)).getD rc):=by
  refine aL λj b=>?_
  simp_all
 rw[e,Ca,Ca];by_cases a:i<es.size<;>simp[a]
def ņ{a}{ps:gV}(b:ps.Perm$ List.range es.size)(h:vn (λi v=>((ps[i]?).bind λj=>es[j]?).map (·.2)=SY v) a es.size):a.toList.Perm (es.toList.map (·.2)):=by
 have k:ps.length=es.size:=by rw[b.length_eq,qh]
 have e:a.toList=ps.filterMap (λj=>(es[j]?).map (·.2)):=by
  have d:ps.filterMap (λj=>(es[j]?).map (·.2))=ps.map (λj=>((es[j]?).map (·.2)).getD rc):=by
   refine aL λj g=>?_;have:=Wi.mp$ b.mem_iff.mp g
   simp_all
  rw[d];apply ph;intro i;rw[Pd,Ca];cases c:a[i]? with
  |none=>
   have:es.size<=i:=by have:=bn.mp c;rw[h.1]at this;exact this
   simp_all
  |some v=>
   have this:((ps[i]?).bind λj=>es[j]?).map (·.2)=SY v:=h.2 i v c;cases f:ps[i]? with
   |none=>simp_all
   |some j=>rw[f]at this;simp only[Zk]at this;rw[jf,this];rfl
 rw[e,<-ĸ];exact b.filterMap _
def é(hh:A.handled=ń)(hA:rp s.heap a es ep t)(J:t.fits es.size=U2)(hk:Dj (bT w) t)(hz:es.size<scanBound)
  (Df:∀ h m r (d:Array Value),(∀ b o,s.heap.get? b=SY o->h.get? b=SY o)->s.heap.objs.size<=h.objs.size->d.toList.Perm (es.toList.map (·.2))->R d.toList { s with heap:=h,toks:=m,drawn:=r }) :
  wpAny (model prog w) A (collect$ Xb a) R E s:=by
 have hn:es.size<=sizeLine:=dg hz;have P:a<s.heap.objs.size:=let ⟨_,g,_⟩:=hA;xa g;let S:Addr:=s.heap.objs.size;let ϊ:Fo->Shared->Prop:=λq u=>∃ (h:Heap) (m:Nat) (r:To) (d:Array Value) (c:Nat),q=.ok (.ret$ Xb S)/\u={ s with heap:=h,toks:=m,drawn:=r }/\(∀ b o,s.heap.get? b=SY o->h.get? b=SY o)/\
  h.get? S=SY { cls:=Wh "list",dict:=ń,data:=Ϧ d c,slots:=#[] }/\d.toList.Perm (es.toList.map (·.2))
 let s1:Shared:={ s with heap:=s.heap.push { cls:=Wh "list",data:=Ϧ ([]:dN).toArray } }
 have W:s1.heap.get? S=SY { cls:=Wh "list",data:=Ϧ #[] }:=Ea _ rfl;have B:rp s1.heap a es ep t:=hA.keep λo e=>da _ e;have L:s1.heap.objs.size=S+1:=Oc ..;have ni:wpAny (model prog w) A.in1 (EJ (Xb S) (Xb a)$ Xb S) (λDf u=>match Df with | .done f=>ϊ (.ok f) u | .again c'=>c'.quiet=U2/\codeAny (model prog w) A c' ϊ u) (λe u=>ϊ (.error e) u) s1:=by
  have X:s1.TypeIs (Xb a) "set":=let ⟨o,g,x,_⟩:=B;⟨o,g,x.1⟩;refine ba$ dj (T:="set") X ?_;have ns:jl (Xb S) (Xb a)=ŝ:=by simp only[jl,Ie];exact Jd P
  have n1:(Wh "set" == Wh "list")=ŝ:=by decide
  simp only[ns];refine ba$ f9 B J hz (λhc=>?_) (λhc ps r K=>?_)
  ·have V:Zp (s1.heap.push$ nz a (pc 0) es.size ep) s1.heap.objs.size a (pc 0) 0 es.size ep:=⟨_,Ea _ rfl,rfl,rfl⟩
   have j:rp (s1.heap.push$ nz a (pc 0) es.size ep) a es ep t:=B.keep λo e=>da _ e;have C:Rn { s1 with heap:=s1.heap.push (nz a (pc 0) es.size ep) } (Xb a) "set":=let ⟨o,g,x,_⟩:=j;⟨o,g,x.1⟩;have N:a≠s1.heap.objs.size:=by rw[L];exact za$ Rb P
   have M:S ∉ [s1.heap.objs.size,a]:=by rw[L];simp only[Ba,oe,dm,not_or];exact⟨za$ Qb _,Jd P⟩
   have ό:∀ (l:List$ Int × Value),l.length=es.size->l.Perm es.toList->∀ h m d c,(∀ b o,b≠S->b≠s1.heap.objs.size->(s1.heap.push$ nz a (pc 0) es.size ep).get? b=SY o->h.get? b=SY o)->h.get? S=SY { cls:=Wh "list",dict:=ń,data:=Ϧ d c,slots:=#[] }->
     vn (λi v=>(l[i]?).map (·.2)=SY v) d es.size->ϊ _ { s1 with heap:=h,toks:=m }:=λl H K h m d c k g D=>⟨h,m,s.drawn,d,c,rfl,rfl,λb o e=>by
      have Q:=xa e;exact k b o (za Q) (by rw[L];exact za$ Rb Q)$ da _$ da _ e,g,by rw[FZ H D];exact K.map _⟩
   cases hb:bT w with
   |true=>
    have H:(Io (w.params.setOrder a ep) es).toList.length=es.size:=by rw[(fU _ _).length_eq,gc]
    exact mO (nX (f:=λF=>0) (ord:=(Io (w.params.setOrder a ep) es).toList) hh J N H λu i G F A' E' Q' q'=>B0 hb G J (by rw[<-Pd];exact q')) hn M C ⟨V,j⟩ (da _ W)$ ό _ H$ fU _ _
   |false=>
    have K:(!t.plain && decide (es.size > 1))=ŝ:=by rw[hb]at hc;simpa using hc
    have H:es.toList.length=es.size:=gc;exact mO (nX (f:=fB t.place) (ord:=es.toList) hh J N H λu i G hi A' E' Q' q'=>S4 hb hk K hi G J (by rw[<-Pd];exact q')) hn M C ⟨V,j⟩ (da _ W)$ ό _ H$ .refl _
  ·let I:Heap:=(s1.heap.push$ WM ps).push$ nz a (Xb s1.heap.objs.size) es.size ep;have k2:∀ b o,s1.heap.get? b=SY o->I.get? b=SY o:=λb o e=>da _$ da _ e;have z2:(s1.heap.push$ WM ps).objs.size=s1.heap.objs.size+1:=Oc ..;have V:Zp I (s1.heap.objs.size+1) a (Xb s1.heap.objs.size) 0 es.size ep:=⟨_,by rw[<-z2];exact Ea _ rfl,rfl,rfl⟩
   have j:rp I a es ep t:=B.keep λo e=>k2 a o e;have ϋ:aA I s1.heap.objs.size ps:=⟨_,_,da _$ Ea _ rfl,rfl⟩
   have C:Rn { s1 with heap:=I,drawn:=r } (Xb a) "set":=let ⟨o,g,x,_⟩:=j;⟨o,g,x.1⟩;refine mO (s:={ s1 with heap:=I,drawn:=r }) (lZ (p:=s1.heap.objs.size) hh J (by rw[L];exact za$ Rb$ Rb P) (za$ Qb _) K) hn (by rw[L];simp only[Ba,oe,dm,not_or];exact⟨za$ Rb$ Qb _,Jd P,za$ Qb _⟩) C ⟨⟨V,j⟩,ϋ⟩ (k2 _ _ W) λh m d c k g D=>⟨h,m,r,d,c,rfl,rfl,λb o e=>?_,g,ņ K D⟩
   have Q:=xa e;exact k b o (za Q) (by rw[L];exact za$ Rb$ Rb Q)$ k2 b o$ da _ e
 have n:∀ {h:Heap} {m c:Nat} {r:To} {d:Array Value},(∀ b o,s.heap.get? b=SY o->h.get? b=SY o)->h.get? S=SY { cls:=Wh "list",dict:=ń,data:=Ϧ d c,slots:=#[] }->d.toList.Perm (es.toList.map (·.2))->R d.toList { s with heap:=h,toks:=m,drawn:=r }:=λO g D=>Df _ _ _ _ O (jd$ xa g) D;refine ba$ Lq$ Jc Kx$ ba$ Dc$ ga ⟨Sd Mn _,Jc WF$ nc ni (λf u x=>?_) (λe u x=>by obtain⟨_,_,_,_,_,z,_⟩:=x;cases z)⟩;cases f with
 |done f=>
  apply b_;intro z_;obtain⟨h,m,r,d,c,e,rfl,O,g,D⟩:=x;cases e;apply z_;exact ba$ Hm g$ ga$ n O g D
 |again c1=>
  refine⟨x.1,qf x.2 λq s2 y=>?_⟩;obtain⟨h,m,r,d,c,rfl,rfl,O,g,D⟩:=y;exact ba$ Hm g$ ga$ n O g D
end
end Lake
namespace Lake
open Spec L2
set_option tactic.hygienic true in
def cU d:(Fm d).Nodup:=by
 have h:∀ (l c:em),c.Nodup->(l.foldl KA c).Nodup:=by
  intro l;induction l with
  |nil=>simp_all
  |cons x l f=>
   intro c h;refine f _ ?_;unfold KA;split
   ·exact h
   ·rename_i j
    rw[Yk];refine⟨h,by simp,λa g b i=>?_⟩;intro e
    simp_all
 exact h d [] gz
theorem UT{f:Type}[DecidableEq f]:∀ {a b:List f},a.Nodup->(∀ x∈a,x∈b)->b.length<=a.length->a.Perm b
 |[],b,_,_,h=>by
  simp_all
 |x::a,b,c,d,i=>by
  rw[Cd]at c;exact((UT c.2 (λy g=>(List.mem_erase_of_ne$ show y≠x from λe=>c.1 ⋯).mpr$ d y$ ja _ g)$ by simp_all).cons x).trans (List.perm_cons_erase$ d x va).symm
theorem IW:∀ {a:Aa} {w:Ta} {l:List$ Int × Value},QC (Mf a w) l->∃ d,xh (l.map (·.2)) d/\d.length=l.length/\∀ k,k∈d ↔ ∃ e∈l,(Mf a w).is k e.2=U2
 |a,w,[],_=>⟨[],.nil,rfl,λk=>by simp⟩
 |a,w,e::l,h=>by
  obtain⟨d,i,j,m⟩:=IW (λx b=>h x$ .tail _ b);obtain⟨⟨k,f,_⟩,_⟩:=h e (.head _);have c:=f;obtain⟨t,g⟩:=xt f;refine⟨k::d,by rw[Va,g];exact .cons k t i,by simp[j],λn=>?_⟩;rw[Ba,m n];constructor
  ·rintro (rfl|⟨x,b,q⟩)
   ·exact⟨e,.head _,c⟩
   ·exact⟨x,.tail _ b,q⟩
  ·rintro ⟨x,b,q⟩;rcases Ba.mp b with rfl|b
   ·exact ϑ$ (Mf a w).inj _ _ _ q c
   ·exact ϕ ⟨x,b,q⟩
def ů(p:c.Perm l):∀ {b},xh l b->∃ a,xh c a/\a.Perm b:=by
 induction p with
 |nil=>intro b h;exact⟨b,h,.refl _⟩
 |cons x p f=>
  intro b h;cases h with
  |cons n t h=>obtain⟨a,d,e⟩:=f h;exact⟨n::a,.cons n t d,e.cons n⟩
 |swap x y l=>
  intro b h;cases h with
  |cons n t h=>
   cases h with
   |cons m u h=>exact⟨m::n::_,.cons m u$ .cons n t h,.swap _ _ _⟩
 |trans j k g i=>grind
def wH(P:Aa)(w:Ta)(b:em)(a:Addr):Heap->Prop:=λh=>zq (Mf P w) (bT w) h a (λk=>(Fm b).any (·== k)) (Fm b).length
def θ:∀ b c:Heap,wH P w d a b->(∀ u,b.get? a=SY u->c.get? a=SY u)->wH P w d a c:=λb c x k=>QN x k
def yps(X:Cx):h8->Hp->VK->Prop:=λxs H Q=>∃ (p:Addr) (ns:em),xs=[ϙ p]/\Me X.K H p (ns.map Ϥ)/\ns.length<64/\∀ l,H l=ń->Q (ϙ l) (Fb H l$ ϫ$ wH X.prog X.w ns l)
def F1(j:X.Lb=U2):zo X (Wh "set")$ yps X:=by
 rintro h s v H xs x Q I r ⟨p,f,rfl,m,l,q⟩;apply b_;intro z_;obtain⟨u,rfl,n⟩:=yr r;cases n;obtain⟨a,i,pl,t⟩:=I.list m;have d:a.length=f.length:=by rw[<-i.length,Ha]
 apply z_;refine l7 (I.ok.hd j) pl.isList (VJ i) (by rw[Ua,d];exact AW$ zb (jd l) ⋯) λh' w c k=>?_;rw[show a.toArray.size=f.length by rw[Ua,d],QJ]at c;refine⟨ϙ s.heap.objs.size,_,I.laid (λb o e=>k b o (xa e) e) (wa _) ?_,rfl,q _$ I.Kc.fresh$ wa _⟩;exact⟨c,let ⟨o,_,_,_,g,_⟩:=c;⟨o,g⟩,θ⟩
def Q5(I:gb X a b H s) d':gb X a b H { s with drawn:=d' }:=⟨I.ok,I.os,I.bare,I.base,I.loc,I.cell,I.free,I.Gg,I.pin,I.Kc,I.len⟩
def i0(X:Cx):h8->Hp->VK->Prop:=λxs H Q=>∃ (a:Addr) (ns:em),xs=[ϙ a]/\H a=SY (ϫ$ wH X.prog X.w ns a)/\ns.length<64/\(Fm ns).length<=ns.length/\∀ l,H l=ń->Q (ϙ l) (Fb H l$ ϯ$ (pp$ Fm ns).map Ϥ)
def V5(ϋ:X.Lb=U2):zo X (Ϟ "sorted")$ i0 X:=by
 intro D s σ H xs us Q I r h;apply b_;intro z_;obtain⟨a,i,rfl,ό,T,ϊ,q⟩:=h;obtain⟨u,rfl,rfl⟩:=yr r;obtain⟨⟨o,l,ep,t,K,L,M,N,O,y,P,R,S⟩,_,_⟩:=I.Kc a _ ό;obtain⟨is,i1,i2,i3⟩:=IW N;have hp:is.Perm$ Fm i:=(UT (cU i) (λx hx=>(i3 x).mpr$ (O x).mp$ Hc.mpr ⟨x,hx,by simp⟩)$ by rw[i2,gc,R];exact wa _).symm;have j:l.size<64:=by lia
 apply z_;have hn:l.size<=sizeLine:=dg y;refine Nn kind_sorted plain_sorted entry_sorted (args_sorted1 _)$ ba (m:=checkCount "sorted" 1 1 _)$ ga$ ba (é (A:=X.A.in1) (I.ok.hd ϋ) ⟨o,K,L,M⟩ P S y λh' tk d' d B k c=>?_);obtain⟨a0,W,n⟩:=ů c i1;have z:d.toList.length=l.size:=by rw[c.length_eq,Ha,gc]
 refine ba$ Gs ?_ (by rw[z];exact hn);have f:(h'.push$ Km "list" d.toList.toArray 0).get? h'.objs.size=SY (Km "list" d.toList.toArray 0):=Ea _ rfl;refine ba$ Yb$ Mc VO ⟨_,f,rfl⟩ xJ (WO f W (by rw[z];exact j) λg p E F G=>⟨_,rfl,(ga ⟨_,rfl,?_⟩)⟩)$ XO _;have J:p=pp (Fm i):=EE (F.trans$ n.trans$ hp.trans (Uq _).symm) G$ UC _;subst J;obtain⟨e,he⟩:=XX (out:=g) f;exact⟨ϙ h'.objs.size,_,(Q5 I d').laid (t':=tk) (λb o v=>by
  have C:b<h'.objs.size:=xa$ B b o v;rw[YO (za C) (by rw[GA];exact Rb C)];exact da _$ B b o v) k (show Rk X.prog X.w _ _ _ (ϯ$ (pp$ Fm i).map Ϥ)from⟨by rw[Ha,((Uq$ Fm i).length_eq)];exact zb (show (Fm i).length<=1000 by lia) ⋯,g.toList,e,xD E,by rw[Oi];exact he⟩),rfl,q _$ I.Kc.fresh k⟩
def qE(x:D):M D:=λa=>match (wf a x).bind yes with
 |some ns=>if ns.length<64 then dA ((pp$ Fm ns).map Z) a else ϗ
 |none=>ϗ
def tZ a:(Fm a).length<=a.length:=by rw[<-QJ];exact HA _ _
theorem AT{b:b'}{H:Hp}:∀ (a:em),Db T b H (a.map Z) (a.map Ϥ)
 |[]=>Db.nil
 |i::a=>Db.cons (by rw[Ja]) (AT a)
def O5(hK:T.K=X.K)(y:X.Lb=U2)(O:Gl X "sorted")(P:X.mg "sorted" = ń)(q:Gl X "set")(r:X.mg "set" = ń)(N:FE T X e f)
  (A:(qa [e] X.env=(ŝ,Mb e X.env)::qa [] X.env)⁻¹) (u:((Zb b$ qa [] X.env).any (·.1)=ŝ)⁻¹)
  (i:(qa [ϟ (ϛ "set" w) [e] [] b] X.env=(ŝ,Mb (ϟ (ϛ "set" w) [e] [] b) X.env)::qa [] X.env)⁻¹) (g:((Zb k$ qa [] X.env).any (·.1)=ŝ)⁻¹) :
  FE T X (ϟ (ϛ "sorted" p) [ϟ (ϛ "set" w) [e] [] b] [] k)$ be qE f:=by
 intro j s V H Q I h;refine JF (V5 y) O P Lake.DP (jq (AM (F1 y) q r rfl (jq N ou A) ⋯ ⋯ A u) ou i) ⋯ ⋯ i g j s V H Q I ?_;obtain⟨W,ρ,ϊ,L,S,R⟩:=h;refine⟨W,ρ,ϊ,L,S,R.bind λd x ϋ v H1 D e1 B ό c=>?_⟩;unfold qE at c;cases n:(wf x d).bind yes with
 |none=>rw[n]at c;exact c.elim
 |some ns=>
  rw[n]at c;dsimp only at c;by_cases m:ns.length<64
  ·rw[na m]at c;obtain⟨ys,C,E⟩:=rf.mp n;obtain⟨a,vs,rfl,G,J⟩:=B.ls ό C;have F:=fF J E;subst F;exact⟨a,ns,rfl,Me.of G,m,λl z=>⟨l,ns,rfl,ng,m,tZ ns,λl2 t=>(oC (Vb.mono (Zj (o:=ϫ _) z) c) (B.fresh z) (AT _) t)⟩⟩
  ·rw[ya m]at c;exact c.elim
noncomputable def yf8(x:D)(xs:i'):M D:=λa=>match x,xs with
 | Y n,[]=>(match a[n]? with
  |some (Ϗ _)=>U Ϛ (a.set n$ Ϗ [])
  |_=>ϗ)
 |_,_=>ϗ
def cC(c:i'):M D:=λb=>match c with
 |[x]=>(match Of b x with
  |some a=>U (Y b.length) (b++[Ϗ a])
  |none=>ϗ)
 |_=>ϗ
def j4:Hr T FM cC:=by
 intro E m H i ds k Q r p h
 match ds with
 |[]=>cases h
 |[x]=>
  unfold cC at h;dsimp only at h;cases b:Of i x with
  |none=>rw[b]at h;exact h.elim
  |some f=>
   rw[b]at h;obtain⟨v,j,rfl,g,rfl⟩:=p;obtain⟨a,ws,rfl,d,e⟩:=Wy r g b;exact⟨a,ws,rfl,d,λl c=>(h _ _ _ (Dw c) (r.push c ⟨ws,ng,Paired.Mr e λl l z=>⟨z.1,Ja.mono (Dw c) _ _ z.2⟩⟩)$ yD r)⟩
 |_::_::_=>trivial
section
variable{pins:List$ Addr × Obj}{σ:St}{H:Hp}{s:Shared}
def _root_.L2.gb.freeze(I:gb X pins σ H s)(g:H a=SY (ϝ d))(e:s.heap.get? a=SY i):gb X pins σ (Fb H a$ ϧ i$ ϝ d) s:=by
 have f:∀ b u,H b=SY u->u≠ ϝ d->b≠a:=λb u q n z=>by rw[z,g]at q;exact n (Ub q).symm
 refine I.step (ch:=[]) (λk z=>nomatch z) (λb o k k k q k=>q) (λb o k k k q k=>⟨o.slots,q⟩) (λb o k q n=>?_) (λb o k q=>⟨o,q⟩)
  (λb xs q=>by rw[ee$ f b _ q (λz=>by cases z)];exact q) (λb u xs q=>by rw[ee$ f b _ q (λz=>by cases z)];exact q) (λb ps q=>⟨#[],by rw[ee$ f b _ q (λz=>by cases z),q];simp⟩) (λm j=>j) (λb u q=>?_) I.bare
 ·rw[ee (λz=>by rw[z,g]at n;cases n)];exact n
 ·by_cases h:b=a
  ·subst h;rw[ng]at q;cases q;exact⟨e,I.Kc b _ g⟩
  ·rw[ee h]at q;exact(I.Kc b u q).Yj (λc v k z=>z) (λc z=>by rw[ee$ f c _ z (λy=>by cases y)];exact z) λc xs z=>by rw[ee$ f c _ z (λy=>by cases y)];exact z
def NB(I:gb X pins σ H s)(k:H a=SY (ϧ g$ ϝ b)):∃ f d c,KV b f/\g.data=.dict d c/\s.heap.DictAt (dt X.prog X.w) a f c:=by
 obtain⟨e,_,_,f,h,o,d,c,j,ex,i,r⟩:=I.Kc a _ k;rw[e]at j;cases j;exact⟨f,d,c,h,i,g,d,e,ex,i,r⟩
end
noncomputable def Itm(d:Addr)(b:Obj)(a:List$ Vc × V):It:=
 ⟨λi H=>H d=SY (ϧ b$ ϝ a)/\∃ x,a[i]?=SY x,λi H v c=>∃ p k x,H p=ń/\v=ϙ p/\a[i]?=SY (k,x)/\c=Fb H p (.nb [kV k,x]),λi H=>H d=SY (ϧ b$ ϝ a)/\i=a.length⟩
theorem HL{d:Type}:∀ {c:List$ d × V} {g:List$ d × Value} (r:KV c g) (i:Nat) {k:d} {x:V},c[i]?=SY (k,x)->∃ u,g[i]?=SY (k,u)/\yd x u
 |_,_,Ϣ,i,_,_,h=>by simp at h
 |_,_,Ϡ (b:=q) a b,0,k,x,h=>by
  simp at h;obtain⟨e,f⟩:=a;rw[h]at e f;exact⟨q.2,by simp[List.getElem?_cons_zero];exact DX e.symm rfl,f⟩
 |_,_,Ϡ a b,i+1,k,x,h=>by
  exact HL b i h
def WQ(h:(dt P w).is k v=U2):yd (kV k) v:=by
 rcases Ju h with⟨i,t,rfl,rfl⟩|⟨x,t,rfl,rfl⟩<;>exact⟨t,rfl⟩
def W7{P:Aa}{w:Ta}{K:ϖ}{j:List Na}{kk:Nat}{O:Vd}(d f:Addr)(ό:Obj)(t:List$ Vc × V)(a0:d≠f){ϊ:Array eG}{R:Nat}(n:ό.data=.dict ϊ R) :
  jo P w K (ϰ j kk O) (Itm d ό t) [f] f (λi h=>∃ ok e,IsItemIter h f d i t.length R ok e) where
 mem:=by simp
 obj:=λi h st b c=>by
  obtain⟨ok,e,s1⟩:=st
  simp_all
 keep:=λi h h' st k=>by
  obtain⟨ok,e,s1⟩:=st;exact⟨ok,e,k f ⋯ _ s1⟩
 item:=by
  intro X F N D S i v s σ H E I y st J;subst F N D;obtain⟨G,⟨k,x⟩,T⟩:=J;obtain⟨vs,C,B,a,g,M⟩:=NB I G;rw[n]at g;cases g;obtain⟨u,hu,ru⟩:=HL a i T;obtain⟨ok,e,s1⟩:=st;rw[a.length]at s1;refine wpAny_pyNext_items_item s1 M hu λr h' m ho hT a1 hk=>?_;have l:=Jd$ xa s1;refine⟨Xb s.heap.objs.size,rfl,wpAny_letOwnedTupleGo_items ho λh2 L p=>⟨ϙ s.heap.objs.size,Fb H s.heap.objs.size _,I.Ot (λb o c q=>p.extBut b o (λz=>c (by simp[z]))$ hk b o (λz=>c (by simp[z])) q) y (wa _) ?_,rfl,⟨_,k,x,(I.Kc.fresh$ wa _),rfl,T,rfl⟩,⟨r,u,by rw[a.length];exact L⟩,λb c=>?_⟩⟩
  ·exact⟨(show 2<=sizeLine by decide),[r,u],Ϡ (WQ m)$ Ϡ ru Ϣ,⟨_,(p.extBut _ _ l hT),rfl,_,rfl⟩⟩
  ·obtain rfl:b=f:=by simpa using c
   rw[ee (λz=>l z.symm)];exact(y b c).1
 done:=by
  intro X F N D S i v s σ H E I y st J;subst F N D;obtain⟨G,hi⟩:=J;obtain⟨vs,C,B,a,g,M⟩:=NB I G;rw[n]at g;cases g;obtain⟨ok,e,s1⟩:=st;rw[a.length]at s1 hi;exact wpAny_pyNext_items_end (I.ok.hd S) s1 M ⋯ λh' ϋ=>⟨rfl,I.iu (λb o c q=>ϋ b o (λz=>c (by simp[z])) q) y⟩
 self:=λA i s Q E st h=>by
  obtain⟨ok,e,s1⟩:=st;exact W.kcp_self s1 h
def mq(l a:Addr):Heap->Prop:=λh=>h.IsItemsView l a
def j7:V->h8->Hp->VK->Prop:=λx xs H Q=>∃ a b,x=ϙ a/\xs=[]/\Rd H a (ϝ b)/\∀ l,H l=ń->Q (ϙ l) (Fb H l$ ϫ$ mq l a)
def pB(h:H a=SY o):Fb H a o=H:=by
 funext b;unfold Fb;split;all_goals simp_all
def uI(h:Heap) o(a:o.data≠.freed):(h.push o).get? h.objs.size=SY o:=by
 obtain⟨c,d,x,b⟩:=o;unfold Heap.get?;rw[show (h.push ⟨c,d,x,b⟩).objs[h.objs.size]?=SY ⟨c,d,x,b⟩ from Array.getElem?_push_size];cases x<;>first|rfl|cases a rfl
section
variable{elts:List Na}{kk:Nat}{p0:Vd}
def sU:Ry X "dict.items" j7:=by
 rintro f s st H x w v u Q I m l ⟨a,i,rfl,rfl,g,q⟩;cases m;cases l;obtain⟨z,h,n,j,d⟩:=mu I.Kc g;refine Wu rh d.typeIs PySem.F.entry_dict_items (PySem.F.args_dict_items_1 _) (meets_dict_items _ a h) ⟨⟨n,d⟩,⟨ϙ s.heap.objs.size,_,I.laid (λb o e=>da _ e) (wa _) ?_,rfl,q _$ I.Kc.fresh$ wa _⟩⟩;refine⟨⟨_,uI _ _ (λz=>by cases z),rfl,rfl⟩,⟨_,uI _ _ (λz=>by cases z)⟩,λr t p k=>?_⟩;obtain⟨o,e,c⟩:=p;exact⟨o,k o e,c⟩
def ő(e:TE):TI:=λf H R=>e f H λv c=>∃ l a b,v=ϙ l/\c l=SY (ϫ$ mq l a)/\Rd c a (ϝ b)/\∀ d,c a=SY (ϝ b)\/c a=SY (ϧ d$ ϝ b)->R (Itm a d b) (Fb c a$ ϧ d$ ϝ b)
def LV(B:PE X d r):PI X (ϰ elts kk p0) d$ ő r:=by
 intro g s t H R I h;refine pd (B g s t H _ I h) λv s1 ſ=>?_;obtain⟨x,H1,k,E,D⟩:=ſ;obtain⟨l,a,i,rfl,C,c,q⟩:=D;cases E;obtain⟨f,n,m⟩:∃ f,(H1 a=SY _\/H1 a=SY (ϧ f _))/\gb X g t (Fb H1 a$ ϧ f _) s1:=by
  rcases c with c|⟨f,c⟩
  ·obtain⟨_,_,F,j,o,y,w,e,_⟩:=k.Kc a _ c;exact⟨o,ϑ c,k.freeze c e⟩
  ·exact⟨f,ϕ c,by rw[pB c];exact k⟩
 obtain⟨F,y,w,j,u,p⟩:=NB m ng;refine wpAny_pyIter_items ((k.Kc l _ C).1) p ⟨s1.heap.objs.size,[s1.heap.objs.size],_,Itm a f i,_,rfl,m.kept (λb o e=>da _ e),W7 a _ f i (za p.lt_size) u,⟨rc,rc,by rw[j.length];exact uI _ _ (λz=>by cases z)⟩,λb A=>?_,q f n⟩;obtain rfl:b=s1.heap.objs.size:=by simpa using A
 exact m.Yn (wa _)$ m.Kc.fresh$ wa _
noncomputable def xr(a:List$ Vc × D):NX:=λi b=>match a[i]? with
 |some p=>SY (SY$ ϒ [sA p.1,p.2])
 |none=>if i=a.length then SY ń else ń
def zH(d:D):M NX:=λa=>match d with
 | Ϭ ks xs=>if ks.length=xs.length then U (xr$ ks.zip xs) a else ϗ
 |_=>ϗ
def GB(f:Ev->M D):Ev->M NX:=λa=>Ic (f a) zH
def zL k:Ja T a H (sA k)$ kV k:=by
 cases k<;>(unfold sA kV;rw[Ja])
def PR(d:H a=SY (ϝ c)):Tc μ H μ$ Fb H a$ ϧ od$ ϝ c:=by
 have f:∀ b u,H b=SY u->u≠ ϝ c->b≠a:=λb u q n z=>by rw[z,d]at q;exact n (Ub q).symm
 refine⟨⟨[],by simp⟩,λp xs h=>by rw[ee$ f p _ h (λz=>by cases z)];exact h,λp o u h=>by rw[ee$ f p _ h (λz=>by cases z)];exact h,λp o h n=>⟨?_,n⟩⟩;by_cases e:p=a
 ·subst e;rw[d]at h;cases h;exact⟨_,ng,ϕ$ ϑ ⟨od,c,rfl,rfl⟩⟩
 ·exact⟨o,by rw[ee e];exact h,ϑ rfl⟩
theorem qG{c e:Type}{R:c->e->Prop}:∀ {xs:List c} {d:List e},Paired R xs d->∀ (i:Nat) {x:c},xs[i]?=SY x->∃ y,d[i]?=SY y/\R x y:=by
 intro _ _ h;induction h with
 |nil=>intro i _ h;simp at h
 |cons a _ k=>
  intro i x h;cases i with
  |zero=>clear k;simp_all
  |succ i=>exact k i h
def EL(h:FE T X e f)(m:(Ad e "items" X.env (Mb e X.env)=Mb e X.env)⁻¹)(o:((j.endLine == k.line)=U2)⁻¹) :
  Zq T X (ϰ elts kk p0) (ϟ (Ϝ e "items" j) [] [] k)$ GB f:=by
 intro G s st H R I hw;refine LV (MQ pf rh Pn sU h m o) G s st H R I ?_;obtain⟨μ,ρ,σ,hE,hr,hp⟩:=hw;refine⟨μ,ρ,σ,hE,hr,hp.bind λd J c v A b e1 r1 q1 w=>?_⟩;unfold zH at w;cases d with
 |Pa ks xs=>
  dsimp only at w;by_cases ϋ:ks.length=xs.length
  ·rw[na ϋ]at w;obtain⟨a,g,rfl,hn,n,O,Q⟩:=q1;refine⟨⟨a,g,rfl,n⟩,a,g,rfl,rfl,n,λl t=>?_⟩;have S:a≠l:=by rcases n with n|⟨_,n⟩<;>exact zev n t
   have N:Rd (Fb A l$ ϫ$ mq l a) a$ ϝ g:=by unfold Rd;rw[ee S];exact n
   refine⟨l,a,g,rfl,ng,N,λό B=>?_⟩;have x1:Tc c A c$ Fb A l$ ϫ$ mq l a:=Zj t;have x:gd T c (Fb A l$ ϫ$ mq l a) J:=r1.fresh t;obtain⟨x2,V⟩:Tc c A c _/\gd T c _ J:=by
    rcases B with B|B
    ·have y:=PR (μ:=c) (od:=ό) B;exact⟨x1.trans y,x.keep y (λb K=>ee (λz=>hn (by rw[<-z];exact K)))$ x.tb.out (λb K=>ee K)$ ϕ ⟨_,B⟩⟩
    ·rw[pB B];exact⟨x1,x⟩
   have h3:Fb (Fb A l$ ϫ$ mq l a) a _ a=SY (ϧ ό$ ϝ g):=ng;refine Vb.here (Vb.mono x2 w) V λa0 H2 a1 i ex r2=>?_;have W:=ex.ud _ _ _ h3;have E:=gi.mono (x2.trans ex)$ lI O Q;unfold xr;cases ei:(ks.zip xs)[i]? with
   |none=>
    by_cases L:i=(ks.zip xs).length
    ·rw[na L];exact⟨W,by rw[L];exact Paired.length E⟩
    ·rw[ya L];trivial
   |some p=>
    obtain⟨q,ϊ,P,rx⟩:=qG E i ei;refine⟨⟨W,q,ϊ⟩,λz H' y=>?_⟩;obtain⟨r,k',x',u,rfl,C,rfl⟩:=y;rw[ϊ]at C;cases C;refine⟨Zj u,r2.fresh u,?_⟩;rw[Ja,P];exact⟨r,_,rfl,ng,Db.cons (zL _)$ Db.cons (Ja.mono (Zj u) _ _ rx) Db.nil⟩
  ·rw[ya ϋ]at w;exact w.elim
 |_=>exact w.elim
end
def Lg(nx:NX)(n:Nat)(e:D->Ev->Option Ev)(fi:Ev->M Bool)(b:Ev->M D):Nat->Nat->Ev->M Unit
 |0,_,_=>Ib
 |k+1,i,g=>λf=>match nx i f with
  |none=>ϗ
  |some ń=>U () f
  |some (SY d)=>match e d g with
   |none=>ϗ
   |some a=>Ic (Ms$ fi a) (λc=>if c=U2 then Ic (Ms$ b a) λy=>Ic (Pg (Y n) [y]) λh=>Lg nx n e fi b k (i+1) a else Lg nx n e fi b k (i+1) a) f
def VU(d:D->Ev->Option Ev)(c:Ev->M Bool)(b:Ev->M D)(e:Ev)(nx:NX):M D:=λa=>
 Ic (Lg nx a.length d c b 1001 0 e) (λf=>ret$ Y a.length)$ a++[ώ []]
def Ei(a:Ev->M NX)(e:gV)(f:D->Ev->Option Ev)(d:Ev->M Bool)(c:Ev->M D):Ev->M D:=λb=>Ic (a b)$ VU f d c$ yC e b
def oX {st}
  (hc:X.Lb=U2) (L:ak X x M' ix a)
  (d6:∀ cl C O G ex,FG T (Lo X (x::z0::M') a cl C O G ex) a9 tg)
  (d3:∀ cl C O G ex,Tw T (Lo X (x::z0::M') a cl C O G ex) b2 fi)
  (c6:∀ cl C O G ex,FE T (Lo X (x::z0::M') a cl C O G ex) b1 H)
  (I3:gb X b6 st H3 ϊ) (c7:∀ b∈fp,Bl X b6 H3 b/\b<ϊ.heap.objs.size) (d5:I.Ns ϊ.heap.objs.size m) (kp:∀ b o,ϊ.heap.get? b=SY o->I.get? b=SY o)
  (TT:jo X.prog X.w X.K a9 J fp it tn) (b5:tn 0 I) (so:Sz T P H3 nx J) (hE:Gh T P H3 ρ st) (r3:gd T P H3 c3) (hn:P[n]?=SY D0)
  (p3:Vb T E (Ja T) P H3 (Ic (Lg nx n tg fi H 1001 0$ yC ix ρ) (λr=>ret$ Y n) c3) Q)
  (Df:∀ s6 q m6,s6.heap.Ns ϊ.heap.objs.size m6->q ϊ.heap.objs.size=ń->Un (Oj X.stack) fp H3 q ϊ.heap s6.heap->s6.os=ϊ.os->Fi X.prog X.w q s6.heap->vh s6.gens->Q (ϙ D0) q->RR (.ok .next) s6) :
  codeAny (model X.prog X.w) X.A (.compStart (ϳ b1 [⟨a9,a4,b2,0⟩] a b9) 0 (Xb it) (Xb D0)$ compEnvC a (Ui X.env a.names []) ϊ.heap.objs.size X.env)
   RR { ϊ with heap:=I,toks:=t' }:=by
 have I4:=rZ (z0:=z0) (t':=t') I3 L c7 d5 kp;let ϋ:Cx:=Lo X (x::z0::M') a (Ui X.env a.names []) ϊ.heap.objs.size ϊ H3 fp;have a8:∀ {q:Hp},(∀ b∈fp,q b=ń)->∀ b∈fp,Bl ϋ [] q b:=fun {q} hn b hb=>⟨hn b hb,(I4.ok.wF b hb).1,I4.ok.Ur b hb,ϑ hb,(I4.ok.wF b hb).2,λp hp=>absurd (show p∈([]:g')from hp) ⋯⟩
 have ek:codeAny (model X.prog X.w) X.A (.compLoop (ϳ b1 [⟨a9,a4,b2,0⟩] a b9) 0 (Xb it) (Xb D0) ϋ.env) RR { ϊ with heap:=I,toks:=t' }:=by
  refine codeAny_loop rfl (λk s'=>∃ i g q h t F,gb ϋ [] F q s'/\tn i s'.heap/\(∀ b∈fp,q b=ń)/\Tc P H3 g q/\Gh T g q t F/\gd T g q h/\
   Vb T E (Ja T) g q (Ic (Lg nx n tg fi H k i t) (λr=>ret$ Y n) h) Q) ?_ 1001 ⟨0,P,H3,c3,yC ix ρ,Pz ix st,I4,b5,λb hb=>(c7 b hb).1.1,Ϯ _ _,L3 ix hE,r3,p3⟩
  rintro k s' ⟨i,g,q,h,t,F,I',c9,c4,W,b8,r',p'⟩;show wpAny _ X.A ((compTurn (ϳ b1 [⟨a9,a4,b2,0⟩] a b9) 0 _ (Xb D0) ϋ.env).onRaise$ λx=>do Ch x ϋ.env;theTreesLotGoes x) _ _ s';refine wpAny_noted$ nc (E:=λr r=>False) ?_ (λr r z=>z) (λr r z=>z.elim);refine ba$ Zr ?_;cases k with
  |zero=>exact p'.elim
  |succ k=>
   have b4:=so g q h i W r';cases en:nx i h with
   |none=>
    have e1:Lg nx n tg fi H (k+1) i t h=ϗ:=by unfold Lg;simp only[en]
    rw[VG (m':=Ib) e1]at p';exact p'.elim
   |some od=>
    rw[en]at b4;cases od with
    |none=>
     have e1:Lg nx n tg fi H (k+1) i t h=U () h:=by unfold Lg;simp only[en]
     rw[VG (m':=ret ()) e1]at p';refine ba (pd (TT.done ϋ rfl rfl rfl hc i [] s' F q (λr r=>False) I' (a8 c4) c9 b4) λr s6 zZ=>?_);obtain⟨er,I6⟩:=zZ;subst er;refine ga ?_;apply b_;intro z_;obtain⟨m6,d4,_⟩:=I6.loc;apply z_;exact Df s6 q m6 d4 I6.free I6.base I6.os I6.Kc I6.bare$ Vb.here p' r' (by rw[Ja];exact⟨_,rfl,W.get hn⟩)
    |some d=>
     refine ba (pd (TT.item ϋ rfl rfl rfl hc i [] s' F q (λr r=>False) I' (a8 c4) c9 b4.1) λr s6 ſ=>?_);obtain⟨u,er,h6⟩:=ſ;subst er;refine ba (pd h6 λr s7 ſ=>?_);obtain⟨xv,H7,I7,r7,y7,c2,d2⟩:=ſ;obtain⟨b7,d7,hd⟩:=b4.2 xv H7 y7;replace p':=Vb.mono b7 p';replace b8:=b8.mono b7;replace W:=W.trans b7;replace r':=d7;cases et:tg d t with
     |none=>
      have e1:Lg nx n tg fi H (k+1) i t h=ϗ:=by unfold Lg;simp only[en,et]
      rw[VG (m':=Ib) e1]at p';exact p'.elim
     |some l=>
      have e1:Lg nx n tg fi H (k+1) i t h=Ic (Ms$ fi l) (λc=>if c=U2 then Ic (Ms$ H l) λy=>Ic (Pg (Y n) [y]) λr=>Lg nx n tg fi H k (i+1) l else Lg nx n tg fi H k (i+1) l) h:=by
       conv=>lhs;unfold Lg
       simp only[en,et]
      rw[VG e1,rO]at p';refine ba (pd (d6 _ _ _ _ _ _ s7 F H7 xv u (λN H8=>H8=H7/\Gh T g H7 l N) (I7.pinned (a8 d2)$ TT.obj _ _ c2) r7 ⟨g,h,t,d,l,b8,r',hd,et,λN a3=>⟨rfl,a3⟩⟩) λr s8 ſ=>?_);obtain⟨N,H8,I8,d1,a3⟩:=ſ;subst d1;refine ba (pd (d3 _ _ _ _ _ _ s8 N H8 (λc H9=>∃ ό a0,Tc g H8 ό H9/\gd T ό H9 a0/\Vb T E (Ja T) ό H9 (Ic (if c=U2 then Ic (Ms$ H l) λy=>Ic (Pg (Y n) [y]) λr=>Lg nx n tg fi H k (i+1) l else Lg nx n tg fi H k (i+1) l) (λr=>ret$ Y n) a0) Q) I8
       ⟨g,l,h,a3,r',p'.Rt λc a0 ό c' H9 r e9 r9 q9 p9=>by cases q9;exact⟨ό,a0,e9,r9,p9⟩⟩) λc s9 ⟨H9,I9,ό,a0,e9,r9,p9⟩=>?_)
      have a2:∀ {a7:Shared} {s:Hp} {f:b'} {j:Ga},gb ϋ ([]++lH fp s7.heap) N s a7->Tc g H8 f s->gd T f s j->Vb T E (Ja T) f s (Ic (Lg nx n tg fi H k (i+1) l) (λr=>ret$ Y n) j) Q->
        ∃ m,m<k+1/\∃ i g q h t F,gb ϋ [] F q a7/\tn i a7.heap/\(∀ b∈fp,q b=ń)/\Tc P H3 g q/\Gh T g q t F/\gd T g q h/\Vb T E (Ja T) g q (Ic (Lg nx n tg fi H m i t) (λr=>ret$ Y n) h) Q:=by
       intro a7 s f j a1 V a6 a5;refine⟨k,Qb _,i+1,f,s,j,l,N,a1.zj,TT.keep _ _ _ c2 (λb hb o e=>(a1.pin (b,o)$ Qa _$ Qa _$ DH hb e).1),λb hb=>?_,W.trans V,a3.mono V,a6,a5⟩;obtain⟨o,e,_⟩:=TT.obj _ _ c2 b hb;exact(a1.pin (b,o)$ Qa _$ Qa _$ DH hb e).2.1
      cases c with
      |false=>
       exact ga ⟨rfl,a2 I9 e9 r9 p9⟩
      |true=>
       rw[na rfl,rO]at p9;refine ba$ ba (pd (c6 _ _ _ _ _ _ s9 N H9 (λv S=>∃ y B R,Tc g H8 B S/\gd T B S R/\Ja T B S y v/\Vb T E (Ja T) B S (Ic (Pg (Y n) [y]) (λr=>Ic (Lg nx n tg fi H k (i+1) l) (λr=>ret$ Y n)) R) Q) I9
        ⟨ό,l,a0,a3.mono e9,r9,p9.Rt λy R B v S r b0 c1 c0 b3=>⟨y,B,R,e9.trans b0,c1,c0,by rw[rO]at b3;exact b3⟩⟩) λw d8 ⟨v,S,d0,c8,y,B,R,b0,c1,c0,b3⟩=>?_)
       have c5:=T5 (Q:=λr s=>∃ f j,Tc g H8 f s/\gd T f s j/\Vb T E (Ja T) f s (Ic (Lg nx n tg fi H k (i+1) l) (λr=>ret$ Y n) j) Q) c1 ((W.trans b0).get hn) c0
        (b3.bind λr j f d9 s r V a6 e0 a5=>⟨f,j,b0.trans V,a6,a5⟩)
       refine ba (pd (fN (X:=ϋ) _ d8 N S (ϙ D0) [v] (Xb D0) [w] _ d0 rfl (Ϡ c8 Ϣ) c5) λr a7 ſ=>?_);obtain⟨d9,s,a1,_,f,j,V,a6,a5⟩:=ſ;exact ga$ ga ⟨rfl,a2 a1 V a6 a5⟩
 exact codeAny_compStart_list ek$ TT.self X.A 0 _ _ _ b5 ek
def aK
  (hc:X.Lb=U2) (L:ak X x M' ix a) (G:Zq T X u h O)
  (a1:∀ cl C d c ex,FG T (Lo X (x::z0::M') a cl C d c ex) u tg)
  (W:∀ cl C d c ex,Tw T (Lo X (x::z0::M') a cl C d c ex) N fi)
  (B:∀ cl C d c ex,FE T (Lo X (x::z0::M') a cl C d c ex) z fe)
  (hs:∀ y,je h X.env y=pure y:=by intro _;rfl) :
  FE T X (ϳ z [⟨u,h,N,0⟩] a a3)$ Ei O ix tg fi fe:=by
 rintro p s st H Q I ⟨R,ρ,σ,hE,hr,hp⟩;refine Js rfl hs (DN X.env a$ fA I L) L.kind (λy hy e=>?_) ?_
 ·have q:=Jb.mp L.names y hy;rw[e]at q;exact eq_of_beq q
 have h1:=G p s st H (λJ j=>∃ nx f w,Tc R H f j/\gd T f j w/\Sz T f j nx J/\Vb T _ _ f j _ Q) I
  ⟨R,ρ,σ,hE,hr,hp.bind λnx a5 a4 J H1 v e1 r1 q1 p1=>⟨nx,a4,a5,e1,r1,q1,p1⟩⟩
 refine pd h1 λv s1 h2=>pd h2 λa6 s2 h3=>?_;obtain⟨it,fp,tn,J,j,rfl,I2,TT,P,f2,nx,f,w,S,r2,so,p2⟩:=h3;refine Dc$ vk (fD L) (by intro y hy;simp at hy) (λK l m=>?_) L.kind;have I3:=I2.gA (t':=s2.toks) Ϣ ⋯;have A:j s2.heap.objs.size=ń:=I2.Kc.fresh$ wa _;have t:Tc f j _$ Fb j s2.heap.objs.size$ ϯ []:=Dw A;have a0:s2.heap.objs.size<(s2.heap.push { cls:=Wh "list",data:=Ϧ [].toArray }).objs.size:=by rw[Oc];exact Qb _
 have kp:∀ b o,(s2.heap.push { cls:=Wh "list",data:=Ϧ [].toArray }).get? b=SY o->K.get? b=SY o:=λb o e=>m.extBut b o (za$ xa e)$ da _ e;have g:∀ b∈fp,Bl X p (Fb j s2.heap.objs.size$ ϯ []) b/\b<(s2.heap.push { cls:=Wh "list",data:=Ϧ [].toArray }).objs.size:=λb k=>by
  obtain⟨o,e,_⟩:=TT.obj 0 _ P b k;have lt:=xa e;exact⟨⟨by rw[ee$ za lt];exact(f2 b k).1,(f2 b k).2⟩,Kq lt a0⟩
 refine oX (n:=w.length) hc L a1 W B I3 g l kp TT (TT.keep 0 _ _ P λb k o e=>kp b o$ da _ e)
  (λR H σ i ex r=>so R H σ i (t.trans ex) r) ((hE.mono S).mono t) (r2.push (ob:=ώ []) A ⟨[],ng,Db.nil⟩) (by rw[<-r2.len];simp) (p2.mono t) (λs6 H' m6 ϋ ό a2 ϊ E V hq=>⟨m6,ϋ,λh7 F=>?_⟩)
 exact⟨ϙ s2.heap.objs.size,H',(L2.gb.Lu (s':={ s6 with heap:=h7 }) (ch:=fp) I3 ϊ (yak a2 F$ wa _) (U7 E F ό) V$ λb k=>⟨(g b k).1.2.2.2.1,(g b k).1.2.1,(g b k).1.2.2.2.2.1,(g b k).1.2.2.2.2.2⟩),rfl,hq⟩
def YE(K:ϖ)(b:Str->Option Value)(x:Str)(c:ac):Prop:=∃ a,b x=SY (Xb a)/\mB K a c
noncomputable def Tz:dN->ac->Bool
 |[],[]=>U2
 | .str y _::a,x::ss=>(y == x) && Tz a ss
 |_,_=>ŝ
def gK(K:ϖ)(a:Addr)(c:ac):Bool:=match K.lookup a with
 |some o=>(o.cls == Wh "tuple") && (match o.data with
  | Ϧ b _=>decide (b.size<=sizeLine) && Tz b.toList c
  |_=>ŝ)
 |none=>ŝ
theorem sT:∀ {a:dN} {ss:ac},Tz a ss=U2->ke (ss.map V.str) a
 |[],[],_=>Ϣ
 |[],_::_,h=>by cases h
 |v::a,[],h=>by cases v<;>cases h
 |v::a,x::ss,h=>by
  cases v with
  |str y t=>
   replace h:=(Bool.and_eq_true _ _).mp h;obtain rfl:=eq_of_beq h.1;exact Ϡ ⟨t,rfl⟩$ sT h.2
  |_=>cases h
def mB.of{K}(h:gK K a f=U2):mB K a f:=by
 unfold gK at h;cases e:K.lookup a with
 |none=>rw[e]at h;cases h
 |some o=>
  rw[e]at h;simp only[Da]at h;obtain⟨g,b⟩:=h;cases d:o.data with
  |seq c n=>
   rw[d]at b;simp only[Da,Gc]at b;exact⟨o,c,n,e,eq_of_beq g,d,b.1,sT b.2⟩
  |_=>simp_all
def iI(a:Bool)(b:ac)(x:D):M D:=λc=>match x with
 | ϐ z=>U (ϓ$ if a then !vC (.str z) (b.map V.str)else vC (.str z) (b.map V.str)) c
 |_=>ϗ
section
variable{e:Na}{f:Ev->M D}{x:Str}{p pos:Vd}{ss:ac}
def K0(ss:ac):(ss.map V.str).all xi=U2:=by rw[List.all_map];exact List.all_eq_true.2 λ_ _=>rfl
def C4(j:mB X.K a ss)(h:tF T X (be (iI b ss) f) g H Q):SA (RI X.K b) (tF T X f) (tC$ ϙ a) g H Q:=by
 obtain⟨n,ρ,p,i,l,k⟩:=h;refine⟨n,ρ,p,i,l,k.bind λd q o v r t s m e c=>?_⟩;cases d with
 |str z=>rw[Ja]at e;subst e;exact⟨a,ss.map V.str,rfl,ϕ$ ϕ j,rfl,K0 ss,Vb.here c m (by rw[Ja])⟩
 |_=>exact c.elim
def kZ(m:Gl X x)(i:YE X.K X.mg x ss)(c:FE T X e f)(l: ~~~((x == ("__debug__" : Str))=ŝ)):FT T X (.Compare e [.In] [ϛ x p] pos)$ eT$ be (iI ŝ ss) f:=by
 obtain⟨a,n,j⟩:=i;intro b s st H Q I h;refine qN nN c (NI m n (v:=ϙ a) rfl l) rfl b s st H Q I$ C4 j ?_;obtain⟨y,ρ,A,c,r,o⟩:=h;refine⟨y,ρ,A,c,r,o.bind λd σ1 z v B d C w t u=>?_⟩;obtain⟨k,g,q⟩:=BH t u;exact⟨k,g,q.here w rfl⟩
end
def δ{K:ϖ}(X:K.In h)(G:h.Ns mainGlobals c)(a:W.nsIn K mainGlobals x=SY (SY$ Xb C))(b:gK K C d=U2):YE K c x d:=⟨C,Es X G a,mB.of b⟩
section
variable{prog:Aa}{w:Ta}{A:Ma}{E:Value->Shared->Prop}{l q I S:Addr}{n:Nat}{P:Nat->Value->Prop}{R:Fo->Shared->Prop}{Q:Value->Shared->Prop}
def Č(G:Nat->Value->Int->Shared->Prop)(hh:A.handled=ń)(ϋ:l≠I)(H:S≠I)(a7:l≠S)
  (hl:∀ j d a s,G j d a s->∃ y:dN,y.length=n/\(∀ j v,y[j]?=SY v->P j v)/\s.heap.IsList l y.toArray)
  (u:∀ j d a s B tk,G j d a s->(∀ b o,b≠I->b≠S->s.heap.get? b=SY o->B.get? b=SY o)->G j d a { s with heap:=B,toks:=tk })
  (a4:∀ j d a s v oI oS,G j d a s->P j v->s.heap.get? I=SY oI->s.heap.get? S=SY oS->(∀ v,oI.data≠.cell v)->(∀ v,oS.data≠.cell v)->
   wpAny (model prog w) A.in1 (call (Xb q) [v]) (λx s'=>∃ k t,x=Tl k t/\s'.heap.get? I=SY oI/\s'.heap.get? S=SY oS/\G (j+1) (if k<a then v else d) (if k<a then k else a) s') (λF F=>False) s)
  (hR:∀ d a s,G n d a s->R (.ok$ .ret d) s) :
  ∀ r j s d a tb c,n - j=r->j<=n->G j d a s->s.heap.get? S=SY (Km "list" #[d,Tl a tb] c)->s.heap.IsListIter I l j->
   codeAny (model prog w) A (.builtin "min.loop" ⟨[Xb I,Xb q,Xb S],[]⟩) R s:=by
 have a6:(toString "min"++toString ".loop" : String) = "min.loop":=by decide
 intro r;induction r with
 |zero=>
  intro j s d a tb c hr hj g V hit;have W:j=n:=by lia
  apply b_;intro z_;obtain⟨y,O,a2,K⟩:=hl j d a s g;have N:y.toArray.size=n:=(Ua ..).trans O;apply z_;refine Jc Lh ?_;rw[Around.under_plainId se _];show wpAny _ A.in1 (seqItems? (Xb S) >>= _) _ _ _;refine ba$ Kh V rfl ?_;show wpAny _ A.in1 (tryCatch (pyNext$ Xb I) _ >>= _) _ _ _;refine ba$ De ((Kj (prog:=prog) (w:=w) (A:=A.in1) hh I l ϋ y.toArray).done _ _ _ ⟨by rw[N,<-W];exact hit,K⟩ λB a3 J=>?_);have m:∀ b o,b≠I->s.heap.get? b=SY o->B.get? b=SY o:=λb o n e=>J b o (by simpa using n) e;have D:=m S _ H V;have s1:=Wb B S (Fe λF=>(#[]:Array Value));refine ba$ gh D rfl$ ba$ So$ ga ?_;subst W;exact hR d a _ (u _ _ _ s _ _ g λb o n1 n2 e=>by rw[s1.2 b n2];exact m b o n1 e)
 |succ r ih=>
  intro j s d a tb c hr hj g V hit;have L:j<n:=by lia
  obtain⟨y,O,a2,K⟩:=hl j d a s g;have N:y.toArray.size=n:=(Ua ..).trans O;refine Jc Lh ?_;refine ba$ Kh V rfl ?_;refine ba$ De ((Kj (prog:=prog) (w:=w) (A:=A.in1) hh I l ϋ y.toArray).item j _ _ _ (by rw[N];exact L) ⟨hit,K⟩ λv B a3 hP a1 J=>?_);have m:∀ b o,b≠I->s.heap.get? b=SY o->B.get? b=SY o:=λb o n e=>J b o (by simpa using n) e;have hv:P j v:=a2 j v (by simpa using hP);obtain⟨Q,ϊ,a0,M⟩:=id a1.1;have D:=m S _ H V;refine ba$ De$ Yb (nc (a4 j d a _ v Q _ (u _ _ _ s B a3 g λb o n1 n2 e=>m b o n1 e) hv ϊ D (λv z=>by rw[M]at z;cases z)$ λv z=>by cases z) (λx p he=>?_) λF F hF=>hF.elim);obtain⟨C,T,rfl,ό,E,g2⟩:=he;have X:p.heap.IsListIter I l$ j+1:=⟨Q,ό,a0,M⟩
  refine ba$ De$ Yb$ ba$ CmpOf.ints_lt (prog:=prog) (w:=w) (A:=A.in1) (P:=λ(i:Nat) v=>∃ t,v=Tl (if i=0 then C else a) t) (λi=>if i=0 then C else a) (λi v h=>h) 0 1 _ _ _ _ _ ⟨T,rfl⟩ ⟨tb,rfl⟩ ?_;refine ba$ Yb$ qc ?_;refine ba$ So$ ga ?_;by_cases f:C<a
  ·have s1:=Wb p.heap S (Fe λF=>#[v,Tl C T]);obtain⟨c2,a5⟩:∃ c2,(p.heap.update S$ Fe λF=>#[v,Tl C T]).get? S=SY (Km "list" #[v,Tl C T] c2):=⟨_,BJ E λF=>#[v,Tl C T]⟩
   rw[na f,na f]at g2;simp only[f,decide_true,Mi,iz,yt];refine ba ?_;refine gh E rfl$ ba$ So$ ga ⟨Sd se _,ih (j+1) _ v C T c2 ⋯ L (u _ _ _ p _ _ g2 λb o n1 n2 e=>by rw[s1.2 b n2];exact e) a5 ⟨Q,(s1.2 I H.symm).trans ό,a0,M⟩⟩
  ·rw[ya f,ya f]at g2;simp only[f,decide_false,zt,yt,Mi,iz];refine ba$ So ?_;exact ga ⟨Sd se _,ih (j+1) _ d a tb c ⋯ L (u _ _ _ p _ _ g2 λb o F F e=>e) E X⟩
def Ĭ(R:Shared->Prop)(G:Addr->Addr->Nat->Value->Int->Shared->Prop)(hh:A.handled=ń)(g0:R s){f:dN}(a5:f.length=n)(a4:∀ j v,f[j]?=SY v->P j v)(h:s.heap.IsList l f.toArray)(J:0<n)
  (W:∀ s h' tk,R s->(∀ b o,s.heap.get? b=SY o->h'.get? b=SY o)->R { s with heap:=h',toks:=tk })
  (first:∀ I S s1 v oI i,s.heap.objs.size<=I->s.heap.objs.size<=S->S≠I->(∃ s0,R s0/\(∀ b o,b≠I->s0.heap.get? b=SY o->s1.heap.get? b=SY o)/\(s1={ s0 with heap:=s1.heap,toks:=s1.toks }))->P 0 v->s1.heap.get? I=SY oI->s1.heap.get? S=SY i->(∀ v,oI.data≠.cell v)->(∀ v,i.data≠.cell v)->
   wpAny (model prog w) A.in1 (call (Xb q) [v]) (λx m=>∃ k t,x=Tl k t/\m.heap.get? I=SY oI/\m.heap.get? S=SY i/\G I S 1 v k m) (λU U=>False) s1)
  (hl:∀ I S j c a s,G I S j c a s->∃ f:dN,f.length=n/\(∀ j v,f[j]?=SY v->P j v)/\s.heap.IsList l f.toArray)
  (H:∀ I S j c a s h' tk,G I S j c a s->(∀ b o,b≠I->b≠S->s.heap.get? b=SY o->h'.get? b=SY o)->G I S j c a { s with heap:=h',toks:=tk })
  (O:∀ I S j c a s v oI i,G I S j c a s->P j v->s.heap.get? I=SY oI->s.heap.get? S=SY i->(∀ v,oI.data≠.cell v)->(∀ v,i.data≠.cell v)->
   wpAny (model prog w) A.in1 (call (Xb q) [v]) (λx m=>∃ k t,x=Tl k t/\m.heap.get? I=SY oI/\m.heap.get? S=SY i/\G I S (j+1) (if k<a then v else c) (if k<a then k else a) m) (λU U=>False) s)
  (hQ:∀ I S c a s,G I S n c a s->Q c s) :
  wpAny (model prog w) A (call (Ϟ "min") [Xb l] [(ui "key",Xb q)]) Q E s:=by
 obtain⟨ol,a3,_⟩:=id h;have D:=xa a3;refine kmk_tree PySem.F.kind_min PySem.F.plain_min PySem.F.entry_min (kmk_min_key _ _)$ ba$ Lx (rfl)$ ba$ ga$ ba$ Zh h$ ba$ Gs ?_$ yh _;have ϋ:(s.heap.push { cls:=Wh "list_iterator",data:=ϩ #[Xb l,Tl 0 0] }).objs.size=s.heap.objs.size+1:=GA ..;have C:=za D;have d:(s.heap.push { cls:=Wh "list_iterator",data:=ϩ #[Xb l,Tl 0 0] }).objs.size≠s.heap.objs.size:=by rw[ϋ];exact Jd$ Qb _
 have a1:l≠(s.heap.push { cls:=Wh "list_iterator",data:=ϩ #[Xb l,Tl 0 0] }).objs.size:=by rw[ϋ];exact za$ Rb D
 have u:s.heap.objs.size<=(s.heap.push { cls:=Wh "list_iterator",data:=ϩ #[Xb l,Tl 0 0] }).objs.size:=by rw[ϋ];exact zh _
 refine ga ⟨Sd se _,?_⟩;have gI:((s.heap.push { cls:=Wh "list_iterator",data:=ϩ #[Xb l,Tl 0 0] }).push$ Km "list" #[] 0).get? s.heap.objs.size=SY { cls:=Wh "list_iterator",data:=ϩ #[Xb l,Tl 0 0] }:=
  da _$ Ea _ rfl
 have gS:((s.heap.push { cls:=Wh "list_iterator",data:=ϩ #[Xb l,Tl 0 0] }).push _).get? (s.heap.push { cls:=Wh "list_iterator",data:=ϩ #[Xb l,Tl 0 0] }).objs.size=SY (Km "list" #[] 0):=Ea _ rfl;have B:∀ b o,s.heap.get? b=SY o->((s.heap.push { cls:=Wh "list_iterator",data:=ϩ #[Xb l,Tl 0 0] }).push$ Km "list" #[] 0).get? b=SY o:=λb o e=>da _$ da _ e;generalize (s.heap.push { cls:=Wh "list_iterator",data:=ϩ #[Xb l,Tl 0 0] }).objs.size=S at *;generalize ((s.heap.push { cls:=Wh "list_iterator",data:=ϩ #[Xb l,Tl 0 0] }).push _)=hp at *;refine Jc Lh$ ba$ Kh gS rfl$ ba$ De ((Kj (prog:=prog) (w:=w) (A:=A.in1) hh s.heap.objs.size l C f.toArray).item 0 _ _ _ (by rw[((Ua ..).trans a5)];exact J) ⟨⟨_,gI,rfl,rfl⟩,h.at λo e=>B _ _ e⟩ λv h' a6 hP M a0=>?_);have y:=λb o n e=>a0 b o (by simpa using n) e;obtain⟨N,K,a2,L⟩:=id M.1;refine ba$ De$ Yb (nc (first s.heap.objs.size S _ v N _ (wa _) u d ⟨{ s with heap:=hp,toks:=s.toks },W s hp _ g0 B,λb o n e=>y b o n e,rfl⟩ (a4 0 v$ by simpa using hP) K (y S _ d gS) (λv z=>by rw[L]at z;cases z)$ λv z=>by cases z) (λx p he=>?_) λU U hF=>hF.elim);obtain⟨T,ό,rfl,X,r,g2⟩:=he;have s1:=Wb p.heap S (Fe λU=>#[v,Tl T ό]);obtain⟨V,ϊ⟩:∃ V,(p.heap.update S _).get? S=SY (Km "list" #[v,Tl T ό] V):=⟨_,BJ r λU=>#[v,Tl T ό]⟩
 exact ba$ gh r rfl$ ga ⟨Sd se _,Č (G _ _) hh C d a1 (hl _ _) (H _ _) (O _ _) (λc a s g=>hQ _ _ c a s g) _ 1 _ v T ό V rfl J (H _ _ _ _ _ p _ _ g2 λb o n1 n2 e=>by rw[s1.2 b n2];exact e) ϊ ⟨N,(s1.2 _ d.symm).trans X,a2,L⟩⟩
end
noncomputable def qF(X:Cx)(A:Ma)(d:ac)(b:Str)(a:Scope)(q:Addr)(c:Value)(cl:List$ Str × Addr)(s₀:Shared)(H₀:Hp):Cx:=
 { X with A:=A.deeper (W.envX b a s₀.heap.objs.size q c cl),N:=d,s₀:=s₀,H₀:=H₀,env:=W.envX b a s₀.heap.objs.size q c cl,outer:=X.stack,stack:=W.envX b a s₀.heap.objs.size q c cl::X.stack,ex:=[],fn:=λe=>ŝ,Lb:=U2,pn:=[],xe:=λe e=>False }
noncomputable def nO(a:gV)(d:D)(b:Ev):Ev:=SY d::a.map λi=>(b[i]?).getD ń
noncomputable def lG(a:gV)(v:V)(st:St):St:=SY v::a.map λi=>(st[i]?).getD ń
def N7 a(h:Gh T b H ρ c)(e:Ja T b H d v):Gh T b H (nO a d ρ)$ lG a v c:=by
 exact((SW a h).set 0 e)
section
variable{pins:List$ Addr × Obj}{st:St}{H:Hp}{s:Shared}{x:Str}{M':ac}{ix:gV}{scope:Scope}{A:Ma}{qual:Str}{q:Addr}{cd:Value}{v:V}{u:Value}
def ZZ(I:gb X pins st H s)(L:ak X x M' ix scope)(hx:scope.names.lookup x=SY .local)(hA:A.frames=SY X.stack)(M:A.handled=ń)(rv:yd v u)(P:h'.Ns s.heap.objs.size m)(hm:m x=SY u)
  (E:∀ b o,s.heap.get? b=SY o->h'.get? b=SY o) :
  gb (qF X A (x::M') qual scope q cd (Ui X.env scope.names []) s H) [] (lG ix v st) H { s with heap:=h',toks:=t' }:=by
 have f:∀ n c,(Ui X.env scope.names []).lookup n=SY c->X.env.cells.lookup n=SY c:=λn c e=>GL X.env scope.names [] n c (λU U q=>by simp at q) e;have r:=I.Kc.fresh$ wa _;have t:∀ b:Addr,b ∉ (qF X A (x::M') qual scope q cd (Ui X.env scope.names []) s H).ex:=λb z=>absurd (show b∈[]from z) ⋯;refine⟨⟨I.ok.mod,L.kind,rfl,rfl,wa _,λa b c h1 h2=>I.ok.inj a b c (f a c h1)$ f b c h2,λa ha=>?_,λa c h=>(by cases h),λU=>M,cq hA,ϕ ⟨rfl,rfl⟩,λb J=>absurd J$ t b,λb o e=>I.bs b o e,zb I.ok.su I.sz,λb o e=>t b,λb J=>absurd J$ t b,I.stack,I.Aj⟩,
  rfl,I.bare,Un.kept E,⟨m,P,λi y C S T e3=>?_⟩,λa c e=>?_,r,λa c e=>I.Gg a c$ f a c e,λp hp=>absurd (show p∈[]from hp) ⋯,I.Kc.kept E,?_⟩
 ·have G:scope.names.lookup a=SY wc\/scope.names.lookup a=SY Bb:=ha;rcases G with z|z
  ·exact absurd rfl$ fD L _$ Lv z
  ·exact vF X.env scope.names [] a (Lv z)$ fA I L _ (Lv z) rfl
 ·cases i with
  |zero=>
   have g:SY x=SY y:=S;have d:SY (SY v)=SY (SY C):=T;cases g;cases d;exact⟨u,rv,ϑ ⟨hx,hm⟩⟩
  |succ j=>
   have g:M'[j]?=SY y:=S;have d:(ix.map λi=>(st[i]?).getD ń)[j]?=SY (SY C):=T;rw[Ca]at d;cases F:ix[j]? with
   |none=>rw[F]at d;cases d
   |some B=>
    rw[F]at d;have D:(st[B]?).getD ń=SY C:=Ub d;have W:st[B]?=SY (SY C):=by
     cases q:st[B]? with
     |none=>rw[q]at D;cases D
     |some o=>rw[q]at D;exact vd SY D
    have ϋ:X.N[B]?=SY y:=by
     have z:=vd (λl=>l[j]?) L.at_;simp only[Ca,F,g]at z;exact Ub z
    have q:=Jb.mp L.wV y$ ua g;simp only[Da,sf]at q;have ό:X.env.scope.names.lookup y=SY wc\/X.env.scope.names.lookup y=SY Bb:=by
     all_goals simp_all
    have R:scope.names.lookup y=SY Bb:=eq_of_beq q.2;obtain⟨m0,a0,O⟩:=I.loc;obtain⟨u2,ru,lu⟩:=O B y C ϋ W (by rcases ό with z|z;exact ϕ$ ϑ z;exact ϕ$ ϕ z);refine⟨u2,ru,ϕ ⟨ϕ R,?_⟩⟩;rcases lu with⟨z,_⟩|⟨_,c,ϊ,zc⟩
    ·rcases ό with k|k
     ·rw[show X.env.kindOf y=X.env.scope.names.lookup y from rfl,k]at z;cases z
     ·rw[show X.env.kindOf y=X.env.scope.names.lookup y from rfl,k]at z;cases z
    ·obtain⟨V,w⟩:=vF X.env scope.names [] y (Lv R) (fA I L _ (Lv R) rfl);have e7:=f y V w;rw[ϊ]at e7;cases e7;obtain⟨o,Q,K⟩:=zc;exact⟨c,w,o,E _ _ Q,K⟩
 ·obtain⟨v,o,Q,K⟩:=I.cell a c (f a c e);exact⟨v,o,E _ _ Q,K⟩
 ·have z:=vd List.length L.at_;simp[lG,qF];simpa using z
def ν(I:gb X pins st H s)(L:ak X x M' ix scope)(R:scope.names.lookup x=SY .local)(K:A.frames=SY X.stack)(p:A.handled=ń)(n:A.depth<recursionLimit)
  (N:s.heap.get? q=SY (ϲ d qual a c scope (Ui X.env scope.names []) E k h)) (l:s.heap.CodeRec (Xb k) qual)
  (f:bindArgs (W.kla_fn d qual a c scope (Ui X.env scope.names []) E (Xb k) h) ⟨[u],[]⟩=pure [(x,u)]) (m:scope.isCoroutine=ŝ) (i:scope.isGenerator=ŝ) (T:yd v u)
  (M:PE (qF X A (x::M') qual scope q (Xb k) (Ui X.env scope.names []) s H) c t) (P:t (lG ix v st) H Q) :
  wpAny (model X.prog X.w) A (call (Xb q) [u]) (λr F=>CE X.stack X.prog X.w H s Q r F) (λD D=>False) s:=by
 refine ej$ W.kla_callFunE n N rfl m i rfl l ?_;rw[f];refine ga$ vk (fD L) (λy S=>?_) (λD B j=>⟨?_,?_⟩) L.kind
 ·have e:y=(x,u):=by simpa using S
  simp_all
 ·exact(I.nolimit).fresh _ j
 ·have g:=λb o e=>j.extBut b o (za$ xa e)$ da _ e;refine W.kla_codeExpr (nc (M [] _ _ H Q (ZZ I L R K p T B ⋯ g) P) (λV F z=>?_) λD D z=>z.elim);obtain⟨ό,G,J,C,O⟩:=z;exact⟨ό,G,J.os,J.bare,J.base,J.Kc,C,O⟩
end
noncomputable def uD(K:ϖ)(c P:Addr):Bool:=match K.lookup c with
 |some o=>(match o.cls,o.data with
  | Wh n,ϩ a=>n == "code" && (match (a[11]?:Option Value)with|some (Xb p)=>p == P|_=>ŝ) && (match a.getD 11 rc with | Xb p=>p == P|_=>ŝ) && (match a.getD 18 rc with | .str _ _=>U2|_=>ŝ) &&
   (match a.getD 7 rc with | Tl _ _=>U2|_=>ŝ) && (match a.getD 9 rc with | Lj _=>U2|_=>ŝ) && (match a.getD 10 rc with | Tl _ _=>U2|_=>ŝ) && (c != P)
  |_,_=>ŝ)
 |none=>ŝ
set_option tactic.hygienic true in
def Ο{K:ϖ}(X:K.In h)(e:uD K c P=U2):W.CodeHd h c P:=by
 unfold uD at e;rcases u:K.lookup c with _|⟨i,k,s,l⟩<;>rw[u]at e;·cases e
 cases i<;>try cases e
 cases s<;>try cases e
 next n F=>
 dsimp only at e;simp only[Da]at e;obtain⟨⟨⟨⟨⟨⟨⟨i,a⟩,b⟩,d⟩,f⟩,g⟩,e7⟩,j⟩:=e
 have S:∀ v:Value,(match v with|.str _ _=>true|_=>false)=true->∃ s t,v=.str s t:=λv h=>by cases v<;>first|exact⟨_,_,rfl⟩|cases h
 have I:∀ v:Value,(match v with|.int _ _=>true|_=>false)=true->∃ s t,v=.int s t:=λv h=>by cases v<;>first|exact⟨_,_,rfl⟩|cases h
 obtain⟨y,C,m⟩:=S _ d;obtain⟨z,D,p⟩:=I _ f;obtain⟨B,E,r⟩:=I _ e7
 obtain⟨A,q⟩:∃ s,F.getD 9 rc=.bool s:=by cases h:F.getD 9 rc<;>rw[h]at g<;>first|exact⟨_,rfl⟩|cases g
 have l:F.getD 11 rc=.ref P:=by cases h:F.getD 11 rc<;>rw[h]at b<;>first|exact congrArg Value.ref (eq_of_beq (show (_ == P)=true from b))|cases b
 have k:(F[11]?:Option Value)=SY (.ref P):=by
  rcases h:(F[11]?:Option Value) with _|v<;>rw[h]at a;·cases a
  cases v<;>first|exact congrArg (λz=>some (Value.ref z)) (eq_of_beq (show (_ == P)=true from a))|cases a
 obtain rfl:=eq_of_beq i;exact⟨_,F,y,C,z,D,A,B,E,X _ _ u,rfl,rfl,k,l,m,p,q,r,by simpa using j⟩
def O4{st}(I:gb X i st H s)(h:H P=SY (.ul ps))(x:Mm P s.heap h')(m:s.heap.objs.size<=f)(M:f<h'.objs.size)
  (p:Wt d f h') (r:h'.get? P=SY (W.tabObj$ ps++a)) :
  gb X i st (Fb (Fb H P$ .ul$ ps++a) f$ ϫ$ Wt d f) { s with heap:=h',toks:=tk }:=by
 have j:=I.Kc.fresh m;have B:f≠P:=λz=>by rw[z,h]at j;cases j
 have A:∀ b,H b=ń->b≠P:=λb n z=>by rw[z,h]at n;cases n
 have w:∀ b u,H b=SY u->b≠P->Fb (Fb H P$ .ul$ ps++a) f (ϫ$ Wt d f) b=SY u:=λb u e n=>by
  rw[ee$ zev e j,ee n];exact e
 have O:Fb (Fb H P$ .ul$ ps++a) f (ϫ$ Wt d f) P=SY (.ul$ ps++a):=by rw[ee B.symm,ng]
 refine I.un ⟨λb o e n S S=>x b o (A b n) e,λb o e n S S=>⟨o.slots,x b o (A b n) e⟩,λb o e n S=>?_,λb o e S=>?_,λb xs e=>w b _ e (λz=>by rw[z,h]at e;cases e),λb o u e=>w b _ e (λz=>by rw[z,h]at e;cases e),λb R e=>?_⟩ λb u e=>?_
 ·have:b≠f:=λz=>by subst z;exact absurd (xa e)$ Tu.mpr m
  rw[ee this,ee$ A b n];exact n
 ·by_cases g:b=P
  ·subst g;exact⟨_,r⟩
  ·exact⟨o,x b o g e⟩
 ·by_cases g:b=P
  ·subst g;rw[h]at e;cases e;exact⟨a,O⟩
  ·exact⟨#[],by rw[Array.append_empty];exact w b _ e g⟩
 ·by_cases l:b=f
  ·subst l;rw[ng]at e;cases e;obtain⟨o,Q,t,D,J,K⟩:=p;exact⟨⟨o,Q,t,D,J,K⟩,⟨o,D⟩,(by rintro a1 a2 ⟨N,C,t',E,F,G⟩ k;exact ⟨N,C,t',k _ E,F,G⟩)⟩
  ·rw[ee l]at e;by_cases g:b=P
   ·subst g;rw[ng]at e;cases e;exact r
   ·rw[ee g]at e;refine(I.Kc b u e).Yj (λc v L q=>x c v ?_ q) (λc q=>w c _ q (λz=>by rw[z,h]at q;cases q)) λc xs q=>w c _ q (λz=>by rw[z,h]at q;cases q);rcases L with z|z
    ·rw[z];exact g
    ·intro y;rw[y,h]at z;cases z
section
variable{pins:List$ Addr × Obj}{st:St}{H:Hp}{s:Shared}{μ:b'}{σ:Ga}{x:Str}{M':ac}{ix:gV}{scope:Scope}{params:Arguments}{body:Na}{pos:Vd}{c:Addr}{t:Tab}
structure Xy(T:Tb)(X:Cx)(t:Tab)(c:Addr)(pos:Vd):Prop where
 mem:t∈T.tx.eo
 inj:∀ t'∈T.tx.eo,t'.P=t.P->t'=t
 code:X.env.code=Xb c
 hd:uD X.K c t.P=U2
 line:t.line=pos.line
 col:t.col=pos.col
 qual:t.qual=X.env.qual++"<lambda>"
 bm:X.mg "__builtins__" = SY (Xb T.tx.bm)
 bb:T.tx.bm≠builtinsNs
def ë(I:gb X pins st H s)(L:ak X x M' ix scope)(r:gd T μ H σ)(g:Xy T X t c pos)(M:defaultsOf params X.env=([],[])) :
  wpAny (model X.prog X.w) X.A (Mb (.Lambda params body scope pos) X.env) (λv s'=>∃ q d i B,v=Xb q/\gb X ((q,ϲ "<lambda>" t.qual params body scope (Ui X.env scope.names []) ((X.mg "__name__").getD rc) d i)::pins) st B s'/\Tc μ H μ B/\gd T μ B σ/\d ∉ μ/\B d=SY (ϫ$ Wt t.qual d)) X.xe s:=by
 obtain⟨⟨b2,b4,ό⟩,S,ps,E,a8⟩:=r.tb t g.mem;have j:s.heap.get? t.P=SY _:=I.Kc _ _ E;have l:s.heap.Ns mainGlobals X.mg:=I.ok.mod.glob.keeps I.bk;have a6:mainGlobals≠t.P:=λz=>by
  obtain⟨o,es,ep,e,hd,_⟩:=l;rw[z,j]at e;cases e;cases hd
 obtain⟨_,⟨ob,o1,o2,o3,o4⟩,_⟩:=I.Kc _ _ ό;have G:T.tx.bm≠t.P:=λz=>by rw[z,j]at o1;cases o1;cases o2
 have V:T.tx.bm≠mainGlobals:=λz=>by
  obtain⟨o,es,ep,e,hd,_⟩:=l
  simp_all
 have hB:s.heap.BuiltinsAt X.mg t.P:=⟨T.tx.bm,ob,g.bm,g.bb,V,G,o1,o2,o3,o4⟩
 have K:=DN X.env scope$ fA I L;have C:W.CodeHd s.heap c t.P:=(Ο I.ok.mod.fw g.hd).keeps I.bk;have f:∀ {h':Heap} {y:Nat} {B:Hp} {o:Obj},gb X pins st B { s with heap:=h',toks:=y }->o.isFreed=ŝ->(∀ v,o.data≠.cell v)->gb X ((h'.objs.size,o)::pins) st B { s with heap:=h'.push o,toks:=y }:=fun {h' y B o} J hf hc=>by
  have J2:=J.kept (h':=h'.push o) (t':=y) λb u e=>da _ e;refine J2.Ci λp m=>?_;rcases Ba.mp m with rfl|m
  ·exact⟨Ea _ hf,J.Kc.fresh$ wa _,Jd J.lt,J.sD$ wa _,hc⟩
  ·exact J2.pin p$ Qa _ m
 refine W.kla_eval M ?_;rw[<-g.qual];rcases a8 with rfl|⟨c1,rfl,ϋ,ϊ⟩
 ·refine W.kla_makeFunction K I.ok.glob l g.code C j trivial rfl a6 hB λd i h' y hx N a7 O a9=>?_;have a0:Wt t.qual d h':=by
   obtain⟨c2,o,vs,tt,e,h1,h2,h3⟩:=O;cases e;exact⟨o,vs,tt,h1,h2,h3⟩
  have J:=O4 (tk:=y) I E hx N a7 a0 a9;have k:H d=ń:=I.Kc.fresh N;have b0:d≠t.P:=λz=>by rw[z,E]at k;cases k
  have D:d ∉ μ:=λz=>by obtain⟨u,R,_⟩:=r.mem z;rw[k]at R;cases R
  have F:∀ b u,H b=SY u->b≠t.P->Fb (Fb H t.P$ .ul$ #[]++#[pc pos.line,pc pos.col,Xb d]) d (ϫ$ Wt t.qual d) b=SY u:=λb u e n=>by
   rw[ee$ zev e k,ee n];exact e
  have uP:Fb (Fb H t.P$ .ul$ #[]++#[pc pos.line,pc pos.col,Xb d]) d (ϫ$ Wt t.qual d) t.P=SY (.ul$ #[]++#[pc pos.line,pc pos.col,Xb d]):=by rw[ee b0.symm,ng]
  have uc:Fb (Fb H t.P$ .ul$ #[]++#[pc pos.line,pc pos.col,Xb d]) d _ d=SY (ϫ$ Wt t.qual d):=ng;have e:Tc μ H μ$ Fb (Fb H t.P$ .ul$ #[]++#[pc pos.line,pc pos.col,Xb d]) d$ ϫ$ Wt t.qual d:=by
   refine⟨⟨[],by simp⟩,λp xs h=>F p _ h (λz=>by rw[z,E]at h;cases h),λp o u h=>F p _ h (λz=>by rw[z,E]at h;cases h),λp o h n=>⟨?_,n⟩⟩;by_cases m:p=t.P
   ·subst m;rw[E]at h;cases h;exact⟨_,uP,ϕ$ ϕ ⟨_,_,rfl,rfl⟩⟩
   ·exact⟨o,F p o h m,ϑ rfl⟩
  refine⟨_,d,i,_,rfl,f J rfl (λv z=>by cases z),e,r.keep e (λa ha=>?_) λt' Q=>?_,D,uc⟩
  ·obtain⟨u,R,_⟩:=r.mem ha;rw[R];exact F a u R λz=>S ⋯
  ·obtain⟨⟨a1,b1,a2⟩,a3,qs,a4,a5⟩:=r.tb t' Q;refine⟨⟨a1,b1,F _ _ a2 G⟩,a3,?_⟩;by_cases m:t'.P=t.P
   ·have et:=g.inj t' Q m;subst et;exact⟨_,uP,ϕ ⟨d,by rw[g.line,g.col];rfl,D,uc⟩⟩
   ·refine⟨qs,F _ _ a4 m,a5.imp id (by rintro ⟨c3,z1,z2,z3⟩;exact ⟨c3,z1,z2,F _ _ z3 (λz=>by rw[z,E]at z3;cases z3)⟩)⟩
 ·refine W.kla_makeFunctionHit (cv:=Xb c1) K I.ok.glob l g.code C j ?_ ?_ hB λi h' y hk b3=>?_
  ·exact trivial
  ·rw[g.line,g.col];simp[codeAmong,pc]
  ·have J:=I.kept (h':=h') (t':=y) hk;exact⟨_,c1,i,H,rfl,f J rfl (λv z=>by cases z),Ϯ _ _,r,ϋ,ϊ⟩
end
noncomputable def bx(a:Ev->M D)(rest:Ev):i'->D->Int->M D
 |[],b,_=>ret b
 |d::ds,b,c=>Ic (Ms$ a$ SY d::rest) λk=>match k with
  | Z k=>if k<c then bx a rest ds d k else bx a rest ds b c
  |_=>Ib
noncomputable def XB(a:Ev->M D)(rest:Ev)(b:i'):M D:=match b with
 |[ύ (x::xs)]=>Ic (Ms$ a$ SY x::rest) λk=>match k with
  | Z k=>bx a rest xs x k
  |_=>Ib
 |_=>Ib
noncomputable def GI(d:gV)(b:Ev->M D)(c:Ev->M (i')):Ev->M D:=λa=>Ic (c a)$ XB b (d.map λi=>(a[i]?).getD ń)
def yS{st}(I:gb X a st H s)(k:∀ b o,b≠i->b≠j->s.heap.get? b=SY o->h'.get? b=SY o)(f:Bl X a H i)(g:Bl X a H j):gb X a st H { s with heap:=h',toks:=t' }:=by
 have A:∀ b u,H b=SY u->b≠i/\b≠j:=λb u e=>⟨(λz=>by rw[z,f.1]at e;cases e),(λz=>by rw[z,g.1]at e;cases e)⟩
 have l:∀ {b:Addr},b ∉ [i,j]->b≠i/\b≠j:=fun {b} h=>⟨λz=>h (by simp[z]),λz=>h (by simp[z])⟩
 refine I.step (λb w=>?_) (λb o c c d e c=>k b o (l d).1 (l d).2 e) (λb o c c d e c=>⟨o.slots,k b o (l d).1 (l d).2 e⟩) (λc c c c n=>n)
  (λb o d e=>⟨o,k b o (l d).1 (l d).2 e⟩) (λc c e=>e) (λc c c e=>e) (λb ps e=>⟨#[],by rw[e];simp⟩) (λm x=>?_) (λb u e=>?_) I.bare
 ·have e:b=i\/b=j:=by simpa using w
  rcases e with rfl|rfl
  ·exact⟨f.2.2.2.1,f.2.1,f.2.2.2.2.1,f.2.2.2.2.2⟩
  ·exact⟨g.2.2.2.1,g.2.1,g.2.2.2.2.1,g.2.2.2.2.2⟩
 ·obtain⟨o,t,p,y,r⟩:=x;exact⟨o,t,p,k _ o (Ud f.2.1) (Ud g.2.1) y,r⟩
 ·refine(I.Kc b u e).Yj (λc v d q=>?_) (λc q=>q) λc c q=>q;rcases d with z|z;all_goals simp_all
def BV
  (O:Gd (k+2) X.A) (L:ak X x M' ix f) (hx:f.names.lookup x=SY .local) (Lm:Xy T X t c b1) (hg:Gl X "min") (hm:X.mg "min" = ń)
  (c3:defaultsOf l X.env=([],[])) (d3:f.isCoroutine=ŝ) (c4:f.isGenerator=ŝ)
  (b6:∀ cl pm cd N u,bindArgs (W.kla_fn "<lambda>" t.qual l body f cl pm cd N) ⟨[u],[]⟩=pure [(x,u)])
  (ha:FA T X [e] fs)
  (hb:∀ A q cd b2 c0,Gd k (A.deeper$ W.envX t.qual f b2.heap.objs.size q cd$ Ui X.env f.names [])->FE T (qF X A (x::M') t.qual f q cd (Ui X.env f.names []) b2 c0) body fe)
  (he:(Zb a5 (qa [e] X.env)=(ŝ,Mb e X.env)::Zb a5 (qa [] X.env))⁻¹)
  (a8:((Zb a5$ qa [e] X.env).any (·.1)=ŝ)⁻¹) :
  FE T X (ϟ (ϛ "min" p) [e] [⟨SY "key",.Lambda l body f b1,kp⟩] a5)$ GI ix fe fs:=by
 intro m s st H Q I h;refine Pe$ ax I hg hm (show bootBuiltins "min" = SY (Ϟ "min")from rfl) ?_;apply b_;intro z_;obtain⟨μ,ρ,σ,hE,hr,hp⟩:=h;apply z_;refine callWith_kw (pd (ha a5 m s st H (λvs H1=>∃ G σ1 ds,Tc μ H G H1/\gd T G H1 σ1/\Db T G H1 ds vs/\Vb T (XE X st) (Ja T) G H1 (XB fe (ix.map λi=>(ρ[i]?).getD ń) ds σ1) Q) I ⟨μ,ρ,σ,hE,hr,hp.bind λds σ1 G vs H1 U e1 r1 q1 p1=>⟨G,σ1,ds,e1,r1,q1,p1⟩⟩) λus s1 ⟨vs,H1,I1,rv,G,σ1,ds,e1,r1,q1,p1⟩=>kws_cons (pd (ë I1 L r1 Lm c3) λlv s2 ⟨q,c',N,H2,c7,I2,e2,r2,d0,d1⟩=>kws_nil ?_)) he a8;subst c7;show wpAny _ _ (call (Ϟ "min") us [(ui "key",Xb q)]) _ _ _;have c8:Gh T G H2 ρ st:=(hE.mono e1).mono e2;generalize b8:(ix.map λi=>(ρ[i]?).getD ń)=rest at *;obtain⟨x0,xs,rfl⟩:∃ x0 xs,ds=[ύ$ x0::xs]:=by
  first
  |(rcases ds with _|⟨d,_|_⟩<;>try exact p1.elim
    all_goals cases d<;>try exact p1.elim
    all_goals cases xs<;>first|exact p1.elim|exact⟨_,_,rfl⟩)
  |(unfold XB at p1;split at p1
    ·exact⟨_,_,rfl⟩
    ·exact p1.elim)
 rw[Db]at q1;obtain⟨v0,rr,rfl,q2,q3⟩:=q1;rw[Db]at q3;subst q3;obtain⟨a,ws,rfl,c2,c9,d5⟩:=q2;obtain⟨u0,rfl,d7⟩:=ke.one rv;obtain rfl:u0=Xb a:=d7;have b0:H2 a=SY (ϯ ws):=(e2.Oh _ _ c9 c2).1;have a4:Db T G H2 (x0::xs) ws:=Db.mono e2 _ _ d5;have a0:(x0::xs).length=ws.length:=a4.length;have ia:∀ {F:Hp} {ό:Shared} {pn:List$ Addr × Obj},gb X pn st F ό->F a=SY (ϯ ws)->∃ ϋ:dN,ϋ.length=ws.length/\(∀ (j:Nat) v,ϋ[j]?=SY v->∃ w,ws[j]?=SY w/\yd w v)/\ό.heap.IsList a ϋ.toArray:=fun {F ό pn} J z=>by
  obtain⟨_,ϋ,n,rv,ho⟩:=J.Kc _ _ z;refine⟨ϋ,rv.length.symm,λj v hv=>?_,⟨_,ho,rfl,⟨_,rfl⟩⟩⟩;have hj:j<ws.length:=by rw[rv.length];exact(aa.mp hv).1
  obtain⟨u,hu,ru⟩:=rv.get (i:=j) (x:=ws[j]) (by simp[hj]);rw[hv]at hu;cases hu;exact⟨ws[j],by simp[hj],ru⟩
 have c6:∀ {E:b'} {F:Hp} {K:Ga} {ό:Shared} {d:D} {w:V} {v:Value} {I S:Addr} {oI oS:Obj} {kk:Int->M D},gb X ((q,ϲ "<lambda>" t.qual l body f (Ui X.env f.names []) ((X.mg "__name__").getD rc) c' N)::m) st F ό->Tc G H2 E F->gd T E F K->Ja T E F d w->yd w v->
   Bl X ((q,ϲ "<lambda>" t.qual l body f (Ui X.env f.names []) ((X.mg "__name__").getD rc) c' N)::m) F I->Bl X ((q,ϲ "<lambda>" t.qual l body f (Ui X.env f.names []) ((X.mg "__name__").getD rc) c' N)::m) F S->
   ό.heap.get? I=SY oI->ό.heap.get? S=SY oS->(∀ v,oI.data≠.cell v)->(∀ v,oS.data≠.cell v)->
   Vb T (XE X st) (Ja T) E F (Ic (Ms$ fe$ SY d::rest) (λk=>match k with | Z k=>kk k|_=>Ib) K) Q->
   wpAny (model X.prog X.w) X.A.in1 (call (Xb q) [v]) (λy a7=>∃ k t',y=Tl k t'/\a7.heap.get? I=SY oI/\a7.heap.get? S=SY oS/\∃ r C B,gb X ((q,ϲ "<lambda>" t.qual l body f (Ui X.env f.names []) ((X.mg "__name__").getD rc) c' N)::m) st C a7/\Tc E F r C/\gd T r C B/\
    Bl X ((q,ϲ "<lambda>" t.qual l body f (Ui X.env f.names []) ((X.mg "__name__").getD rc) c' N)::m) C I/\Bl X ((q,ϲ "<lambda>" t.qual l body f (Ui X.env f.names []) ((X.mg "__name__").getD rc) c' N)::m) C S/\Vb T (XE X st) (Ja T) r C (kk k B) Q) (λU U=>False) ό:=by
  intro E F K ό d w v I S oI oS kk J ex r' rd d8 fI fS gI gS cI cS po;generalize c5:ϲ "<lambda>" t.qual l body f (Ui X.env f.names []) ((X.mg "__name__").getD rc) c' N=ob at *;have b7:ό.heap.CodeRec (Xb c') t.qual:=by
   obtain⟨⟨o,d9,tt,h1,h2,h3⟩,_⟩:=J.Kc _ _ (ex.Oh _ _ d1 d0).1;exact⟨c',o,d9,tt,rfl,h1,h2,h3⟩
  have hq:=(J.pin (q,ob)$ Qa _$ .head _).1;have J2:gb X ((I,oI)::(S,oS)::(q,ob)::m) st F ό:=J.Ci λp hp=>by
   rcases Ba.mp hp with rfl|hp
   ·exact⟨gI,fI.1,fI.2.1,fI.2.2.1,cI⟩
   ·rcases Ba.mp hp with rfl|hp
    ·exact⟨gS,fS.1,fS.2.1,fS.2.2.1,cS⟩
    ·exact J.pin p$ Qa _ hp
  have hd:X.A.in1.handled=ń:=O.hd;refine nc (ν (A:=X.A.in1) (t:=tF T _ fe) (v:=w) (Q:=λy C=>∃ k r B,y=Ϥ k/\Tc E F r C/\gd T r C B/\Vb T (XE X st) (Ja T) r C (kk k B) Q) J2 L hx J.ok.frames hd (Gd.in1 O).depth (by rw[<-c5]at hq;exact hq) b7 (b6 _ _ _ _ _) d3 c4 d8 (hb _ _ _ _ _$ (Gd.in1 O).deeper _) ⟨E,nO ix d ρ,K,N7 ix (c8.mono ex) rd,r',?_⟩) (λy a7 d2=>?_) λU U z=>z
  ·unfold nO;rw[b8];refine po.Rt λy B r g C U b3 b9 d6 a9=>?_;cases y with
   |int k=>
    exact⟨k,r,B,d6,b3,b9,a9⟩
   |_=>exact a9.elim
  ·obtain⟨yv,C,J3,ry,k,r,B,rfl,b3,b9,a9⟩:=J2.after d2;obtain⟨t',rfl⟩:=ry;have pI:=J3.pin (I,oI)$ Qa _$ .head _;have pS:=J3.pin (S,oS)$ Qa _$ .tail _$ .head _;have J4:gb X ((q,ob)::m) st C a7:=J3.Ci λp hp=>J3.pin p$ Qa _$ .tail _$ .tail _ hp;exact⟨k,t',rfl,pI.1,pS.1,r,C,B,J4,b3,b9,⟨pI.2.1,fI.2⟩,⟨pS.2.1,fS.2⟩,a9⟩
 obtain⟨ϋ,hn,hP,d4⟩:=ia I2 b0;generalize c5:ϲ "<lambda>" t.qual l body f (Ui X.env f.names []) ((X.mg "__name__").getD rc) c' N=ob at *;refine Ĭ (n:=ws.length) (P:=λj v=>∃ w,ws[j]?=SY w/\yd w v) (λό=>gb X ((q,ob)::m) st H2 ό)
  (λI S j vb kb ό=>Bl X ((q,ob)::m) H2 I/\Bl X ((q,ob)::m) H2 S/\∃ E F K b wb,gb X ((q,ob)::m) st F ό/\Tc G H2 E F/\gd T E F K/\Ja T E F b wb/\yd wb vb/\Bl X ((q,ob)::m) F I/\Bl X ((q,ob)::m) F S/\Vb T (XE X st) (Ja T) E F (bx fe rest ((x0::xs).drop j) b kb K) Q)
  O.hd I2 hn hP d4 (by rw[<-a0];simp) (λs0 h' tk g k=>g.kept k) ?_ ?_ ?_ ?_ ?_
 ·
  rintro I S s3 v oI oS hI hS e0 ⟨s0,g0,hk,es⟩ ⟨w,hw,a6⟩ gI gS cI cS;have fI:Bl X ((q,ob)::m) H2 I:=I2.Yn hI$ I2.Kc.fresh hI;have fS:Bl X ((q,ob)::m) H2 S:=I2.Yn hS$ I2.Kc.fresh hS;have J:gb X ((q,ob)::m) st H2 s3:=by
   rw[es];exact yS g0 (λb o n U e=>hk b o n e) fI fS
  have rd:∃ w',ws[0]?=SY w'/\Ja T G H2 x0 w':=a4.get (i:=0) rfl;obtain⟨w',a3,rd⟩:=rd;rw[hw]at a3;cases a3;refine nc (c6 (kk:=λk=>bx fe rest xs x0 k) J (Ϯ _ _) r2 rd a6 fI fS gI gS cI cS$ Vb.mono e2 p1) (λy s4 z=>?_) λU U z=>z;obtain⟨k,t',rfl,b4,b5,r,C,B,J4,e4,r4,f1,f2,p4⟩:=z;exact⟨k,t',rfl,b4,b5,fI,fS,r,C,B,x0,w,J4,e4,r4,Ja.mono e4 _ _ rd,a6,f1,f2,p4⟩
 ·rintro I S j vb kb ό ⟨_,_,E,F,K,b,wb,J,ex,r',rb,ϊ,f1,f2,p'⟩;exact ia J (ex.Oh _ _ b0 c2).1
 ·rintro I S j vb kb ό h' tk ⟨a1,a2,E,F,K,b,wb,J,ex,r',rb,ϊ,f1,f2,p'⟩ k;exact⟨a1,a2,E,F,K,b,wb,yS J k f1 f2,ex,r',rb,ϊ,f1,f2,p'⟩
 ·rintro I S j vb kb ό v oI oS ⟨a1,a2,E,F,K,b,wb,J,ex,r',rb,ϊ,f1,f2,p'⟩ ⟨w,hw,a6⟩ gI gS cI cS;have hj:j<(x0::xs).length:=by rw[a0];exact(aa.mp hw).1
  obtain⟨w',a3,rd⟩:=a4.get (i:=j) (d:=(x0::xs)[j]) (by rw[xb hj]);rw[hw]at a3;cases a3;rw[kh hj]at p';generalize (x0::xs)[j]=d at *;generalize e3:(x0::xs).drop (j+1)=c1 at *;refine nc (c6 (kk:=λk=>if k<kb then bx fe rest c1 d k else bx fe rest c1 b kb) J ex r' (Ja.mono ex _ _ rd) a6 f1 f2 gI gS cI cS p') (λy s4 z=>?_) λU U z=>z;obtain⟨k,t',rfl,b4,b5,r,C,B,J4,e4,r4,f3,f4,p4⟩:=z;refine⟨k,t',rfl,b4,b5,a1,a2,r,C,B,?_⟩;by_cases hk:k<kb
  ·rw[na hk]at p4;rw[na hk,na hk];exact⟨d,w,J4,ex.trans e4,r4,Ja.mono (ex.trans e4) _ _ rd,a6,f3,f4,p4⟩
  ·rw[ya hk]at p4;rw[ya hk,ya hk];exact⟨b,wb,J4,ex.trans e4,r4,Ja.mono e4 _ _ rb,ϊ,f3,f4,p4⟩
 ·rintro I S vb kb ό ⟨_,_,E,F,K,b,wb,J,ex,r',rb,ϊ,f1,f2,p'⟩;rw[<-a0,List.drop_length]at p';have q':Q wb F:=Vb.here (R:=Ja T) p' r' rb;exact⟨wb,F,J.Ci (λp hp=>J.pin p$ Qa _$ .tail _ hp),ϊ,q'⟩
noncomputable def dy(K:ϖ)(x:Str):Addr:=((W.tabIn K x).getD (0,0)).1
noncomputable def Yw(K:ϖ)(x:Str):Addr:=((W.tabIn K x).getD (0,0)).2
noncomputable def ay(K:ϖ):Addr:=match W.nsIn K mainGlobals "__builtins__" with
 |some (SY (Xb a))=>a
 |_=>0
theorem aZ{K}(h:(W.tabIn K x).isSome=U2):W.tabIn K x=SY (dy K x,Yw K x):=by
 unfold dy Yw;cases e:W.tabIn K x with
 |none=>simp_all
 |some p=>rfl
def kM(K:ϖ)(xs:ac):Bool:=
 W.noTabs K && (match W.nsIn K mainGlobals "__builtins__" with
  |some (SY (Xb a))=>(K.lookup a).isNone && (a != builtinsNs)
  |_=>ŝ) && xs.all λx=>(W.tabIn K x).isSome && uD K (dy K x) (Yw K x)
structure ux(K:ϖ)(xs:ac):Prop where
 no:W.noTabs K=U2
 bm:W.nsIn K mainGlobals "__builtins__" = SY (SY (Xb (ay K)))
 bk:K.lookup (ay K)=ń
 bb:ay K≠builtinsNs
 tab:∀ x∈xs,W.tabIn K x=SY (dy K x,Yw K x)
 hd:∀ x∈xs,uD K (dy K x) (Yw K x)=U2
set_option tactic.hygienic true in
def B7{K}{xs}(h:kM K xs=U2):ux K xs:=by
 unfold kM at h;rw[Da,Da]at h;obtain⟨⟨f,b⟩,g⟩:=h;rcases d:W.nsIn K mainGlobals "__builtins__" with _|_|a<;>rw[d]at b<;>try cases b
 cases a<;>try cases b
 ·next a=>
  have c:ay K=a:=by unfold ay;rw[d]
  rw[Da]at b;refine⟨f,by rw[c];exact d,by rw[c];exact Option.isNone_iff_eq_none.mp b.1,by rw[c];simpa using b.2,λx e=>?_,λx e=>?_⟩
  ·have z:=Jb.mp g x e;rw[Da]at z;exact aZ z.1
  all_goals simp_all
def jH(K:ϖ)(d:Str->Option Value)(x:Str)(e:Stmt)(c:ac):Prop:=
 ∃ f a,d x=SY (Xb f)/\iJ K x x e f a/\(∀ b:dN,b.length=c.length->bindArgs a ⟨b,[]⟩=pure (c.zip b))/\a.code=Xb (dy K x)
def mkC{K:ϖ}{c xs}(X:K.In h)(G:h.Ns mainGlobals a)(i:kt K a x d c)(l:ux K xs)(m:x∈xs):jH K a x d c:=by
 obtain⟨f,p,b,F,j⟩:=i;obtain⟨q,r,kV,g,s,o,e,ct,n,rfl,lk,k⟩:=F.ex;exact⟨f,_,b,F,j,W.law_code X G (l.tab x m) b (X _ _ lk) rfl⟩
def DT{K}{st}(h:jH K i x st ps)(S:Fc N ps$ Gf st)
  (n:∀ f A b s H E,Gd k (A.deeper$ fg x (Gf st) s.heap.objs.size f$ Xb$ dy K x)->Ul ⟨K,j,tx⟩ (yp (Ol P w) P w K i a N x (Gf st) f (Xb$ dy K x) A b s H E) (Sj st) g) :
  cj ⟨K,j,tx⟩ P w i a (k+1) x ps$ ni N.length g:=by
 obtain⟨f,t,p,F,c,o⟩:=h;obtain⟨u,v,kV,m,y,r,l,ct,q,rfl,lk,d⟩:=F.ex;have e:=o;subst e;exact⟨f,_,p,F.kp,c,dC lk d S$ n f⟩
set_option tactic.hygienic true in
def Ţ{K}
  (KX:K.In f.heap) (a8:f.heap.Ns mainGlobals mg) (C:f.heap.Ns builtinsNs mb) (a4:∀ x:Str,x ≠ "__name__"->mb x=bootBuiltins x) (ϊ:f.heap.NoLimit) (hg:f.gens=#[])
  (I:f.heap.get? a=SY { cls:=Wh "list",data:=Ϧ L.toArray }) (hi:xh L p) (hl:p.length<=63) (hr:Gd k mn)
  (hK:W.noTabs K=U2) (j:f.heap.get? tx.bm=SY ob) (X:ob.cls=Wh "module") (a5:ob.dict=SY builtinsNs) (Q:ob.data=.plain) (a3:K.lookup tx.bm=ń)
  (ό:∀ t∈tx.eo,∃ c,W.CodeHd f.heap c t.P/\f.heap.get? t.P=SY (W.tabObj #[]))
  (F:∀ base:Heap,nh P w K mg base (Ol P w) k fa fd [x] (Wn ⟨K,ca,tx⟩ 1 fn)) (O:∀ s u,vf s fd ⟨[u],[]⟩ [(x,u)])
  (tr:∀ p:em,p.length<=63->∃ σ,fn [.Vi p] []=U (ϓ U2) σ) :
  codeAny (model P w) mn (.call (Xb fa) ⟨[Xb a],[]⟩) (λr B=>r=.ok (.ret$ Lj U2)/\OldK f.heap B.heap/\B.os=f.os/\vh B.gens) f:=by
 have rv:=xD hi;have ϋ:p.length<=sizeLine:=zb hl ⋯;have E:∀ N:Bool,(N=U2->K.lookup a=ń)->(N=ŝ->K.lookup a=SY { cls:=Wh "list",data:=Ϧ L.toArray })->
   codeAny (model P w) mn (.call (Xb fa) ⟨[Xb a],[]⟩) (λr B=>r=.ok (.ret$ Lj U2)/\OldK f.heap B.heap/\B.os=f.os/\vh B.gens) f:=by
  intro N a6 a7;obtain⟨H,c1,c2,c3,c4⟩:∃ H:Hp,(∀ t∈tx.eo,H t.P=SY (.ul #[]))/\(H tx.bm=SY (ϧ ob _))/\(N=U2->H a=SY (ϧ { cls:=Wh "list",data:=Ϧ L.toArray }$ ϯ$ p.map Ϥ))/\
    ∀ b u,H b=SY u->(u=.ul #[]/\∃ t∈tx.eo,b=t.P)\/(b=tx.bm/\u=ϧ ob _)\/(b=a/\N=U2/\u=ϧ { cls:=Wh "list",data:=Ϧ L.toArray } (ϯ$ p.map Ϥ)):=by
   refine⟨λb=>if b=tx.bm then SY (ϧ ob$ ϫ$ nS tx.bm)else if b=a then (if N=U2 then SY (ϧ { cls:=Wh "list",data:=Ϧ L.toArray }$ ϯ$ p.map Ϥ)else ń)else if b∈tx.eo.map (·.P)then SY (.ul #[])else ń,λt g=>?_,na rfl,λh=>?_,λb u e=>?_⟩
   ·obtain⟨c,_,l⟩:=ό t g;have n1:t.P≠tx.bm:=λz=>by rw[z,j]at l;cases l;cases X
    have n2:t.P≠a:=λz=>by rw[z,I]at l;cases l
    dsimp only;rw[ya n1,ya n2,na$ Xa.mpr ⟨t,g,rfl⟩]
   ·have n1:a≠tx.bm:=λz=>by rw[z,j]at I;cases I;cases Q
    dsimp only;rw[ya n1,na rfl,na h]
   ·dsimp only at e;split at e
    ·next a1=>cases e;exact ϕ$ ϑ ⟨a1,rfl⟩
    ·split at e
     ·next a2=>
      split at e
      ·next h=>cases e;exact ϕ$ ϕ ⟨a2,h,rfl⟩
      ·cases e
     ·split at e
      ·next hm=>cases e;obtain⟨t,g,rfl⟩:=Xa.mp hm;exact ϑ ⟨rfl,t,g,rfl⟩
      ·cases e
  have a9:Fi P w H f.heap:=λb u e=>by
   rcases c4 b u e with⟨rfl,t,g,rfl⟩|⟨rfl,rfl⟩|⟨rfl,_,rfl⟩
   ·obtain⟨c,_,l⟩:=ό t g;exact l
   ·exact⟨j,⟨ob,j,X,a5,Q⟩,⟨ob,j⟩,λh1 h2 ⟨o,e1,G⟩ k=>⟨o,k _ e1,G⟩⟩
   ·exact⟨I,by rw[Ha];exact ϋ,L,_,rv,I⟩
  have i:∀ {b:Addr} {o:Obj},f.heap.get? b=SY o->H b=ń->(Yx f.heap H).get? b=SY o:=λe n=>zl4 e n;have b1:∀ {b:Addr} {o:Obj} {es:Array eG} {ep:Nat},f.heap.get? b=SY o->o.data=.dict es ep->H b=ń:=fun {b o es ep} e d=>by
   cases q:H b with
   |none=>rfl
   |some u=>
    rcases c4 b u q with⟨_,t,g,rfl⟩|⟨rfl,_⟩|⟨rfl,_,_⟩
    ·obtain⟨c,_,l⟩:=ό t g;rw[l]at e;cases e;cases d
    ·rw[j]at e;cases e;rw[Q]at d;cases d
    ·rw[I]at e;cases e;cases d
  have S:∀ {b:Addr} {m:Str->Option Value},f.heap.Ns b m->(Yx f.heap H).Ns b m:=fun {b m} ⟨o,es,ep,e,d,r⟩=>⟨o,es,ep,i e$ b1 e d,d,r⟩
  have a0:=λb o e=>i (KX b o e) (by
   cases q:H b with
   |none=>rfl
   |some u=>
    rcases c4 b u q with⟨_,t,g,rfl⟩|⟨rfl,_⟩|⟨rfl,h,_⟩
    ·obtain⟨c,_,l⟩:=ό t g;have G:=KX _ _ e;rw[l]at G;cases G;have h2:=Jb.mp hK (t.P,_)$ W.mem_of_lookupK e;exact absurd (show ŝ=U2 from h2) qb
    ·rw[a3]at e;cases e
    ·rw[a6 h]at e;cases e)
  have hM:Mod K mg$ Yx f.heap H:=⟨a0,S a8,⟨mb,S C,a4⟩,let ⟨mc,h1,h2⟩:=ϊ;⟨mc,S h1,h2⟩⟩
  have e0:uq P w K mg (Yx f.heap H) mn [] f H:=⟨rfl,hM,λb o e=>o6 e,TF$ A6 _ _,trivial,λb C=>absurd (show b∈[]from C) ⋯,a9,.of_eq hg⟩
  have hS:wG K H a p:=by
   cases N with
   |true=>exact ϑ ⟨_,c3 rfl⟩
   |false=>exact ϕ ⟨_,L.toArray,_,a7 rfl,rfl,rfl,rfl,by rw[Ua,hi.length];exact ϋ,by simpa using rv⟩
  obtain⟨σ,ef⟩:=tr p hl;have b0:Wn ⟨K,ca,tx⟩ 1 fn [ϙ a] H (λv _=>v=Ϩ U2) λ_ _ _=>False:=by
   refine⟨[],[],[.Vi p],Db.cons (by rw[Ja];exact⟨a,rfl,hS⟩) Db.nil,rfl,⟨rfl,gz,λn o q=>by simp at q,λt g=>⟨⟨by simp,ob,c2⟩,by simp,#[],c1 t g,ϑ rfl⟩⟩,?_⟩;rw[ef];intro b3 v H' _ _ r;exact r
  refine qf ((F _).ni mn [] f H _ [Xb a] [ϙ a] _ _ hr e0 (O f$ Xb a) (Ϡ rfl Ϣ) b0) λr B h=>?_;cases r with
  |error e=>obtain⟨_,_,_,_,z⟩:=h;exact z.elim
  |ok f2=>
   cases f2 with
   |next=>exact ϱ h
   |brk=>exact ϱ h
   |cont=>exact ϱ h
   |ret u=>
    obtain⟨v,H',os,T,un,A,r',q⟩:=h;have q':v=Ϩ U2:=q;subst q';obtain rfl:u=Lj U2:=r';have J:∀ b o,f.heap.get? b=SY o->(¬ ∃ t∈tx.eo,b=t.P)->B.heap.get? b=SY o:=λb o e n=>by
     cases q:H b with
     |none=>exact un.keep b o e q (by intro z;exact absurd (show b∈[]from z) ⋯) ⋯
     |some u=>
      rcases c4 b u q with⟨_,z⟩|⟨rfl,rfl⟩|⟨rfl,_,rfl⟩
      ·exact absurd z n
      ·obtain⟨G,_⟩:=A _ _ (un.Ij _ _ _ q);rw[j]at e;cases e;exact G
      ·obtain⟨G,_⟩:=A _ _ (un.Ij _ _ _ q);rw[I]at e;cases e;exact G
    have y:∀ t∈tx.eo,∃ ps,B.heap.get? t.P=SY (W.tabObj ps):=λt g=>by
     obtain⟨b2,z⟩:=un.Kl _ _ (c1 t g);exact⟨_,A _ _ z⟩
    refine⟨rfl,⟨λb o e=>?_,λb o e=>?_⟩,os,T⟩
    ·by_cases C:∃ t∈tx.eo,b=t.P
     ·obtain⟨t,g,rfl⟩:=C;obtain⟨c,hc,l⟩:=ό t g;obtain⟨ps,R⟩:=y t g;rw[l]at e;cases e;exact ϕ$ ϑ ⟨(hc.tab l).isCodeTable,rfl,#[],ps,rfl,by rw[Array.empty_append];exact R⟩
     ·exact ϑ$ J b o e C
    ·by_cases C:∃ t∈tx.eo,b=t.P
     ·obtain⟨t,g,rfl⟩:=C;obtain⟨ps,R⟩:=y t g;exact⟨_,R⟩
     ·exact⟨o,J b o e C⟩
 cases hk:K.lookup a with
 |some o=>
  have e:=KX a o hk;rw[I]at e;cases e;exact E ŝ (λh=>by cases h) λ_=>hk
 |none=>exact E U2 (λ_=>hk) λh=>by cases h
def n8{l:W.OpenLaw}{K:Params->ϖ} xs
  (hn:l.most=SY 63) (B:d.params.defaults=[]) (hr:Gd k mn) (hY:∀ w h,H w h->(K w.params).In h)
  (hK:∀ w:Ta,kM (K w.params) xs=U2) (p:(xs.all λx=>((recsOf q).find? λe=>e.name == x).isSome)=U2)
  (F:∀ w v h,(K w.params).In h->h.Ns mainGlobals v->ux (K w.params) xs->∃ I j,(∀ t∈j,∃ x∈xs,t.P=Yw (K w.params) x)/\WL ⟨K w.params,I,⟨j,ay$ K w.params⟩⟩ l.prog w v k d.name [x] fn)
  (tr:∀ E:em,E.length<=63->∃ σ,fn [.Vi E] []=U (ϓ U2) σ) :
  W.WalkO q i S H l.row.toRowW d [] (λf R=>PySem.call f R):=by
 refine Att.cp hn B λw O Q v mb fa o pm cd a0 a R E G ϋ ho hd a2 C n c m hg=>?_;have r:=hY w _ ϋ;have TT:=B7$ hK w;obtain⟨I,j,hP,f0,a1,L,g3,g4⟩:=F w v _ r G.T.g TT;rw[C]at L;cases L;obtain⟨bm,ob,ό,b2,b3,V,X,ϊ⟩:=G.T.bmain;have J:=Es r G.T.g TT.bm;rw[ό]at J;cases J;refine Ţ r G.T.g G.T.b G.T.builtins G.T.nolimit hg n c m hr TT.no b3 V X ϊ TT.bk (λt ht=>?_) g4 (λs u=>.of_eq$ g3 [u] rfl) tr;obtain⟨y,N,e⟩:=hP t ht;have z:=Jb.mp p y N;obtain⟨d',A⟩:=Zd.mp z;have:=W.tab_of G.T r A$ TT.tab y N;rw[e];exact⟨_,this.1,this.2⟩
def uY(h:(a.P == b.P)=ŝ):∀ t∈(⟨[a,b],f⟩:Tx).eo,∀ d∈(⟨[a,b],f⟩:Tx).eo,d.P=t.P->d=t:=by
 intro t g d c e;simp at g c;rcases g with rfl|rfl<;>rcases c with rfl|rfl;all_goals simp_all
def wv(x:D)(xs:i'):M D:=λa=>match x,xs with
 | Y n,[y]=>(match Ce a n with
  |some b=>(match wf a y with
   |some zs=>if b.length+zs.length<=Uf then U Ϛ (a.set n$ ώ$ b++zs)else ϗ
   |none=>ϗ)
  |none=>ϗ)
 |_,_=>ϗ
section
variable{T:Tb}
def zfi:jC T HV wv:=by
 intro E s H t x xs v f Q r p q h;cases x with
 |ref n=>
  match xs with
  |[]=>cases h
  |[y]=>
   obtain⟨w,z,rfl,A,l⟩:=q;rw[Db]at l;subst l;unfold wv at h;cases c:Ce t n with
   |none=>simp[c]at h;exact h.elim
   |some ys=>
    simp[c]at h;cases d:wf t y with
    |none=>simp only[d]at h;exact h.elim
    |some zs=>
     simp only[d]at h;by_cases e:ys.length+zs.length<=Uf
     ·rw[na e]at h;obtain⟨a,f,rfl,k,g,i⟩:=r.ia p c;obtain⟨b,m,rfl,u,j⟩:=r.ls A d;have o:=r.write (ob:=ώ _) k ⟨_,ng,by
       have ex:Tc s H s$ Fb H a$ ϯ$ f++m:=qu (ua k) g (λB z=>by cases z) (λB B z=>by cases z);exact Db.append (Db.mono ex _ _ i)$ Db.mono ex _ _ j⟩
      exact⟨a,b,f,m,rfl,rfl,g,u,by rw[<-i.length,<-j.length];exact zy e,h _ _ _ o.1 o.2 (by rw[Ja])⟩
     ·rw[ya e]at h;exact h.elim
  |_::_::_=>exact h.elim
 |_=>exact h.elim
end
section
variable{x y:Str}{p pos:Vd}{ss:ac}
def iP(e:Gl X x)(b:YE T.K X.mg x ss)(d: ~~~((x == ("__debug__" : Str))=ŝ)):FE T X (ϛ x p)$ eC$ .gt ss:=by
 obtain⟨a,f,c⟩:=b;exact RB (NI e f (v:=ϙ a) rfl d) λg g=>by rw[Ja];exact⟨a,rfl,c⟩
def cj.alias(h:cj T P w b a k x ps c)(e:b y=b x):cj T P w b a k y ps c:=by
 obtain⟨f,d,g,i⟩:=h;exact⟨f,d,e.trans g,i⟩
end
section
variable{T:Tb}{μ μ':b'}{H H':Hp}{σ:Ga}{a:Addr}
mutual
theorem Ja.chg(j:∀ b,b≠a->H' b=H b)(l:a∈μ)(r:∀ xs,H a≠SY (.nb xs))(s:∀ o xs,H a≠SY (ϧ o$ ϯ xs)):∀ (d:D) (v:V),Ja T μ H d v->Ja T μ H' d v
 | Ϛ,v,h=>by simpa [Ja]using h
 | ϓ b,v,h=>by simpa [Ja]using h
 | Z i,v,h=>by simpa [Ja]using h
 | ϐ x,v,h=>by simpa [Ja]using h
 | ϒ ds,v,h=>by
  rw[Ja]at h ⊢;obtain⟨p,m,g,e,k⟩:=h;exact⟨p,m,g,by rw[j p (λz=>r _ (by rw[<-z];exact e))];exact e,Db.chg j l r s ds m k⟩
 | .Vi ns,v,h=>by
  rw[Ja]at h ⊢;obtain⟨p,g,e⟩:=h;refine⟨p,g,?_⟩;rcases e with⟨o,e⟩|e
  ·exact ϑ ⟨o,by rw[j p (λz=>s _ _ (by rw[<-z];exact e))];exact e⟩
  ·exact ϕ e
 | Y n,v,h=>by rw[Ja]at h ⊢;exact h
 | ύ ds,v,h=>by
  rw[Ja]at h ⊢;obtain⟨p,m,g,f,e,k⟩:=h;exact⟨p,m,g,f,by rw[j p (λz=>f (by rw[z];exact l))];exact e,Db.chg j l r s ds m k⟩
 | Ϭ ks ds,v,h=>by
  rw[Ja]at h ⊢;obtain⟨p,m,g,f,e,t,k⟩:=h;exact⟨p,m,g,f,by unfold Rd at e ⊢;rw[j p (λz=>f (by rw[z];exact l))];exact e,t,Db.chg j l r s ds _ k⟩
 | ϵ c ns ds,v,h=>by
  rw[Ja]at h ⊢;obtain⟨p,A,m,g,f,e,t,k⟩:=h;exact⟨p,A,m,g,f,by rw[j p (λz=>f (by rw[z];exact l))];exact e,t,Db.chg j l r s ds _ k⟩
 | .Bv c,v,h=>by
  rw[Ja]at h ⊢;obtain⟨p,y,g,f,e,k⟩:=h;refine⟨p,y,g,f,by rw[j p (λz=>f (by rw[z];exact l))];exact e,λn q=>?_⟩;obtain⟨u,B,w,C⟩:=k n q;exact⟨u,B,w,by rw[j u (λz=>w (by rw[z];exact l))];exact C⟩
 | .gt ss,v,h=>by rw[Ja]at h ⊢;exact h
theorem Db.chg(j:∀ b,b≠a->H' b=H b)(i:a∈μ)(f:∀ xs,H a≠SY (.nb xs))(g:∀ o xs,H a≠SY (ϧ o$ ϯ xs)):∀ (c:i') (e:h8),Db T μ H c e->Db T μ H' c e
 |[],e,h=>by simpa [Db]using h
 |d::c,e,h=>by
  rw[Db]at h ⊢;obtain⟨v,r,k,l,m⟩:=h;exact⟨v,r,k,Ja.chg j i f g d v l,Db.chg j i f g c r m⟩
end
def JH(i:∀ b,b≠a->H' b=H b)(g:a∈μ)(e:∀ xs,H a≠SY (.nb xs))(f:∀ o xs,H a≠SY (ϧ o$ ϯ xs)){xs}{d}(h:Paired (λ p q =>p.1=q.1/\Ja T μ H p.2 q.2) xs d) :
  Paired (λ(p:c × D) (q:c × V)=>p.1=q.1/\Ja T μ H' p.2 q.2) xs d:=L2.Paired.Mr h λp q z=>⟨z.1,Ja.chg i g e f _ _ z.2⟩
theorem Tn.chg(d:∀ b,b≠a->H' b=H b)(i:a∈μ)(f:∀ xs,H a≠Option.some (.nb xs))(g:∀ o xs,H a≠Option.some (ϧ o$ ϯ xs))(j:b≠a):∀ {o:Ob},Tn T μ H b o->Tn T μ H' b o
 | ώ ds,⟨e,h,r⟩=>⟨e,(d b j).trans h,Db.chg d i f g _ _ r⟩
 | Ϗ k,⟨e,h,r⟩=>⟨e,(d b j).trans h,JH d i f g r⟩
 | ϔ c n,⟨l,e,h,r⟩=>⟨l,e,(d b j).trans h,JH d i f g r⟩
 | ϥ k,⟨m,e,h,r⟩=>⟨m,e,(d b j).trans h,JH d i f g r⟩
def gd.chg(r:gd T μ H σ)(f:∀ b,b≠a->H' b=H b)(g:μ[n]?=SY a)(i:∀ xs,H a≠SY (.nb xs))(j:∀ o xs,H a≠SY (ϧ o$ ϯ xs))(l:Tn T μ H' a ob):gd T μ H'$ σ.set n ob:=by
 have e:=ua g;refine⟨by simp[r.len],r.nd,λm x h=>?_,r.tb.out f$ ϑ e⟩;rw[Jf]at h;by_cases c:n=m
 ·subst c
  simp_all
 ·rw[ya c]at h;obtain⟨b,d,k⟩:=r.obs m x h;exact⟨b,d,k.chg f e i j (λz=>c (by subst z;exact zI r.nd g d))⟩
end
def _root_.L2.gb.gx{st}(I:gb X d st H s)(f:H a=SY (ϧ t$ ϝ g))(l:∀ o u,X.H₀ a≠SY (ϧ o u)):gb X d st (Fb H a$ ϝ g) s:=by
 have i:∀ b u,H b=SY u->(∀ o w,u≠ ϧ o w)->b≠a:=λb u q n z=>by rw[z,f]at q;exact n _ _ (Ub q).symm
 refine⟨I.ok,I.os,I.bare,⟨I.base.keep,I.base.slot,λb o e n r=>?_,I.base.there,λb xs e=>?_,λb o u e=>?_,λb ps e=>?_⟩,I.loc,I.cell,?_,λx c e=>?_,λp m=>?_,λb u e=>?_,I.len⟩
 ·have:=I.base.free b o e n r;rw[ee (λz=>by rw[z,f]at this;cases this)];exact this
 ·have:=I.base.xm b xs e;rw[ee$ i b _ this (λC C z=>by cases z)];exact this
 ·have:=I.base.Ij b o u e;rw[ee (λz=>l o u ⋯)];exact this
 ·obtain⟨h,this⟩:=I.base.Kl b ps e;exact⟨h,by rw[ee$ i b _ this (λC C z=>by cases z)];exact this⟩
 ·rw[ee (λz=>by have:=I.free;rw[z,f]at this;cases this)];exact I.free
 ·have:=I.Gg x c e;rw[ee (λz=>by rw[z,f]at this;cases this)];exact this
 ·obtain⟨A,j,B⟩:=I.pin p m;exact⟨A,by rw[ee (λz=>by rw[z,f]at j;cases j)];exact j,B⟩
 ·by_cases k:b=a
  ·subst k;rw[ng]at e;cases e;exact(I.Kc b _ f).2
  ·rw[ee k]at e;refine(I.Kc b u e).Yj (λc v C z=>z) (λc z=>?_) λc xs z=>?_
   ·rw[ee$ i c _ z (λC C y=>by cases y)];exact z
   ·rw[ee$ i c _ z (λC C y=>by cases y)];exact z
section
variable{elts:List Na}{kk:Nat}{p0:Vd}
def zK(o:H a=SY (ϧ l$ ϝ c))(s:gi T m H f c):Sz T m H (xr f)$ Itm a l c:=by
 intro v A w i ex t;have h:=ex.ud _ _ _ o;have e:=gi.mono ex s;unfold xr;cases n:f[i]? with
 |none=>
  by_cases j:i=f.length
  ·rw[na j];exact⟨h,by rw[j];exact Paired.length e⟩
  simp_all
 |some p=>
  obtain⟨q,k,g,u⟩:=qG e i n;refine⟨⟨h,q,k⟩,λz x y=>?_⟩;obtain⟨r,B,C,b,rfl,d,rfl⟩:=y;rw[k]at d;cases d;refine⟨Zj b,t.fresh b,?_⟩;rw[Ja,g];exact⟨r,_,rfl,ng,Db.cons (zL _)$ Db.cons (Ja.mono (Zj b) _ _ u) Db.nil⟩
def LH(d:D):M NX:=λb=>match d with
 | Ϭ ks xs=>if ks.length=xs.length then U (xr$ ks.zip xs) b else ϗ
 | Y n=>(match b[n]? with
  |some (Ϗ a)=>U (xr a) (b.set n$ ϥ a)
  |some (ϥ a)=>U (xr a) b
  |_=>ϗ)
 |_=>ϗ
def Rx(f:Ev->M D):Ev->M NX:=λa=>Ic (f a) LH
def Ù(h:FE T X e f)(G:(Ad e "items" X.env (Mb e X.env)=Mb e X.env)⁻¹)(J:((x.endLine == A.line)=U2)⁻¹) :
  Zq T X (ϰ elts kk p0) (ϟ (Ϝ e "items" x) [] [] A)$ Rx f:=by
 intro Q s st H R I hw;refine LV (MQ pf rh Pn sU h G J) Q s st H R I ?_;obtain⟨μ,ρ,σ,hE,hr,hp⟩:=hw;refine⟨μ,ρ,σ,hE,hr,hp.bind λd w c v i b e1 V q1 p=>?_⟩;unfold LH at p;cases d with
 |Pa ks xs=>
  dsimp only at p;by_cases hl:ks.length=xs.length
  ·rw[na hl]at p;obtain⟨a,j,rfl,ό,q,ϊ,a0⟩:=q1;refine⟨⟨a,j,rfl,q⟩,a,j,rfl,rfl,q,λl g=>?_⟩;have t:a≠l:=by rcases q with q|⟨_,q⟩<;>exact zev q g
   have ϋ:Rd (Fb i l$ ϫ$ mq l a) a$ ϝ j:=by unfold Rd;rw[ee t];exact q
   refine⟨l,a,j,rfl,ng,ϋ,λN m=>?_⟩;have C:Tc c i c$ Fb i l$ ϫ$ mq l a:=Zj g;have k:gd T c (Fb i l$ ϫ$ mq l a) w:=V.fresh g;obtain⟨x2,a1⟩:Tc c i c _/\gd T c _ w:=by
    rcases m with m|m
    ·have y:=PR (μ:=c) (od:=N) m;exact⟨C.trans y,k.keep y (λb W=>ee (λz=>ό (by rw[<-z];exact W)))$ k.tb.out (λb W=>ee W)$ ϕ ⟨_,m⟩⟩
    ·rw[pB m];exact⟨C,k⟩
   exact Vb.here (Vb.mono x2 p) a1$ zK ng$ gi.mono x2$ lI ϊ a0
  ·rw[ya hl]at p;exact p.elim
 |ref n=>
  dsimp only at p;cases S:w[n]? with
  |none=>rw[S]at p;exact p.elim
  |some o=>
   rw[S]at p;obtain⟨a,rfl,ό,P⟩:=V.at q1 S;cases o with
   |Pa j=>
    obtain⟨u,E,K⟩:=P;have q:Rd i a _:=ϑ E;refine⟨⟨a,u,rfl,q⟩,a,u,rfl,rfl,q,λl g=>?_⟩;have t:=zev E g;have r:Fb i l (ϫ$ mq l a) a=SY (ϝ u):=by rw[ee t];exact E
    refine⟨l,a,u,rfl,ng,ϑ r,λN b=>?_⟩;have C:Tc c i c$ Fb i l$ ϫ$ mq l a:=Zj g;have k:gd T c (Fb i l$ ϫ$ mq l a) w:=V.fresh g;have O:Tc c _ c$ Fb _ a$ ϧ N$ ϝ u:=qu (ua ό) r (λb z=>by cases z) (λb b z=>by cases z);have B:=gi.mono (C.trans O) K;exact Vb.here (Vb.mono (C.trans O) p) (k.write (ob:=ϥ j) ό ⟨N,u,ng,B⟩$ λkv z=>by rw[S]at z;cases z).2$ zK ng B
   |vc j=>
    obtain⟨L,u,E,K⟩:=P;have q:Rd i a _:=ϕ ⟨L,E⟩;refine⟨⟨a,u,rfl,q⟩,a,u,rfl,rfl,q,λl g=>?_⟩;have t:a≠l:=zev E g;have r:Fb i l (ϫ$ mq l a) a=SY (ϧ L$ ϝ u):=by rw[ee t];exact E
    refine⟨l,a,u,rfl,ng,ϕ ⟨L,r⟩,λN m=>?_⟩;have C:Tc c i c$ Fb i l$ ϫ$ mq l a:=Zj g;have k:gd T c (Fb i l$ ϫ$ mq l a) w:=V.fresh g;rcases m with m|m
    ·rw[r]at m;cases m
    ·rw[pB m];exact Vb.here (Vb.mono C p) k$ zK m$ gi.mono C K
   |_=>exact p.elim
 |_=>exact p.elim
noncomputable def eF{c:Type}(ok:c->Bool)(n:Nat):Ck c->Ck c
 | U a σ=>if ok a=U2 then (match σ[n]? with
  |some (ϥ b)=>U a (σ.set n$ Ϗ b)
  |_=>ϗ)else ϗ
 |_=>ϗ
noncomputable def ZH{b:Type}(ok:b->Bool)(m:M D)(g:M b):M b:=λa=>match m a with
 | U (Y n) _=>(match a[n]? with
  |some (Ϗ _)=>eF ok n (g a)
  |_=>g a)
 |_=>g a
noncomputable def fL:Fl->Bool
 | .xc _ _=>ŝ
 |_=>U2
def Av(f:Ev->M D)(g:Ev->M Fl):Ev->M Fl:=λρ=>ZH fL (f ρ)$ g ρ
def HY(ex:Tc e H b c)(i:a∈e)(f:H a=SY (ϝ d))(k:c a=SY (ϧ j$ ϝ g)):Tc e H b$ Fb c a$ ϝ g:=by
 refine⟨ex.pre,λp xs h=>?_,λp o u h=>?_,λp o h n=>?_⟩
 ·rw[ee (λz=>by rw[z,f]at h;cases h)];exact ex.nb p xs h
 ·rw[ee (λz=>by rw[z,f]at h;cases h)];exact ex.ud p o u h
 ·rw[ee (λz=>n ⋯)];exact ex.keep p o h n
def B6(D:y[n]?=SY a)(I:H a=SY (ϝ v))
  (G:∀ c e (d:s) (g:w) k f,a∈c->e a=SY (ϧ k$ ϝ f)->ok d=U2->R c e d g->R c (Fb e a$ ϝ f) d g) (h:Vb T E R y H (eF ok n o) Q) :
  Vb T E R y H o (λg e=>∃ k f,e a=SY (ϧ k$ ϝ f)/\Q g (Fb e a$ ϝ f)/\∃ c d,ok d=U2/\R c e d g):=by
 cases o with
 |Ib=>exact h
 |ex x q=>trivial
 |ok d q=>
  unfold eF at h;dsimp only at h;by_cases i:ok d=U2
  ·rw[na i]at h;cases t:q[n]? with
   |none=>rw[t]at h;exact h.elim
   |some ob=>
    rw[t]at h;cases ob with
    |vc K=>
     intro c g e ex r F;apply b_;intro z_;obtain⟨a',m,k,f,p,u⟩:=r.obs n _ t;have j:=ex.get D;rw[j]at m;cases m;have l:=ua j;have C:∀ b,b≠a->Fb e a (ϝ f) b=e b:=λb J=>ee J;have A:∀ xs,e a≠SY (.nb xs):=λxs z=>by rw[p]at z;cases z
     apply z_;have B:∀ o xs,e a≠SY (ϧ o$ ϯ xs):=λo xs z=>by rw[p]at z;cases z
     exact⟨k,f,p,h c g _ (HY ex (ua D) I p) (r.chg C j A B ⟨f,ng,JH C l A B u⟩)$ G c e d g k f l p i F,c,d,i,F⟩
    |_=>exact h.elim
  ·rw[ya i]at h;exact h.elim
def dJ(f:a∈c)(g:e a=SY (ϧ k$ ϝ i)) d v(h:Ja T c e d v):Ja T c (Fb e a$ ϝ i) d v:=
 Ja.chg (λb j=>ee j) f (λxs z=>by rw[g]at z;cases z) (λo xs z=>by rw[g]at z;cases z) d v h
set_option tactic.hygienic true in
def NV(h:FS T X s g):FS T X s$ Av f g:=by
 intro t N st H D I l;obtain⟨O,ρ,P,K,G,A⟩:=l;have p:=λq=>h t N st H D I ⟨O,ρ,P,K,G,q⟩;unfold Av ZH at A;split at A
 ·rename_i n _ _
  split at A
  ·rename_i ό Q
   obtain⟨a,S,W,L,_⟩:=G.obs n _ Q;have F:∀ o u,X.H₀ a≠SY _:=λo u z=>by have:=I.base.Ij a o u z;rw[L]at this;cases this
   have q:=B6 S L (λJ e d y k c r j x m=>by
    cases d with
    |xc _ _=>cases x
    |nx E=>cases y<;>first|exact m.elim|exact⟨m.1,λi d q=>let ⟨v,B,C⟩:=m.2 i d q;⟨v,B,dJ r j _ _ C⟩⟩
    |bk E=>cases y<;>first|exact m.elim|exact⟨m.1,λi d q=>let ⟨v,B,C⟩:=m.2 i d q;⟨v,B,dJ r j _ _ C⟩⟩
    |ct E=>cases y<;>first|exact m.elim|exact⟨m.1,λi d q=>let ⟨v,B,C⟩:=m.2 i d q;⟨v,B,dJ r j _ _ C⟩⟩
    |rt ϋ=>cases y<;>first|exact m.elim|exact dJ r j _ _ m) A
   refine nc (h t N st H ⟨λb e=>∃ k c,e a=SY (ϧ k$ ϝ c)/\D.nx b (Fb e a$ ϝ c),λv e=>∃ k c,e a=SY (ϧ k$ ϝ c)/\D.rt v (Fb e a$ ϝ c),λb e=>∃ k c,e a=SY (ϧ k$ ϝ c)/\D.bk b (Fb e a$ ϝ c),λb e=>∃ k c,e a=SY (ϧ k$ ϝ c)/\D.ct b (Fb e a$ ϝ c)⟩ I ⟨O,ρ,P,K,G,q.imp λy e z=>?_⟩) (λR ϊ z=>?_) λ_ _ z=>z
   ·apply b_;intro z_;obtain⟨k,c,j,l,J,d,x,m⟩:=z;apply z_;cases y with
    |nx b=>exact⟨k,c,j,l⟩
    |rt v=>exact⟨k,c,j,l⟩
    |bk b=>exact⟨k,c,j,l⟩
    |ct b=>exact⟨k,c,j,l⟩
    |xc b cls fd=>cases d<;>first|exact m.elim|cases x
   ·cases R with
    |next=>obtain⟨b,e,w,k,c,j,l⟩:=z;exact⟨b,_,w.gx j F,l⟩
    |brk=>obtain⟨b,e,w,k,c,j,l⟩:=z;exact⟨b,_,w.gx j F,l⟩
    |cont=>obtain⟨b,e,w,k,c,j,l⟩:=z;exact⟨b,_,w.gx j F,l⟩
    |ret u=>obtain⟨v,b,e,w,V,k,c,j,l⟩:=z;exact⟨v,b,_,w.gx j F,V,l⟩
  ·exact p A
 ·exact p A
end
noncomputable def zG(d:Addr)(b:Obj)(a:List$ Vc × V):It:=
 ⟨λi H=>H d=SY (ϧ b$ ϝ a)/\∃ x,a[i]?=SY x,λi H v c=>c=H/\∃ k x,v=kV k/\a[i]?=SY (k,x),λi H=>H d=SY (ϧ b$ ϝ a)/\i=a.length⟩
def L8{P:Aa}{w:Ta}{K:ϖ}{tg:Na}(d f:Addr)(ό:Obj)(p:List$ Vc × V)(a0:d≠f){es:Array eG}{R:Nat}(n:ό.data=.dict es R) :
  jo P w K tg (zG d ό p) [f] f (λi h=>h.IsKeyIter f d i p.length R) where
 mem:=by simp
 obj:=λi h st b j=>by
  obtain rfl:b=f:=by simpa using j
  obtain⟨o,e,c,Q⟩:=st
  simp_all
 keep:=λi h h' st k=>st.at λo e=>k f ⋯ o e
 item:=by
  intro X F N D S i g s ϋ H E I r st J;subst F N D;obtain⟨G,⟨k,x⟩,T⟩:=J;obtain⟨vs,v,t,a,l,L⟩:=NB I G;rw[n]at l;cases l;obtain⟨u,hu,ru⟩:=HL a i T;rw[a.length]at st;obtain⟨y,z,f2,A,B,C⟩:=r f ⋯;refine wpAny_pyNext_dict_item st L hu λO h' m q M=>?_;have ϊ:gb X g ϋ H { s with heap:=h' }:=I.turned (λb o j e=>M.extBut b o j e) y z A B C;obtain⟨o,e,c,Q⟩:=id q;exact⟨O,rfl,HI e c Q ⋯ ⟨kV k,H,ϊ,WQ m,⟨rfl,k,x,rfl,T⟩,by rw[a.length];exact q,λb j=>(r b j).1⟩⟩
 done:=by
  intro X F N D S i g s ϋ H E I r st J;subst F N D;obtain⟨G,hi⟩:=J;obtain⟨vs,v,t,a,l,L⟩:=NB I G;rw[n]at l;cases l;rw[a.length]at st hi;obtain⟨y,z,f2,A,B,C⟩:=r f ⋯;exact wpAny_pyNext_dict_end (I.ok.hd S) st L ⋯ λh' eb=>⟨rfl,I.turned (λb o j e=>eb b o j e) y z A B C⟩
 self:=λU U U U U st h=>wpAny_pyIter_keyiter st h
noncomputable def CD(a:List$ Vc × D):NX:=λi b=>match a[i]? with
 |some p=>SY (SY$ sA p.1)
 |none=>if i=a.length then SY ń else ń
def gJ(d:D):M NX:=λb=>match d with
 | Y n=>(match b[n]? with
  |some (Ϗ a)=>U (CD a) (b.set n$ ϥ a)
  |some (ϥ a)=>U (CD a) b
  |_=>ϗ)
 |_=>ϗ
def jG(f:Ev->M D):Ev->M NX:=λa=>Ic (f a) gJ
section
variable{tg:Na}
def aT(n:H a=SY (ϧ k$ ϝ b))(o:gi T l H e b):Sz T l H (CD e)$ zG a k b:=by
 intro s v t i ex r;have g:=ex.ud _ _ _ n;have d:=gi.mono ex o;unfold CD;cases m:e[i]? with
 |none=>
  by_cases h:i=e.length
  ·rw[na h];exact⟨g,by rw[h];exact Paired.length d⟩
  simp_all
 |some p=>
  obtain⟨q,j,f,x⟩:=qG d i m;refine⟨⟨g,q,j⟩,λz u y=>?_⟩;obtain⟨rfl,w,A,rfl,c⟩:=y;rw[j]at c;cases c;exact⟨Ϯ _ _,r,by rw[f];exact zL _⟩
def Ú(e:TE):TI:=λf H R=>e f H λv c=>∃ a b,v=ϙ a/\Rd c a (ϝ b)/\∀ d,c a=SY (ϝ b)\/c a=SY (ϧ d$ ϝ b)->R (zG a d b) (Fb c a$ ϧ d$ ϝ b)
def Đ(A:PE X d p):PI X tg d$ Ú p:=by
 intro g s r H R I h;refine pd (A g s r H _ I h) λv s1 ſ=>?_;obtain⟨x,H1,k,D,C⟩:=ſ;obtain⟨a,i,rfl,c,q⟩:=C;cases D;obtain⟨_,B,_⟩:=mu k.Kc c;obtain⟨f,m,l⟩:∃ f,(H1 a=SY _\/H1 a=SY (ϧ f _))/\gb X g r (Fb H1 a$ ϧ f _) s1:=by
  rcases c with c|⟨f,c⟩
  ·obtain⟨_,_,E,j,o,w,u,e,_⟩:=k.Kc a _ c;exact⟨o,ϑ c,k.freeze c e⟩
  ·exact⟨f,ϕ c,by rw[pB c];exact k⟩
 obtain⟨E,w,u,j,t,n⟩:=NB l ng;refine wpAny_pyIter_dict B n ⟨s1.heap.objs.size,[s1.heap.objs.size],_,zG a f i,_,rfl,l.kept (λb o e=>da _ e),L8 a _ f i (za n.lt_size) t,by rw[j.length];exact⟨_,uI _ _ (λz=>by cases z),rfl,rfl⟩,λb y=>?_,q f m⟩;obtain rfl:b=s1.heap.objs.size:=by simpa using y
 exact l.Yn (wa _)$ l.Kc.fresh$ wa _
def UY(h:FE T X e f):Zq T X tg e$ jG f:=by
 intro p s K H R I G;refine Đ h p s K H R I ?_;obtain⟨L,ρ,N,C,F,E⟩:=G;refine⟨L,ρ,N,C,F,E.bind λd y r v A D O x J b=>?_⟩;unfold gJ at b;cases d with
 |ref n=>
  dsimp only at b;cases t:y[n]? with
  |none=>rw[t]at b;exact b.elim
  |some o=>
   rw[t]at b;obtain⟨a,rfl,B,l⟩:=x.at J t;cases o with
   |Pa m=>
    obtain⟨q,k,i⟩:=l;refine⟨a,q,rfl,ϑ k,λu D=>?_⟩;have j:Tc r A r$ Fb A a$ ϧ u$ ϝ q:=qu (ua B) k (λD z=>by cases z) (λD D z=>by cases z);have c:=gi.mono j i;exact Vb.here (Vb.mono j b) (x.write (ob:=ϥ m) B ⟨u,q,ng,c⟩$ λP z=>by rw[t]at z;cases z).2$ aT ng c
   |vc m=>
    obtain⟨w,q,k,i⟩:=l;refine⟨a,q,rfl,ϕ ⟨w,k⟩,λu g=>?_⟩;rcases g with g|g
    ·rw[k]at g;cases g
    ·rw[pB g];exact Vb.here b x$ aT g i
   |_=>exact b.elim
 |_=>exact b.elim
end
def uF(x y:D):M D:=λa=>match wf a x,wf a y with
 |some xs,SY b=>if xs.length+b.length<=Uf then dA (xs++b) a else ϗ
 |_,_=>ϗ
def Ů:Dg X (Nd .Add)$ rD T uF:=by
 rintro b s st H v u z w Q I t o ⟨E,D,h,x,y,r,m,n,a⟩;unfold uF at a;cases c:wf h x with
 |none=>rw[c]at a;exact a.elim
 |some xs=>
  cases d:wf h y with
  |none=>rw[c,d]at a;exact a.elim
  |some C=>
   rw[c,d]at a;dsimp only at a;by_cases e:xs.length+C.length<=Uf
   ·rw[na e]at a;obtain⟨p,A,rfl,i,f⟩:=r.ls m c;obtain⟨q,B,rfl,j,g⟩:=r.ls n d;exact sP b s st H _ _ z w Q I t o ⟨p,q,A,B,rfl,rfl,i,j,by rw[<-f.length,<-g.length];exact zy e,λl k=>oC a r (Db.append f g) k⟩
   ·rw[ya e]at a;exact a.elim
def Mz:Ul T X a zr:=by rintro pins s st H D I ⟨c,d,σ,_,_,b⟩;exact b.elim
open Classical in
noncomputable def xG(a b:i'):M$ i':=ret$ b++a
def rC(a:i')(b:Ev->M (i')):Ev->M (i'):=λc=>Ic (b c)$ xG a
def zla(hm:X.mg x=SY (Xb$ T.ca c))(y:Mk T.K (T.ca c) f)(O:Wq T.K L ps b)
  (N:nh X.prog X.w T.K X.mg X.base (Ol X.prog X.w) k f L ps$ Wn T ps.length h) (hv:ke d b) (B:∀ u H,Db T u H a d) (S:T.K=X.K) (hr:Gd (k+1) X.A) (ϊ:Gl X x)
  (ό:FA T X (e::l) i) (z: ~~~((x == ("__debug__" : Str))=ŝ)) (ϋ:(qa (e::l) X.env=(ŝ,Mb e X.env)::qa l X.env)⁻¹) (E:((Zb g$ qa l X.env).any (·.1)=ŝ)⁻¹) :
  FE T X (ϟ (ϛ x p) (e::l) [] g)$ Dq c ps.length h$ rC a i:=by
 rw[S]at y N O;rintro m s st H Q I ⟨u,ρ,n,R,F,hp⟩;have C:Vb T (XE X st) (Ja T) u H (Ic (i ρ) (λo=>Jl c ps.length h$ o++a) n) Q:=by
  have:Dq c ps.length h (rC a i) ρ n=Ic (i ρ) (λo=>Jl c ps.length h$ o++a) n:=by
   unfold Dq rC xG Ic;cases i ρ n<;>rfl
  simp_all
 refine Pe$ pA I ϊ hm (fh I.ok.mod.fw y.kp (pd (ό g m s st H (λG j=>∀ x t,j x=ń->j t=ń->t≠x->Wn T ps.length h (ϙ x::(G++d)) (Fb (Fb j t$ .own x) x$ .Eb (T.ca c) t []) (λv P=>v=.Nb/\Q (ϙ x) P) (XE X st)) I ⟨u,ρ,n,R,F,C.bind λo a1 a0 G j D e1 r1 p1 q1=>?_⟩) λus s1 ⟨G,j,J,r,q⟩=>⟨J.Li,?_⟩) ϋ E) z
 ·have:=xX r1 (Db.append p1$ B _ _) q1
  grind
 ·exact MT y N hr O hv J r q
def Ř(C:X.mg x=SY (Xb$ T.ca c))(t:Mk T.K (T.ca c) f)(h:Mv T X.prog X.w X.mg X.base k f ps n o)(y:a=[]\/a=n)(F:ke d a)(l:∀ G H,Db T G H b d)(s:T.K=X.K)(E:Gd (k+1) X.A)(B:Gl X x)
  (u:FA T X (e::g) q) (j: ~~~((x == ("__debug__" : Str))=ŝ)) (z:(qa (e::g) X.env=(ŝ,Mb e X.env)::qa g X.env)⁻¹) (m:((Zb i$ qa g X.env).any (·.1)=ŝ)⁻¹) :
  FE T X (ϟ (ϛ x p) (e::g) [] i)$ Dq c ps.length o$ rC b q:=by
 obtain⟨I,J,v,r⟩:=h;exact zla C t (by rcases y with rfl|rfl<;>assumption) r F l s E B u j z m
def K1(h:NH T f g c J):Sz T f g c.nx J:=λl H j i ex r=>by
 have q:=h l H j i ex r;cases e:c.nx i j with
 |none=>trivial
 |some o=>
  rw[e]at q;cases o with
  |none=>exact q
  |some d=>exact⟨q.1,λx k y=>let ⟨a,b⟩:=q.2 x k y;by subst a;exact⟨Ϯ _ _,r,b⟩⟩
noncomputable def eD(s:Qg):M NX:=ret s.nx
def Jj(f:Ev->M Qg):Ev->M NX:=λa=>Ic (f a) eD
def U1(h:FI T X tg a f):Zq T X tg a$ Jj f:=by
 rintro b s l H R I ⟨m,ρ,o,c,e,d⟩;exact h b s l H R I ⟨m,ρ,o,c,e,d.bind λk p n J q k r j i g=>Vb.here g j$ K1 i⟩
def zg0{K}
  (hN:X.N.Nodup) (hi:X.N[i]?=SY y) (hx:Loc X.env.scope y)
  (hc:X.Lb=U2) (L:ak X x M' ix f) (V:Zq T X A l O)
  (b5:∀ cl C j h ex,FG T (Lo X (x::z0::M') f cl C j h ex) A tg)
  (a8:∀ cl C j h ex,Tw T (Lo X (x::z0::M') f cl C j h ex) K fi)
  (S:∀ cl C j h ex,FE T (Lo X (x::z0::M') f cl C j h ex) F fe)
  (hs:∀ y,je l X.env y=pure y:=by intro _;rfl)
  (b3:(Ig (ϳ F [⟨A,l,K,0⟩] f a0) (SY$ ϛ y py) E.line X.env=pure U2)⁻¹)
  (hf:X.fn y=U2\/X.env.scope.names.lookup y=SY .local:=by first|exact .inl rfl|exact .inr rfl|assumption) :
  FS T X (Ϻ [ϛ y py] (ϳ F [⟨A,l,K,0⟩] f a0) E)$ de i$ Ei O ix tg fi fe:=by
 rintro B s st H D I ⟨μ,ρ,σ,hE,hr,b1⟩;have hp:Vb T _ _ μ H (Ei O ix tg fi fe ρ σ) (λv Q=>D.nx _ Q):=b1.xs hE λd a3 a2 v Q d e1 r1 q1 p1=>Vb.here (g:=ϸ$ st.set i$ SY v) p1 r1$ (hE.mono e1).set i q1;rw[exec_Assign_Name_used _ _ _ _ b3];refine ba$ Zr$ ba ?_;refine ba (nc (Js rfl hs (DN X.env f$ fA I L) L.kind (λy hy e=>?_)
  ?_) (λd s' hq=>ga$ ga hq) λd d e=>e)
 ·have q:=Jb.mp L.names y hy;rw[e]at q;exact eq_of_beq q
 have h1:=V B s st H (λJ t=>∃ nx k a4,Tc μ H k t/\gd T k t a4/\Sz T k t nx J/\Vb T (XE X st) (Ja T) k t _ (λv Q=>D.nx (st.set i$ SY v) Q)) I
  ⟨μ,ρ,σ,hE,hr,hp.bind λnx a3 a2 J Q d e1 r1 q1 p1=>⟨nx,a2,a3,e1,r1,q1,p1⟩⟩
 refine pd h1 λv s1 h2=>pd h2 λb8 s2 h3=>?_;obtain⟨it,fp,tn,J,t,rfl,I2,TT,a1,f2,nx,k,a4,a5,r2,so,p2⟩:=h3;refine Dc$ vk (fD L) (by intro y hy;simp at hy) (λW u w=>?_) L.kind;have P:=I2.gA (t':=s2.toks) Ϣ ⋯;have R:t s2.heap.objs.size=ń:=I2.Kc.fresh$ wa _;have G:Tc k t (k++[s2.heap.objs.size])$ Fb t s2.heap.objs.size$ ϯ []:=Dw R;have b4:s2.heap.objs.size<(s2.heap.push { cls:=Wh "list",data:=Ϧ [].toArray }).objs.size:=by rw[Oc];exact Qb _
 have kp:∀ b o,(s2.heap.push { cls:=Wh "list",data:=Ϧ [].toArray }).get? b=SY o->W.get? b=SY o:=λb o e=>w.extBut b o (za$ xa e)$ da _ e;have n:∀ b∈fp,Bl X B (Fb t s2.heap.objs.size$ ϯ []) b/\b<(s2.heap.push { cls:=Wh "list",data:=Ϧ [].toArray }).objs.size:=λb m=>by
  obtain⟨o,e,_⟩:=TT.obj 0 _ a1 b m;have lt:=xa e;exact⟨⟨by rw[ee$ za lt];exact(f2 b m).1,(f2 b m).2⟩,Kq lt b4⟩
 refine oX hc L b5 a8 S P n u kp TT (TT.keep 0 _ _ a1 λb m o e=>kp b o$ da _ e)
  (λμ H σ i ex r=>so μ H σ i (G.trans ex) r) ((hE.mono a5).mono G) (r2.push (ob:=ώ []) R ⟨[],ng,Db.nil⟩) (by rw[<-r2.len];simp) (p2.mono G) (λs6 H' m6 a9 a6 b6 b0 ό a7 hq=>?_)
 have ϊ:X.env.locals<(s2.heap.push { cls:=Wh "list",data:=Ϧ ([]:dN).toArray }).objs.size:=P.lt;have ϋ:∀ z c,X.env.cells.lookup z=SY c->c<(s2.heap.push { cls:=Wh "list",data:=Ϧ ([]:dN).toArray }).objs.size:=λz c e=>by
  obtain⟨v,q⟩:=P.cell z c e;exact q.lt
 refine AC$ oP (v:=ϙ s2.heap.objs.size) (L2.gb.Lu (s':=s6) (ch:=fp) P b0 b6 ό a7$ λb m=>⟨(n b m).1.2.2.2.1,(n b m).1.2.1,(n b m).1.2.2.2.2.1,(n b m).1.2.2.2.2.2⟩) hN hi hx rfl (λs7 I7 ſ=>?_) hf;obtain⟨a,sb,ha⟩:=ſ;have b7:a≠(s2.heap.push { cls:=Wh "list",data:=Ϧ ([]:dN).toArray }).objs.size:=by
  rcases ha with rfl|ha
  ·exact za ϊ
  ·exact za$ ϋ _ _ ha
 refine⟨m6,a9.sameBut sb$ Ud b7,λh8 b2=>⟨st.set i$ SY$ ϙ s2.heap.objs.size,H',?_,hq⟩⟩;exact I7.turned (t':=s7.toks) (it:=(s2.heap.push { cls:=Wh "list",data:=Ϧ ([]:dN).toArray }).objs.size) (λb o m e=>(b2.2 b m).trans e) a6 (Jd ϊ) (ϕ$ zb P.sz$ wa _) (λz c e=>za$ ϋ z c e) (λp hp=>za$ xa (P.pin p hp).1)
structure Pm(K:ϖ)(C:Addr):Prop where
 f:W.findIn K (Xb C) "__eq__" = SY (SY (Ϟ "object.__eq__"))
 o:Ϲ K C (Wh "object")=SY U2
section
variable{prog:Aa}{w:Ta}{K:ϖ}{A:Ma}{E:Value->Shared->Prop}{h:Heap}{g:Array Mh}{d:To}{t:Nat}{os:jv}{x y C D:Addr}{ox oy:Obj}
def dX{M}(X:K.In h)(f:W.findIn K (Xb C) a=SY r)(e:h.get? x=SY ox)(b:ox.cls=Xb C)(c:Q r ⟨h,g,d,t,os⟩):wpAny M A (specialOf (Xb x) a) Q E ⟨h,g,d,t,os⟩:=by
 unfold specialOf;repeat (first|(with_reducible refine Fd e ?_;rw[b])|(with_reducible refine W.Looks.at (SF X f) ?_)|wp_step)
 exact c
def KW(X:K.In h)(c:Pm K C)(n:h.get? x=SY ox)(l:ox.cls=Xb C)(r:h.get? y=SY oy)(i:x≠y)(q:Q .notImplemented ⟨h,g,d,t,os⟩) :
  wpAny (model prog w) A (call (Ϟ "object.__eq__") [Xb x,Xb y]) Q E ⟨h,g,d,t,os⟩:=by
 refine ej$ sk F.cmp_object.eq.plain F.cmpEntry_eq ?_;have j:=F.cmpArgs_eq (Xb x)$ Xb y;have f:=Nq (M:=model prog w) X c.o;have b:ox.cls≠ Wh "tuple":=by rw[l];intro e;cases e
 simp only[fG,F.cmpKind_eq,F.cmpSplit_eq];refine ba ?_;unfold LA;have s:∀ (k:Unit->Shared->Prop),k () _->wpAny (model prog w) A (match jg "object.__eq__" with|some sig=>Nf "object.__eq__" sig ⟨[Xb x,Xb y],[]⟩|none=>pure ()) k E ⟨h,g,d,t,os⟩:=λk m=>by
  cases a:jg "object.__eq__" with
  |none=>exact ga m
  |some sig=>
   simp only[nv,a]at j;have p:Nf "object.__eq__" sig ⟨[Xb x,Xb y],[]⟩=pure ():=j;show wpAny _ A (Nf "object.__eq__" sig ⟨[Xb x,Xb y],[]⟩) k E _;rw[p];exact ga m
 repeat (first|(with_reducible refine Fd n ?_;rw[l])|(with_reducible refine W.Looks.at f ?_)|(with_reducible refine fj i n r b ?_)|wp_step)
 exact q
def aJ(X:K.In h)(c:Pm K C)(e:h.get? x=SY ox)(b:ox.cls=Xb C)(j:h.get? y=SY oy)(a:x≠y)(i:Q ń ⟨h,g,d,t,os⟩) :
  wpAny (model prog w) A (MA (Xb x) "__eq__"$ Xb y) Q E ⟨h,g,d,t,os⟩:=by
 refine ba ?_;simp only[lz,mz];refine Yb$ ba$ ba$ dX X c.f e b ?_;simp only[F.cmp_object.eq.bind];refine ba$ Hg$ wpAny_ite ?_;split
 ·exact ba$ ga$ ga$ ba$ KW X c e b j a$ ga$ ga i
 ·exact De$ ba$ ga$ ga$ ba$ KW X c e b j a$ ga$ ga i
def zse(X:K.In h)(c:Pm K C)(o:Pm K D)(q:Ϲ K D (Xb C)=SY ŝ)(f:h.get? x=SY ox)(k:ox.cls=Xb C)(i:h.get? y=SY oy)(b:oy.cls=Xb D)(j:C≠D)(r:A.units<cLine)(p:Q (Lj ŝ) ⟨h,g,d,t,os⟩) :
  wpAny (model prog w) A (yb .Eq (Xb x)$ Xb y) Q E ⟨h,g,d,t,os⟩:=by
 have a:x≠y:=λe=>by
  simp_all
 have m:ox.cls≠ Wh "tuple":=by rw[k];intro e;cases e
 have n:=Nq (M:=model prog w) X q;have l:(Xb C != Xb D)=U2:=by simp[j]
 show wpAny _ A (Bk .Eq (Xb x)$ Xb y) Q E _;simp only[Bk,IA,Yu];repeat (first|with_reducible refine Oq r ?_|(with_reducible refine Fd f ?_;rw[k])|(with_reducible refine Fd i ?_;rw[b])|(rw[l,na rfl];with_reducible refine ba$ W.Looks.at n ?_)|(with_reducible refine W.Looks.at n ?_)|(with_reducible refine aJ X c f k i a ?_)|(with_reducible refine aJ X o i b f (Ud a) ?_)|(with_reducible refine fj a f i m ?_)|wp_step)
 exact p
end
def VQ(K:ϖ):R2:=λv u H Q=>∃ x y C D a b c d,v=ϙ x/\u=ϙ y/\H x=SY (.Eb C a c)/\H y=SY (.Eb D b d)/\Pm K C/\Pm K D/\Ϲ K D (Xb C)=SY ŝ/\C≠D/\Q (Ϩ ŝ) H
def EG(K:ϖ)(a:Nat->Addr)(l:List$ Nat × Nat):Prop:=∀ p∈l,Pm K (a p.1)/\Pm K (a p.2)/\Ϲ K (a p.2) (Xb$ a p.1)=SY ŝ/\a p.1≠a p.2
def O8{K}:EG K a []:=λb h=>nomatch h
def wK{K}(a:Pm K$ e c)(b:Pm K$ e d)(m:Ϲ K (e d) (Xb$ e c)=SY ŝ)(n:e c≠e d)(r:EG K e l):EG K e$ (c,d)::l:=λp f=>by
 rcases Ba.mp f with rfl|f
 ·exact⟨a,b,m,n⟩
 ·exact r p f
def á(F:X.A.units+9<cLine):Dg X (yb .Eq)$ VQ X.K:=by
 intro b s st H v u m p Q I o n h;obtain⟨x,y,C,D,r,z,B,E,rfl,rfl,f,i,c,e,j,a,q⟩:=h;obtain rfl:m=Xb x:=o;obtain rfl:p=Xb y:=n;obtain⟨_,_,_,k,_⟩:=(show Rk X.prog X.w H s.heap x _ from I.Kc x _ f)
 obtain⟨_,_,_,l,_⟩:=(I.Kc y _ i)
 obtain⟨h,g,d,t,G⟩:=s;exact zse I.Li c e j k rfl l rfl a ⋯ ⟨Ϩ ŝ,H,I,rfl,q⟩
end Lake
namespace Lake
open W L2
noncomputable def Uz:D->Option (i')
 | .gt ss=>SY (ss.map ϐ)
 | ϒ ds=>SY ds
 |_=>ń
def sB(x y:D):M D:=λa=>match Uz x,Uz y with
 |some xs,SY c=>(match yi (Og a 0) xs c with
  |some b=>U (ϓ b) a
  |none=>ϗ)
 |_,_=>ϗ
def LR{xs}(f:T.K=X.K)(h:Uz x=SY xs)(c:Ja T d H x v):∃ p b,v=ϙ p/\Kg X.K H p b/\Db T d H xs b:=by
 cases x with
 |gt ss=>
  cases h;obtain⟨p,rfl,a⟩:=c;rw[f]at a;exact⟨p,_,rfl,ϕ a,uK ss⟩
 |nb ds=>
  cases h;obtain⟨p,b,rfl,a,e⟩:=c;exact⟨p,b,rfl,Kg.of a,e⟩
 |_=>cases h
def ħ(f:T.K=X.K)(V:X.A.units+9<cLine):Dg X (yb .Eq)$ rD T sB:=by
 intro c s st H v u g ϊ Q I N M h;obtain⟨E,μ,ό,x,y,r,B,C,a⟩:=h;unfold sB at a;cases ex:Uz x with
 |none=>rw[ex]at a;exact a.elim
 |some xs=>
  cases d:Uz y with
  |none=>rw[ex,d]at a;exact a.elim
  |some S=>
   rw[ex,d]at a;dsimp only at a;cases e:yi (Og ό 0) xs S with
   |none=>rw[e]at a;exact a.elim
   |some b=>
    apply b_;intro z_;rw[e]at a;obtain⟨p,vs,rfl,t,G⟩:=LR f ex B;obtain⟨q,ws,rfl,z,J⟩:=LR f d C;cases N;cases M;obtain⟨W,D,O,_⟩:=L2.gb.tuple I t;obtain⟨ϋ,F,P,_⟩:=L2.gb.tuple I z;obtain⟨n,o⟩:=VM (λx y v w g R b i j k l m=>yI I r 0 X.A.in1 x y v w g R b (by show X.A.units+1+0+1<cLine;lia) i j k l m) G J D F e;have L:Sg X.A s (Xb p) (Xb q) b:=by rw[o];exact .tuples O P ⋯ n
    apply z_;exact L X.prog X.w X.xe (EP X c st Q) ⟨Ϩ b,H,I,rfl,Vb.here a r (by rw[Ja])⟩
end Lake
namespace Lake
open Spec L2
section
variable{prog:Aa}{w:Ta}{K:ϖ}{A:Ma}{E:Value->Shared->Prop}{h:Heap}{g:Array Mh}{d:To}{t:Nat}{os:jv}{x y C:Addr}{ox oy:Obj}
def aU(X:K.In h)(c:Pm K C)(m:h.get? x=SY ox)(j:ox.cls=Xb C)(l:Q (Lj U2) ⟨h,g,d,t,os⟩) :
  wpAny (model prog w) A (call (Ϟ "object.__eq__") [Xb x,Xb x]) Q E ⟨h,g,d,t,os⟩:=by
 refine ej$ sk F.cmp_object.eq.plain F.cmpEntry_eq ?_;have e:=F.cmpArgs_eq (Xb x)$ Xb x;have b:=Nq (M:=model prog w) X c.o;simp only[fG,F.cmpKind_eq,F.cmpSplit_eq];refine ba ?_;unfold LA;have n:∀ (k:Unit->Shared->Prop),k () ⟨h,g,d,t,os⟩->wpAny (model prog w) A (match jg "object.__eq__" with|some sig=>Nf "object.__eq__" sig ⟨[Xb x,Xb x],[]⟩|none=>pure ()) k E ⟨h,g,d,t,os⟩:=λk f=>by
  cases a:jg "object.__eq__" with
  |none=>exact ga f
  |some sig=>
   simp only[nv,a]at e;have i:Nf "object.__eq__" sig ⟨[Xb x,Xb x],[]⟩=pure ():=e;show wpAny _ A (Nf "object.__eq__" sig ⟨[Xb x,Xb x],[]⟩) k E _;rw[i];exact ga f
 repeat (first|(with_reducible refine Fd m ?_;rw[j])|(with_reducible refine W.Looks.at b ?_)|(with_reducible refine wpAny_isSame_ref_self ?_)|wp_step)
 exact l
def Ā(X:K.In h)(c:Pm K C)(b:h.get? x=SY ox)(a:ox.cls=Xb C)(e:Q (SY$ Lj U2) ⟨h,g,d,t,os⟩) :
  wpAny (model prog w) A (MA (Xb x) "__eq__"$ Xb x) Q E ⟨h,g,d,t,os⟩:=by
 simp only[MA];refine ba ?_;simp only[lz,mz];refine Yb$ ba$ ba$ dX X c.f b a ?_;simp only[F.cmp_object.eq.bind];refine ba$ Hg$ wpAny_ite ?_;split
 ·exact ba$ ga$ ga$ ba$ aU X c b a$ ga$ ga e
 ·exact De$ ba$ ga$ ga$ ba$ aU X c b a$ ga$ ga e
end
open Classical in
def yc1{K}{a:Nat->Addr}:∀ c∈([]:gV),Pm K (a c):=λb h=>nomatch h
def YM{K}{b:Nat->Addr}(a:Pm K$ b c)(r:∀ x∈l,Pm K (b x)):∀ x∈c::l,Pm K (b x):=λx d=>by
 rcases Ba.mp d with rfl|d
 ·exact a
 ·exact r x d
section
variable{prog:Aa}{w:Ta}{K:ϖ}{A:Ma}{E:Value->Shared->Prop}{h:Heap}{g:Array Mh}{d:To}{t:Nat}{os:jv}{x y C:Addr}{ox oy:Obj}
def Ŏ(X:K.In h)(c:Pm K C)(f:h.get? x=SY ox)(i:ox.cls=Xb C)(l:h.get? y=SY oy)(j:oy.cls=Xb C)(o:A.units<cLine)(p:x=y->Q (Lj U2) ⟨h,g,d,t,os⟩)(b:x≠y->Q (Lj ŝ) ⟨h,g,d,t,os⟩) :
  wpAny (model prog w) A (yb .Eq (Xb x)$ Xb y) Q E ⟨h,g,d,t,os⟩:=by
 have m:ox.cls≠ Wh "tuple":=by rw[i];intro e;cases e
 have k:(Xb C != Xb C)=ŝ:=by simp
 show wpAny _ A (Bk .Eq _ _) Q E _;by_cases a:x=y
 ·have n:=p a;subst a;simp only[Bk,IA,Yu];repeat (first|with_reducible refine Oq o ?_|(with_reducible refine Fd f ?_;rw[i])|(rw[k,ya qb])|(with_reducible refine Ā X c f i ?_)|wp_step)
  exact n
 ·have b:=b a;simp only[Bk,IA,Yu];repeat (first|with_reducible refine Oq o ?_|(with_reducible refine Fd f ?_;rw[i])|(with_reducible refine Fd l ?_;rw[j])|(rw[k,ya qb])|(with_reducible refine aJ X c f i l a ?_)|(with_reducible refine aJ X c l j f (Ud a) ?_)|(with_reducible refine fj a f l m ?_)|wp_step)
  exact b
end
def bJ(K:ϖ)(a:Nat->Addr)(b c:Value)(l:List$ Nat × Bool):Prop:=∀ p∈l,W.exmAny K (Xb$ a p.1) [b,c]=SY p.2
def cY{K}:bJ K a b c []:=λd h=>nomatch h
def RT{K}(h:W.exmOne K (Xb$ a c) d=SY b)(i:W.exmOne K (Xb$ a c) e=SY g)(r:bJ K a d e l):bJ K a d e$ (c,b || g)::l:=λp f=>by
 rcases Ba.mp f with rfl|f
 ·simp[W.exmAny,h,i]
 ·exact r p f
def Ŷ{K}(h:bJ K a d f l):∀ c b,lx l c=SY b->W.exmAny K (Xb$ a c) [d,f]=SY b:=λc b e=>h (c,b)$ YJ e
def wY(K:ϖ):R2:=λv u H Q=>VQ K v u H Q\/∃ x y C a b c d,v=ϙ x/\u=ϙ y/\H x=SY (.Eb C a c)/\H y=SY (.Eb C b d)/\Pm K C/\(x=y->Q (Ϩ U2) H)/\(x≠y->Q (Ϩ ŝ) H)
noncomputable def oZ:Ck Fl->Ck Fl
 | U (.rt v) σ=>U (.rt v) σ
 |_=>ϗ
def OM(A R:M Fl):D->D->M Fl
 | Y i,Y j=>λa=>if i=j then oZ (A a)else R a
 |_,_=>λb=>ϗ
def WI(l:List$ Nat × Nat)(b:gV)(A R:M Fl)(x y:D):M Fl:=λa=>match di a x,di a y with
 |some (c,_),SY (d,_)=>if (c,d)∈l then R a else if c=d/\c∈b then OM A R x y a else ϗ
 |_,_=>ϗ
def ky(l:List$ Nat × Nat)(b:gV)(c fr:Ev->M D)(d e:Ev->M Fl):Ev->M Fl:=λa=>xs a (c a) λx=>xs a (fr a)$ WI l b (d a) (e a) x
def Y7(m:X.A.units+9<cLine):Dg X (yb .Eq)$ wY X.K:=by
 intro a s st H v u b j Q I i f h;rcases h with h|h
 ·exact á m a s st H v u b j Q I i f h
 ·obtain⟨x,y,C,r,w,z,B,rfl,rfl,k,l,c,q,p⟩:=h;obtain rfl:b=Xb x:=i;obtain rfl:j=Xb y:=f;obtain⟨_,_,_,n,_⟩:=(I.Kc x _ k)
  obtain⟨_,_,_,o,_⟩:=(I.Kc y _ l)
  obtain⟨h,g,d,t,D⟩:=s;exact Ŏ I.Li c n rfl o rfl ⋯ (λe=>⟨Ϩ U2,H,I,rfl,q e⟩) (λe=>⟨Ϩ ŝ,H,I,rfl,p e⟩)
def Κ{A rest}(hu:X.A.units+9<cLine)(ht:EG X.K T.ca l)(hs:∀ c∈O,Pm X.K (T.ca c))(hm:Td .Eq b=ŝ)(hl:FE T X a fl)(hr:FE T X b fr)(ha:Ul T X A P)(m:Ul T X rest gr) :
  Ul T X (.If (.Compare a [.Eq] [b] p) A [] W::rest)$ ky l O fl fr P gr:=by
 intro w s st H D I hw;refine kW (jX (qN (Y7 hu) hl hr hm) ha US) m w s st H D I ?_;obtain⟨μ,ρ,σ,r,ό,hp⟩:=hw;refine⟨μ,ρ,σ,r,ό,Vb.xs r hp λx a4 a3 v H1 M J r1 p1 q1=>⟨a3,ρ,a4,r.mono J,r1,Vb.xs (r.mono J) q1 λy f n u H2 M e2 o p2 e=>?_⟩⟩;have t:=Ja.mono e2 _ _ p1;have h:=(r.mono J).mono e2;unfold WI at e;cases C:di f x with
 |none=>rw[C]at e;exact e.elim
 |some cf=>
  cases N:di f y with
  |none=>rw[C,N]at e;exact e.elim
  |some cg=>
   apply b_;intro z_;obtain⟨c,fs⟩:=cf;obtain⟨d,gs⟩:=cg;rw[C,N]at e;dsimp only at e;obtain⟨B,F,ϋ,rfl,Q,_⟩:=sy o t C;obtain⟨q,G,ϊ,rfl,R,_⟩:=sy o p2 N;apply z_;by_cases g:(c,d)∈l
   ·apply b_;intro z_;rw[na g]at e;obtain⟨z1,z2,z3,z4⟩:=ht _ g;apply z_;exact ϑ ⟨B,q,_,_,F,G,ϋ,ϊ,rfl,rfl,Q,R,z1,z2,z3,z4,ŝ,rfl,n,ρ,f,h,o,e⟩
   ·rw[ya g]at e;by_cases S:c=d/\c∈O
    ·rw[na S]at e;obtain⟨rfl,hc⟩:=S;cases x with
     |ref i=>
      cases y with
      |ref j=>
       apply b_;intro z_;obtain⟨a1,z1,m1⟩:=t;obtain⟨a2,z2,V⟩:=p2;cases z1;cases z2;unfold OM at e;dsimp only at e;apply z_;by_cases k:i=j
       ·subst k;rw[m1]at V;cases V;rw[na rfl]at e;refine ϕ ⟨B,B,_,F,G,ϋ,ϊ,rfl,rfl,Q,R,hs c hc,λM=>⟨U2,rfl,n,ρ,f,h,o,?_⟩,λz=>absurd rfl z⟩;cases L:P ρ f with
        |ok E a5=>
         cases E with
         |rt v=>
          rw[L]at e;intro a0 E H' e' r' q';have:=e a0 E H' e' r' q';cases E with
          |rt v=>exact this
          |_=>exact q'.elim
         |_=>rw[L]at e;exact e.elim
        |_=>rw[L]at e;exact e.elim
       ·rw[ya k]at e;refine ϕ ⟨B,q,_,F,G,ϋ,ϊ,rfl,rfl,Q,R,hs c hc,λz=>?_,λM=>⟨ŝ,rfl,n,ρ,f,h,o,e⟩⟩;subst z;obtain⟨i1,i2⟩:=aa.mp m1;obtain⟨j1,j2⟩:=aa.mp V;exact absurd ((kw o.nd).mp$ i2.trans j2.symm) k
      |_=>exact e.elim
     |_=>exact e.elim
    ·rw[ya S]at e;exact e.elim
end Lake
set_option maxHeartbeats 0
namespace Internal
open Spec L2 Lake
noncomputable def ck(i:Nat):Stmt:=PySem.Challenge.pw_sidebook_k45_a_look.main.body.getD i$ .Pass ⟨0,0,0,0⟩
def eJ(K:ϖ):Tab:=⟨Yw K "least_fate",274,35, "least_fate.<locals>.<lambda>"⟩
def rG(K:ϖ):Tab:=⟨Yw K "paper",289,27, "paper.<locals>.<lambda>"⟩
def tx(K:ϖ):Tx:=⟨[eJ K,rG K],ay K⟩
def HQ K:eJ K∈(tx K).eo:=(.head _)
def lP K:rG K∈(tx K).eo:=(.tail _$ .head _)
def k6 K:∀ t∈(tx K).eo,∃ x∈[("least_fate" : Str),("paper" : Str)],t.P=Yw K x:=by
 intro t a;have h:t∈[eJ K,rG K]:=a;simp only[Ba,oe,dm]at h;rcases h with rfl|rfl
 ·exact⟨"least_fate",by simp,rfl⟩
 ·exact⟨"paper",by simp,rfl⟩
inductive Al{α:Type}(P:α->Prop):List α->Prop
 |n:Al P []
 |c {x:α} {l:List α} (h:P x) (t:Al P l):Al P (x::l)
def Al.get{P}{l:List a}(h:Al P l):∀ x∈l,P x:=by
 induction h with
 |n=>simp
 |c h _ i=>simp_all
inductive zC(E:ac):List Arg->ac->ac->Prop
 |nil:zC E [] [] E
 |cons {x:Str} {a:Option Na} {p:Vd} {as:List Arg} {ps N:ac} (t:zC E as ps N):zC E (⟨x,a,p⟩::as) (x::ps) (x::N)
def zC.map(h:zC E a ps N):a.map (·.arg)=ps:=by
 induction h<;>simp_all
noncomputable def fX:Stmt->Str
 | .FunctionDef x _ _ _ _ _ _ _ _ _=>x
 |_=>""
inductive Xx(E:ac):Stmt->Str->ac->ac->Prop
 |mk {x as ps N a b c d e f g h i j k l m n} (t:zC E as ps N):Xx E (.FunctionDef x ⟨a,as,b,c,d,e,f⟩ g h i j k l m n) x ps N
def HF(K:ϖ)(b:Str->Option Value)(a:Stmt):Prop:=kt K b (fX a) a ((Vl a).args.map (·.arg))
def HM(K:ϖ)(f:Addr)(a:Stmt):Prop:=∃ q,Hu K 0 (fX a) q a ((Vl a).args.map (·.arg)) f
def F9{K mg x st st' ps}(a:st=st')(d:(fX st',(Vl st').args.map (·.arg))=(x,ps))(h:kt K mg x st ps):HF K mg st:=by
 subst a;cases d;exact h
def K5{K f x q st st' ps}(a:st=st')(d:(fX st',(Vl st').args.map (·.arg))=(x,ps))(h:Hu K 0 x q st ps f):HM K f st:=by
 subst a;cases d;exact⟨q,h⟩
def Xx.fn{K mg x E st ps N}(d:Xx E st x ps N)(h:HF K mg st):kt K mg x st ps:=by
 cases d with|mk t=>cases t.map;exact h
def Xx.me{K f x E st ps N}(d:Xx E st x ps N)(h:HM K f st):∃ q,Hu K 0 x q st ps f:=by
 cases d with|mk t=>cases t.map;exact h
def QF{b c:Type}:List c->(List b->Prop)->Prop
 |[],P=>P []
 |_::l,P=>∀ a,QF l λt=>P$ a::t
@[elab_as_elim] theorem QF.ap{b c:Type}:∀ (l:List c) {P:List b->Prop} (u:List b) (_:u.length=l.length) (_:QF l P),P u
 |[],_,[],_,z=>z
 |_::l,_,a::u,h,z=>QF.ap l u (Nat.succ.inj h) (z a)
abbrev tO(x q:Str)(st:Stmt)(ps:ac)(c:dN):Prop:=∀ (t:Addr) (kV b d:Value) (an:Option Addr) (a ct:Value) (s:Shared) (o:Obj) (n:Nat) (us:dN),s.heap.get? t=SY o->o.data=Ϧ c.toArray n->((us++[]).length=ps.length->vf s (ϭ x q (Vl st) (Sj st) (Gf st) (Xb t) kV b d an a ct) ⟨us,[]⟩ (ps.zip$ us++[]))/\((us++c).length=ps.length->vf s (ϭ x q (Vl st) (Sj st) (Gf st) (Xb t) kV b d an a ct) ⟨us,[]⟩ (ps.zip$ us++c))
noncomputable abbrev gQ:gV:=[108,8,9,84,13,12,15,10,27,29,28,14,30,32,109,110,16,46,47,50,49,51,52,33,34,40,65,66,67,68,69,71,72,73,74,76,77,70,79,35,85,54,11,101,102,103,105,17,104,113,114,87,86,115]
noncomputable abbrev DM:List$ Nat × List (Nat × Nat):=[(92,[(2,28),(1,27),(6,32),(12,38),(3,29),(7,33),(8,34),(9,35),(11,37),(16,42),(17,43),(18,44),(15,41),(13,39),(20,46),(21,47),(22,48),(23,49),(19,45),(4,30)]),(55,[(0,16),(1,17),(2,18)]),(56,[(0,19),(1,20)]),(57,[(0,21),(1,22)]),(58,[(0,23),(1,24)]),(63,[(0,25)]),(94,[(0,50)]),(106,[(0,63),(1,64),(4,67),(8,71),(5,68),(3,66),(13,76),(2,65),(9,72),(14,77),(7,70)]),(95,[(0,51)]),(96,[(1,55),(0,54),(2,56),(4,58)]),(97,[(1,60),(0,59)])]
noncomputable abbrev CL:gV:=[5,6,7,8,9,10,11,12,13,14,15]
noncomputable abbrev aE:List$ Str × gV:=[("hand",[10]),("every",[9,10]),("last_look",[9,10]),("gave",[10]),("known",[9,10]),("accounts",[10]),("claims",[10,15]),("seen",[10]),("asked",[10]),("finishing",[10]),("pot",[5,6,7,8]),("side",[5,6,7,8,13,14]),("mine",[5,6,7,8]),("grant",[5,6,7,8]),("may",[5,6,7,8]),("strikes",[5,6,7,8]),("pots",[9,15]),("day",[13,15]),("whole",[11,12,13,14]),("shown",[15]),("stand",[13]),("wait",[13])]
noncomputable abbrev xQ:List$ Nat × List (Str × Nat):=[(10,[("learn",28),("hold",27),("account",32),("holds",38),("words",29),("view_by",33),("view",34),("worth",35),("is_good",37),("take_ask",42),("is_as_asked",43),("take_step",44),("take",41),("wish",39),("strike_all",46),("is_to_show",47),("show_all",48),("lay_all",49),("look",45),("looked",30)]),(8,[("word",23),("agree_of",17),("strike_of",18),("taken",24)]),(7,[("word",21),("agree_of",17),("strike_of",18),("taken",22)]),(6,[("word",19),("agree_of",17),("strike_of",18),("taken",20)]),(5,[("agree_of",17),("strike_of",18)]),(15,[("check_pot",64),("show",67),("told",71),("may_lie",68),("lay",69),("next_day",66),("all_shown",76),("today",65),("shown_for",72),("made_of",77),("strike",70)]),(14,[("told",60)]),(13,[("told",55),("waits",56),("may_strike",58)]),(12,[("told",51)])]
noncomputable abbrev JP:List$ Str × Int:=[("MOST_AMOUNT",1000000000000),("MOST_COIN",1000000000000),("MOST_DAY",1000000),("MOST_EVERY",50),("MOST_HAND",3),("MOST_NUMBER",1000000),("MOST_POT",2),("MOST_SHARE",2000000000000),("MOST_TIES",6),("MOST_WAIT",100),("MOST_WORD",59)]
structure bg(K:ϖ)(mg:Str->Option Value)(ca:Nat->Addr):Prop where
 tj:rN K mg "stand" (ck 31) ["number","shares","ties"] [rc]
 Qd:kt K mg "first_account" (ck 59) ["pot","side","left","right"]
 Hq:Tq K (ca 10) "__init__" "Keeper.__init__" (Uw (ck 92) 0) ["self","hand","every","pots","words"] [rc] (ca 26)
 Se:kt K mg "offered" (ck 60) ["account","shares","ties"]
 Te:jH K mg "least_fate" (ck 75) ["lots","every"]
 Hj:jH K mg "paper" (ck 78) ["view"]
 cc:kt K mg "_law_forward" (ck 111) ["_law_keeper","_law_pot","_law_side","_law_draw","_law_agreed"]
 qe:Tq K (ca 15) "lay" "Book.lay" (Uw (ck 106) 6) ["self","pot","side","stand","agreement"] [rc] (ca 69)
 lf:kt K mg "_law_book" (ck 112) ["_law_book_here","_law_agreed","_law_sides","_law_cells"]
 Bn:kt K mg "law" (ck 116) ["_law_script"]
 ji:mg "worth_worth" = mg "worth"
 tf:Al (λi=>HF K mg (ck i)) gQ
 tm:Al (λp=>Al (λq=>HM K (ca q.2) (Uw (ck p.1) q.1)) p.2) DM
 tc:Al (λc=>L2.kq K (ca c)) CL
 ta:Al (λp=>Al (λc=>L2.Ex K (ca c) p.1) p.2) aE
 te:Al (λp=>Al (λq=>L2.xu K (ca p.1) q.1 (ca q.2)) p.2) xQ
 ti:Al (λp=>∃ t,mg p.1=SY (Tl p.2 t)) JP
 mD:mg "all" = ń
 Iz:mg "bool" = ń
 Xt:mg "dict" = ń
 Yo:mg "enumerate" = ń
 lF:mg "int" = ń
 Ve:mg "isinstance" = ń
 gy:mg "len" = ń
 Jt:mg "list" = ń
 Ky:mg "min" = ń
 br:mg "range" = ń
 Qy:mg "set" = ń
 vp:mg "sorted" = ń
 OF:mg "str" = ń
 wy:mg "sum" = ń
 lr:mg "tuple" = ń
 tD:mg "zip" = ń
 eA:YE K mg "FIRM" ["won","sure","back"]
 du:YE K mg "HELD" ["held"]
 Ir:mg "NoStand" = SY (Xb (ca 1))
 rB:W.excIn K (ca 1) jT "ValueError.__new__" = U2
 gp:mg "NoDeed" = SY (Xb (ca 2))
 Bu:W.excIn K (ca 2) jT "ValueError.__new__" = U2
 El:W.exmOne K (Xb (ca 2)) (Xb (ca 2))=SY U2
 pk:W.exmOne K (Xb (ca 2)) (Xb (ca 1))=SY ŝ
 ik:W.exmOne K (Xb (ca 1)) (Xb (ca 2))=SY ŝ
 Gj:W.exmOne K (Xb (ca 1)) (Xb (ca 1))=SY U2
 Qz:mg "Calm" = SY (Xb (ca 6))
 Qw:L2.Mk K (ca 6) (ca 16)
 Yt:mg "Keeper" = SY (Xb (ca 10))
 Tr:L2.Mk K (ca 10) (ca 26)
 Br:mg "Offered" = SY (Xb (ca 7))
 Cq:L2.Mk K (ca 7) (ca 16)
 xA:mg "View" = SY (Xb (ca 9))
 Dx:L2.Mk K (ca 9) (ca 25)
 Sr:mg "Waiting" = SY (Xb (ca 8))
 Bq:L2.Mk K (ca 8) (ca 16)
 wj:Lake.Pm K (ca 6)
 Gk:Lake.Pm K (ca 7)
 Dl:Ϲ K (ca 7) (Xb (ca 6))=SY ŝ
 zl:(ca 6)≠(ca 7)
 li:Lake.Pm K (ca 8)
 yl:Ϲ K (ca 8) (Xb (ca 6))=SY ŝ
 Il:(ca 6)≠(ca 8)
 Nl:Ϲ K (ca 6) (Xb (ca 8))=SY ŝ
 wl:(ca 8)≠(ca 6)
 nu:mg "Held" = SY (Xb (ca 12))
 zw:L2.Mk K (ca 12) (ca 50)
 kA:mg "Book" = SY (Xb (ca 15))
 cx:L2.Mk K (ca 15) (ca 63)
 qx:Lake.InK K (ca 15)
 ko:Ϫ K (Xb (ca 15)) (Xb (ca 12))=SY ŝ
 yu:Lake.InK K (ca 14)
 Xm:Ϫ K (Xb (ca 14)) (Xb (ca 12))=SY ŝ
 Sw:Lake.InK K (ca 13)
 oo:Ϫ K (Xb (ca 13)) (Xb (ca 12))=SY ŝ
 Bx:Lake.InK K (ca 12)
 ao:Ϫ K (Xb (ca 12)) (Xb (ca 12))=SY U2
 Rr:Lake.InK K (ca 10)
 um:Ϫ K (Xb (ca 10)) (Xb (ca 12))=SY ŝ
 Gx:Lake.InK K (ca 9)
 mo:Ϫ K (Xb (ca 9)) (Xb (ca 12))=SY ŝ
 wq:Lake.InK K (ca 8)
 nl:Ϫ K (Xb (ca 8)) (Xb (ca 12))=SY ŝ
 Fq:Lake.InK K (ca 7)
 Ll:Ϫ K (Xb (ca 7)) (Xb (ca 12))=SY ŝ
 Jw:Lake.InK K (ca 6)
 qo:Ϫ K (Xb (ca 6)) (Xb (ca 12))=SY ŝ
 ar:mg "Claim" = SY (Xb (ca 11))
 Vg:W.specialIn K (Xb (ca 11)) (ui "__getattribute__")=SY (SY (Ϟ "type.__getattribute__"))
 Wg:W.readsIn K (ca 11) (Wh "type")=U2
 Ug:W.findCls K (Xb (ca 11)) (Wh "type") "__init__" = SY (.val (Xb (ca 50)))
 Xg:Ϸ K (Xb (ca 50))=U2
 Cz:mg "Laid" = SY (Xb (ca 13))
 Gw:L2.Mk K (ca 13) (ca 54)
 Rw:mg "Taken" = SY (Xb (ca 14))
 Cu:L2.Mk K (ca 14) (ca 59)
 tb:ux K ["least_fate","paper"]
 VR:mg "__builtins__" = SY (Xb (ay K))
 zD:∀ t∈(tx K).eo,∀ t'∈(tx K).eo,t'.P=t.P->t'=t
seal L2.PE L2.PS L2.Jv L2.PT L2.PW L2.PA L2.PI L2.PG
def BK{sc}(a:(sc.kind=ϡ)⁻¹)(b:(sc.isCoroutine=ŝ)⁻¹)(c:(sc.isGenerator=ŝ)⁻¹)(h:N.Nodup/\N.take Q.length=Q/\(∀ x∈Q,sc.names.lookup x=SY .local\/sc.names.lookup x=SY wc)/\∀ y∈sc.names,y.2≠ Bb:=by decide +kernel):Fc N Q sc:=⟨a,b,c,h.1,h.2.1,h.2.2.1,h.2.2.2⟩
def fO{K}(a:bg K e b)(h:(x,cs)∈aE:=by repeat (first|with_reducible exact va|refine ja _ ?_)):DI ⟨K,b,tx K⟩ cs x:=λc d=>⟨a.tc.get _$ (by decide +kernel:∀ p∈aE,∀ c∈p.2,c∈CL) _ h _ (by simpa using d),(a.ta.get _ h).get _ (by simpa using d)⟩
class ZqF (k m:outParam Nat) (x:Str) (ps:outParam (ac)) where
 f:i'->M D
 ok:∀ {P:Aa} {w:Ta} {K:ϖ} {mg:Str->Option Value} {base:Heap} {ca:Nat->Addr},bg K mg ca->cj ⟨K,ca,tx K⟩ P w mg base k x ps f
 len:ps.length=m
set_option genInjectivity false in
structure DF(k m n:Nat)(ps:ac) where
 f:i'->M D
 ok:∀ {P:Aa} {w:Ta} {K:ϖ} {mg:Str->Option Value} {base:Heap} {ca:Nat->Addr},bg K mg ca->vq ⟨K,ca,tx K⟩ P w mg base k (ca n) ps f
 len:ps.length=m
class qg (k m:outParam Nat) (x:Str) (ps:outParam (ac)) (tb:outParam Mt):Prop where
 ok:∀ {P:Aa} {w:Ta} {K:ϖ} {mg:Str->Option Value} {base:Heap} {ca:Nat->Addr},bg K mg ca->bH ⟨K,ca,tx K⟩ P w mg base k x ps tb
 len:ps.length=m
instance {k m:Nat} {x:Str} {ps:ac}:CoeFun (ZqF k m x ps) λa=>i'->M D:=⟨λq=>q.f⟩
instance {k m:Nat} {x:Str} {a:ac}:CoeOut (ZqF k m x a)$ i'->M D:=⟨λq=>q.f⟩
instance {k m n:Nat} {ps:ac}:CoeFun (DF k m n ps) λa=>i'->M D:=⟨λq=>q.f⟩
instance {k m n:Nat} {a:ac}:CoeOut (DF k m n a)$ i'->M D:=⟨λq=>q.f⟩
abbrev Hb(x:Str)(k:Nat)(N:ac)(st:Stmt)(g:Ev->M Fl):Prop:=∀ {P:Aa} {w:Ta} {K:ϖ} {b:Str->Option Value} {base:Heap} {ca:Nat->Addr} {f:Addr} {a:Value} {A:Ma} {outer:List vg} {s:Shared} {H:Hp} {E:XK},bg K b ca->Gd k (A.deeper$ fg x (Gf st) s.heap.objs.size f a)->N.Nodup->Ul ⟨K,ca,tx K⟩ (yp (Ol P w) P w K b base N x (Gf st) f a A outer s H E) (Sj st) g
def Lc(n m k i:Nat)(E:ac){x:Str}{st:Stmt}{ps N:ac}{g:Ev->M Fl}(j:ck i=st:=by conv=>lhs;whnf)(f:Xx E st x ps N:=by repeat constructor)(hb:Hb x k N st g:=by walk_at "-")(S:Fc N ps$ Gf st:=by exact BK)(e:(N.length=n)⁻¹)(d:(ps.length=m)⁻¹)(c:i∈gQ:=by decide +kernel):ZqF (k+1) m x ps:=⟨Lake.ae λb=>Lake.ud$ ni n g b,λa=>e ▸ cj.ae (cj.ud$ GF (f.fn$ j ▸ a.tf.get i c) S λv v v v v v v h=>hb a h S.nd),d⟩
@[simp] theorem yn6{st}{hs hp hb S hn hm hi}:(Lc n m k i E (x:=x) (st:=st) (ps:=ps) (N:=N) (g:=g) hs hp hb S hn hm hi).f=Lake.ae λa=>Lake.ud$ ni n g a:=rfl
def Pf(n m k j t i:Nat)(E:ac){x:Str}{st:Stmt}{ps N:ac}{g:Ev->M Fl}{l:List$ Nat × Nat}(p:Uw (ck t) i=st:=by conv=>lhs;whnf)(f:Xx E st x ps N:=by repeat constructor)(hb:∀ {q:Str},Hb q k N st g:=by walk_at "-")(S:Fc N ps$ Gf st:=by exact BK)(e:(N.length=n)⁻¹)(d:(ps.length=m)⁻¹)(b:(t,l)∈DM:=by repeat (first|with_reducible exact va|refine ja _ ?_))(c:(i,j)∈l:=by repeat (first|with_reducible exact va|refine ja _ ?_)):DF (k+1) m j ps:=⟨Lake.ae λds=>Lake.ud$ ni n g ds,λa=>let ⟨_,h⟩:=f.me (p ▸ ((a.tm.get (t,l) b).get (i,j) c:HM _ _ (Uw (ck t) i)));e ▸ vq.ae (vq.ud$ QR h S λv v v v v v o=>hb a o S.nd),d⟩
@[simp] theorem yn5{st}{hs hp hb S hn hm hi hj}:(Pf n m k j t i E (x:=x) (st:=st) (ps:=ps) (N:=N) (g:=g) (l:=l) hs hp hb S hn hm hi hj).f=Lake.ae λa=>Lake.ud$ ni n g a:=rfl
def Ff(n m k j t i:Nat)(E:ac){x:Str}{st:Stmt}{ps N:ac}{g:Ev->M Fl}{l:List$ Nat × Nat}(p:Uw (ck t) i=st:=by conv=>lhs;whnf)(f:Xx E st x ps N:=by repeat constructor)(hb:∀ {q:Str},Hb q k N st g:=by walk_at "-")(S:Fc N ps$ Gf st:=by exact BK)(e:(N.length=n)⁻¹)(d:(ps.length=m)⁻¹)(b:(t,l)∈DM:=by repeat (first|with_reducible exact va|refine ja _ ?_))(c:(i,j)∈l:=by repeat (first|with_reducible exact va|refine ja _ ?_)):DF (k+1) m j ps:=⟨Lake.ae$ ni n g,λa=>let ⟨_,h⟩:=f.me (p ▸ ((a.tm.get (t,l) b).get (i,j) c:HM _ _ (Uw (ck t) i)));e ▸ vq.ae (QR h S λv v v v v v o=>hb a o S.nd),d⟩
@[simp] theorem yn7{st}{hs hp hb S hn hm hi hj}:(Ff n m k j t i E (x:=x) (st:=st) (ps:=ps) (N:=N) (g:=g) (l:=l) hs hp hb S hn hm hi hj).f=Lake.ae (ni n g):=rfl
theorem qg.Rf k c x(q:DF j m n ps)(r:qg k m x ps b)(e: ~~~(j<=k))(h:(c,l)∈xQ:=by repeat (first|with_reducible exact va|refine ja _ ?_))(g:(x,n)∈l:=by repeat (first|with_reducible exact va|refine ja _ ?_))(d: ~~~(c∈CL)):qg k m x ps$ (c,q.f)::b:=⟨λa=>ô (T:=⟨_,_,tx _⟩) (a.tc.get _ d) ((a.te.get _ h).get _ g) (q.ok a) e$ r.ok a,r.len⟩
def qg.nil(h:(ps.length=m)⁻¹):qg k m x ps []:=⟨λa=>yZ,h⟩
section
variable{ca:Nat->Addr}{k m n:Nat}{ps:ac}{x:Str}{p pos pos' apos:Vd}{e o i v:Na}{es:List Na}{f g fo fi fv:Ev->M D}{fs:Ev->M (i')}{cs:gV}{pl:Um Bool}
abbrev TX(X:Cx)(ca:Nat->Addr):Tb:=⟨X.K,ca,tx X.K⟩
def Ã[q:ZqF k m x ps](o:Gd n X.A)(c:bg X.K X.mg ca)(d:FA (TX X ca) X (e::es) fs)(j: ~~~(k<=n))(i:Gl X x:=by exact rfl)(a: ~~~((x == ("__debug__" : Str))=ŝ))(g:(qa (e::es) X.env=(ŝ,Mb e X.env)::qa es X.env)⁻¹)(b:((Zb pos$ qa es X.env).any (·.1)=ŝ)⁻¹):FE (TX X ca) X (ϟ (ϛ x p) (e::es) [] pos)$ Bf m q.f [] fs:=by
 have h:=q.ok (P:=X.prog) (w:=X.w) (base:=X.base) c;have l:=q.len;subst l;exact ew h rfl (o.mono j) i d a g b
def Í{d}[q:qg k m x ps d](r:Gd n X.A)(g:bg X.K X.mg ca)(p:FE (TX X ca) X o f)(i:FA (TX X ca) X (e::es) fs)(j: ~~~(k<=n))(b:(qa (e::es) X.env=(ŝ,Mb e X.env)::qa es X.env)⁻¹)(a:((Zb pos$ qa es X.env).any (·.1)=ŝ)⁻¹) (s:(Mb (ϟ (Ϝ o x apos) (e::es) [] pos) X.env=(do
   let c <-Mb o X.env
   wh apos.atName
   let (f,first) <-Be [c] (Ah c x pl)
   on pos f first (Zb pos$ qa (e::es) X.env) (Rg pos$ Ke [] X.env)))⁻¹):FE (TX X ca) X (ϟ (Ϝ o x apos) (e::es) [] pos)$ Ye d m x f fs:=by
 have h:=q.ok (P:=X.prog) (w:=X.w) (base:=X.base) g;have l:=q.len;subst l;exact iX rfl p h (r.mono j) i b a s
def U8{b}[q:qg k m x ps b](g:Gd n X.A)(c:bg X.K X.mg ca)(e:FE (TX X ca) X o f)(d: ~~~(k<=n)) (i:(Mb (ϟ (Ϝ o x apos) [] [] pos) X.env=(do
   let a <-Mb o X.env
   wh apos.atName
   let (f,first) <-Be [a] (Ah a x pl)
   on pos f first (Zb pos$ qa [] X.env) (Rg pos$ Ke [] X.env)))⁻¹):FE (TX X ca) X (ϟ (Ϝ o x apos) [] [] pos)$ Ye b m x f ib:=by
 have h:=q.ok (P:=X.prog) (w:=X.w) (base:=X.base) c;have l:=q.len;subst l;exact zsx rfl e h (g.mono d) i
def Ć(a:bg X.K X.mg ca)(c:FE (TX X ca) X e g)(b:(Ad e x X.env (Mb e X.env)=Mb e X.env)⁻¹)(d:(x,cs)∈aE:=by repeat (first|with_reducible exact va|refine ja _ ?_)):FE (TX X ca) X (Ϝ e x pos)$ be (Cc cs x) g:=Ħ rfl (fO a d) c b
def GY(a:bg X.K X.mg ca)(b:FE (TX X ca) X o fo)(e:FE (TX X ca) X v fv)(d:(Ig v (SY$ Ϝ o x pos') pos.line X.env=pure ŝ)⁻¹)(c:(x,cs)∈aE:=by repeat (first|with_reducible exact va|refine ja _ ?_)):FS (TX X ca) X (Ϻ [Ϝ o x pos'] v pos)$ Rp cs x fv fo:=m7 rfl (fO a c) b e d
def Ę(a:bg X.K X.mg ca)(c:Gl X x:=by exact rfl)(b: ~~~((x == ("__debug__" : Str))=ŝ))(d:(x,z)∈JP:=by repeat (first|with_reducible exact va|refine ja _ ?_)):FE (TX X ca) X (ϛ x pos)$ eC$ Z z:=by
 obtain⟨t,h⟩:=a.ti.get _ d;exact jZ c h ⟨_,rfl⟩ b
end
noncomputable def wt:Na->Str
 | ϛ x _=>x
 | ϰ (ϛ x _::_) _ _=>x
 |_=>""
noncomputable def Fv:Na->Str
 | ϰ (_::ϛ x _::_) _ _=>x
 |_=>"0"
noncomputable def fr(s:Scope)(p:gV):ac:=p.map λi=>((s.names.filter λy=>y.2 == Bb).map (·.1)).getD i ""
section
variable{elt iter tgt:Na}{ifs:List Na}{scope:Scope}{pos spos py:Vd}{y:Str}{src:Ev->M NX}{tg:D->Ev->Option Ev}{fi:Ev->M Bool}{fe:Ev->M D}
def k8 h c(e:Zq T X tgt iter src)(g:(wt tgt::Fv tgt::fr scope c).Nodup->∀ cl C b a ex,FG T (Lo X (wt tgt::Fv tgt::fr scope c) scope cl C b a ex) tgt tg)(f:∀ cl C b a ex,Tw T (Lo X (wt tgt::Fv tgt::fr scope c) scope cl C b a ex) ifs fi)(d:∀ cl C b a ex,FE T (Lo X (wt tgt::Fv tgt::fr scope c) scope cl C b a ex) elt fe)(j:(wt tgt::Fv tgt::fr scope c).Nodup:=by decide +kernel)(L:ak X (wt tgt) (fr scope c) h scope:=by exact⟨rfl,rfl,rfl,rfl,rfl,rfl⟩)(i:(X.Lb=U2)⁻¹)(k:∀ y,je iter X.env y=pure y:=by intro _;rfl):FE T X (ϳ elt [⟨tgt,iter,ifs,0⟩] scope pos)$ Ei src h tg fi fe:=aK i L e (g j) f d k
def EV i j c(k:X.N.Nodup)(e:Zq T X tgt iter src)(h:(wt tgt::Fv tgt::fr scope c).Nodup->∀ cl C b a ex,FG T (Lo X (wt tgt::Fv tgt::fr scope c) scope cl C b a ex) tgt tg)(f:∀ cl C b a ex,Tw T (Lo X (wt tgt::Fv tgt::fr scope c) scope cl C b a ex) ifs fi)(d:∀ cl C b a ex,FE T (Lo X (wt tgt::Fv tgt::fr scope c) scope cl C b a ex) elt fe)(o:(wt tgt::Fv tgt::fr scope c).Nodup:=by decide +kernel)(n:(X.N[i]?=SY y)⁻¹)(q:Loc X.env.scope y:=by first|exact Or.inl rfl|exact Or.inr rfl)(L:ak X (wt tgt) (fr scope c) j scope:=by exact⟨rfl,rfl,rfl,rfl,rfl,rfl⟩)(l:(X.Lb=U2)⁻¹)(p:∀ y,je iter X.env y=pure y:=by intro _;rfl)(g:(Ig (ϳ elt [⟨tgt,iter,ifs,0⟩] scope pos) (SY$ ϛ y py) spos.line X.env=pure U2)⁻¹)(m:X.fn y=U2\/X.env.scope.names.lookup y=SY .local:=by first|exact .inl rfl|exact .inr rfl|assumption):FS T X (Ϻ [ϛ y py] (ϳ elt [⟨tgt,iter,ifs,0⟩] scope pos) spos)$ de i$ Ei src j tg fi fe:=zg0 k n q l L e (h o) f d p g m
end
class ZqC (c k m:outParam Nat) (x:Str) (ps:outParam (ac)) (fn:outParam (i'->M D)):Prop where
 ok:∀ {P:Aa} {w:Ta} {K:ϖ} {mg:Str->Option Value} {base:Heap} {ca:Nat->Addr},bg K mg ca->OW ⟨K,ca,tx K⟩ P w mg base k x c ps fn
 len:ps.length=m
def U4{X}{d}{c k m n}{ps}{x}{i}{p b}{e}{a}{j}[q:ZqC c k m x ps i](v:Gd n X.A)(o:bg X.K X.mg d)(r:FA (TX X d) X (e::a) j)(u: ~~~(k+1<=n))(t:Gl X x:=by exact rfl)(f: ~~~((x == ("__debug__" : Str))=ŝ))(s:(qa (e::a) X.env=(ŝ,Mb e X.env)::qa a X.env)⁻¹)(g:((Zb b$ qa a X.env).any (·.1)=ŝ)⁻¹):FE (TX X d) X (ϟ (ϛ x p) (e::a) [] b)$ Dq c m i j:=by
 have h:=q.ok (P:=X.prog) (w:=X.w) (base:=X.base) o;have l:=q.len;subst l;exact ş h rfl (v.mono u) t r f s g
set_option hygiene false
def wkA(k:String):Lean.MacroM Lean.Term:=
 if k == "_" then `(_) else if k == "?" then `(?_) else if k == "!" then `(by assumption) else if k == "λ" then `(λa a=>rfl) else let r:=(k.drop 1).toString
 if k.front == '\'' then return Lean.Syntax.mkStrLit r else if k.front.isDigit then return Lean.Syntax.mkNumLit k else let i:=λ(k:String)=>Lean.mkIdent ((k.splitOn ".").foldl Lean.Name.str .anonymous)
 if k.front == '.' then let i:=i r;`(.$i:ident) else if k == "@n" then `(by first|assumption|(show List.Nodup (_::_::_);decide +kernel)) else if k == "@o" then `(by first|exact Or.inl rfl|exact Or.inr rfl) else match k.splitOn "=" with
 |[a,b]=>return ⟨.node .none ``Lean.Parser.Term.namedArgument #[Lean.mkAtom "(",Lean.mkIdent (.mkSimple a),Lean.mkAtom ":=",Lean.Syntax.mkNumLit b,Lean.mkAtom ")"]⟩
 |_=>return i k
def wkT(s:String):Lean.MacroM Lean.Term:=do
 let m:=λ(a:List Lean.Term)=>match a.reverse with|f::l=>Lean.Syntax.mkApp f l.toArray|_=>⟨.missing⟩
 let mut t:List$ List Lean.Term:=[[]]
 for k in s.splitOn " " do
  if k == "(" || k == "[" then t:=[]::t
  else match k,t with
   |")",a::b::r=>t:=(m a::b)::r
   |"]",a::b::r=>let a:=a.reverse.toArray;t:=((<- `([$a,*]))::b)::r
   |_,b::r=>t:=((<- wkA k)::b)::r
   |_,_=>pure ()
 return m t.head!
def wkF:List (Lean.TSyntax `tactic)->Lean.MacroM (Lean.TSyntax `tactic)
 |[t]=>pure t
 |t::r=>do let r <- wkF r;`(tactic| first|$t:tactic|$r:tactic)
 |[]=>`(tactic| fail)
def wkR(s:String):Lean.MacroM (Lean.TSyntax `tactic):=do wkF (<- (s.splitOn "|").mapM λt=>do let t <- wkT t;`(tactic| refine' $t))
def wkG(s:String):Lean.MacroM (Lean.TSyntax `tactic):=do
 match s.splitOn ";" with
 |[g,r]=>let g <- wkT g;let r <- wkR r;`(tactic| (guard_target =~ $g;$r:tactic))
 |[g,n,r]=>let g <- wkT g;let n <- wkT n;let r <- wkR r;`(tactic| (guard_target =~ $g;(fail_if_success (guard_target =~ $n));$r:tactic))
 |_=>`(tactic| fail)
def wkL(s:String):Lean.MacroM (Lean.TSyntax `tactic):=do
 match s.splitOn "\n" with
 |g::l=>let g <- wkT g;let r <- wkF (<- l.mapM wkG);`(tactic| (guard_target =~ $g;$r:tactic))
 |_=>`(tactic| fail)
def wkS:=["FE _ _ _ _\nFE _ _ ( .Constant _ _ _ ) _;IH|xV|e8|r8\nFE _ _ ( .Subscript _ ( .Slice _ _ _ _ ) _ ) _;Ý rfl ? ? ?\nFE _ _ ( .Subscript _ _ _ ) _;FE _ _ ( .Subscript ( .Attribute _ _ _ ) _ _ ) _;GN fK ( pK rfl ) ? ? λ\nFE _ _ ( .Call ( .Name 'len _ ) [ ( .Call ( .Name 'set _ ) _ _ _ ) ] _ _ ) _;Z8 rfl rfl rfl ( bg.gy ! ) rfl ( bg.Qy ! ) ?\nFE _ _ ( .Call ( .Name 'len _ ) _ _ _ ) _;sF X8 ( P8 rfl ) rfl ( bg.gy ! ) Jx ?\nFE _ _ ( .Call ( .Name 'sum _ ) _ _ _ ) _;sF ( aW rfl ) ( pX rfl ) rfl ( bg.wy ! ) boot_sum ?\nFE _ _ ( .Call ( .Name 'all _ ) _ _ _ ) _;sF ( sY rfl ) ( G0 rfl ) rfl ( bg.mD ! ) boot_all ?\nFE _ _ ( .Call ( .Name 'isinstance _ ) [ _ ( .Name 'tuple _ ) ] _ _ ) _;iD .tuple ? rfl ( bg.Ve ! ) rfl ( bg.lr ! ) boot_tuple\nFE _ _ ( .Call ( .Name 'isinstance _ ) [ _ ( .Name 'str _ ) ] _ _ ) _;iD .str ? rfl ( bg.Ve ! ) rfl ( bg.OF ! ) boot_str\nFE _ _ ( .Call ( .Name 'isinstance _ ) [ _ ( .Name 'int _ ) ] _ _ ) _;iD .int ? rfl ( bg.Ve ! ) rfl ( bg.lF ! ) boot_int\nFE _ _ ( .Call ( .Name 'isinstance _ ) [ _ ( .Name 'bool _ ) ] _ _ ) _;iD .bool ? rfl ( bg.Ve ! ) rfl ( bg.Iz ! ) boot_bool\nFE _ _ ( .Call ( .Name 'isinstance _ ) [ _ ( .Name 'list _ ) ] _ _ ) _;iD .list ? rfl ( bg.Ve ! ) rfl ( bg.Jt ! ) boot_list\nFE _ _ ( .Call ( .Name _ _ ) _ _ _ ) _;Ã ! ! ?\nFE _ _ ( .Call ( .Attribute _ 'append _ ) _ _ _ ) _;jO uh dn jn fN fM ? ?\nFE _ _ ( .Call ( .Attribute _ 'extend _ ) _ _ _ ) _;jO uh PySem.F.slot_list_extend PySem.F.type_list_extend G4 zfi ? ?\nFE _ _ ( .Call ( .Attribute _ _ _ ) ( .cons _ _ ) _ _ ) _;Í ! ! ? ?\nFE _ _ ( .Call ( .Attribute _ _ _ ) [ ] _ _ ) _;U8 ! ! ?\nFE _ _ ( .Attribute _ _ _ ) _;Ć ! ?\nFE _ _ ( .Tuple _ _ _ ) _;gZ ?\nFE _ _ ( .BinOp _ .Add _ _ ) _;uv ( YW rfl ) Kr ? ?\nFE _ _ ( .BinOp _ .Sub _ _ ) _;uv E9 O6 ? ?\nFE _ _ ( .BinOp _ .Mod _ _ ) _;uv ygy jY ? ?\nFE _ _ ( .BinOp _ .FloorDiv _ _ ) _;uv hZ l8 ? ?\nFE _ _ ( .BinOp _ .Mult _ _ ) _;uv G7 B5 ? ?\nFE _ _ ( .BinOp _ .Pow _ _ ) _;uv ξ Μ ? ?\nFE _ _ ( .BinOp _ .BitAnd _ _ ) _;uv X9 m3 ? ?\nFE _ _ ( .BinOp _ .RShift _ _ ) _;uv Þ Ŗ ? ?\nFE _ _ ( .Compare _ [ .Eq ] _ _ ) _;Op ( JT ( Hn ! ) ) Kr ? ? ( xo _ )\nFE _ _ ( .Compare _ [ .NotEq ] _ _ ) _;Op ( MJ ( Hn ! ) ) Kr ? ? ( xo _ )\nFE _ _ ( .Compare _ [ .Lt ] _ _ ) _;Op EI mI ? ? ( xo _ )\nFE _ _ ( .Compare _ [ .LtE ] _ _ ) _;Op qB XA ? ? ( xo _ )\nFE _ _ ( .Compare _ [ .Gt ] _ _ ) _;Op oW lW ? ? ( xo _ )\nFE _ _ ( .Compare _ [ .GtE ] _ _ ) _;Op PK NN ? ? ( xo _ )\nFE _ _ ( .Compare _ [ .Is ] _ _ ) _;Op OV oU ? ? ( xo _ )\nFE _ _ ( .Compare _ [ .IsNot ] _ _ ) _;Op qV bU ? ? ( xo _ )\nFE _ _ ( .Compare _ [ .LtE _ ] _ _ ) _;uX qB XA qB XA ? ? ?\nFE _ _ ( .Compare _ [ .Lt _ ] _ _ ) _;uX EI mI qB XA ? ? ?\nFE _ _ ( .BoolOp .And ( .cons _ ( .cons _ _ ) ) _ ) _;IF ? ?\nFE _ _ ( .BoolOp .Or ( .cons _ ( .cons _ _ ) ) _ ) _;j0 ? ?\nFE _ _ ( .BoolOp _ [ _ ] _ ) _;CI ?\nFE _ _ ( .UnaryOp .Not _ _ ) _;R4 ?\nFE _ _ ( .UnaryOp .USub _ _ ) _;O0 o0 zzj ?\nFE _ _ ( .IfExp _ _ _ _ ) _;XT ? ? ?","FA _ _ _ _\nFA _ _ _ _;wx|Qr ? ?","Ul _ _ _ _\nUl _ _ _ _;Oz|Qi ?|pe ? ?","FS _ _ _ _\nFS _ _ ( .Return _ _ ) _;Dr ?\nFS _ _ ( .Assign [ ( .Attribute _ _ _ ) ] _ _ ) _;GY ! ? ?\nFS _ _ ( .Expr _ _ ) _;Qv ?\nFS _ _ ( .Raise ( some ( .Call ( .Name 'NoDeed _ ) _ _ _ ) ) _ _ ) _;ç 2 PySem.F.excBase_ValueError rfl ( bg.Bu ! ) ( bg.gp ! ) rfl rfl ( Qr xV wx )","FT _ _ _ _\nFT _ _ ( .BoolOp _ _ _ ) _;L2.PW.pt ?\nFT _ _ ( .UnaryOp .Not _ _ ) _;QU ?\nFT _ _ ( .Compare _ [ .Eq ] _ _ ) _;Gq ( JT ( Hn ! ) ) Kr ? ? ( xo _ )\nFT _ _ ( .Compare _ [ .NotEq ] _ _ ) _;Gq ( MJ ( Hn ! ) ) Kr ? ? ( xo _ )\nFT _ _ ( .Compare _ [ .Lt ] _ _ ) _;Gq EI mI ? ? ( xo _ )\nFT _ _ ( .Compare _ [ .LtE ] _ _ ) _;Gq qB XA ? ? ( xo _ )\nFT _ _ ( .Compare _ [ .Gt ] _ _ ) _;Gq oW lW ? ? ( xo _ )\nFT _ _ ( .Compare _ [ .GtE ] _ _ ) _;Gq PK NN ? ? ( xo _ )\nFT _ _ ( .Compare _ [ .Is ] _ _ ) _;Gq OV oU ? ? ( xo _ )\nFT _ _ ( .Compare _ [ .IsNot ] _ _ ) _;Gq qV bU ? ? ( xo _ )\nFT _ _ ( .Compare _ [ .Lt _ ] _ _ ) _;bY EI mI qB XA ? ? ?\nFT _ _ _ _;FT _ _ ( .Compare _ _ _ _ ) _;rL ?","FW _ _ _ _\nFW _ _ _ _;MW ? ?|Ŀ ? ?|nQ ?|J6 ?","FG _ _ _ _\nFG _ _ ( .Tuple _ _ _ ) _;DL n=2 rfl ?|DL n=3 rfl ?|DL n=4 rfl ?","bB _ _ _ _\nbB _ _ _ _;ĳ|W3 ? ?","FI _ _ _ _ _\nFI _ _ _ ( .Call ( .Name 'range _ ) [ _ ] _ _ ) _;t6 rfl ( bg.br ! ) ?\nFI _ _ _ ( .Call ( .Name 'range _ ) _ _ _ ) _;D8 rfl ( bg.br ! ) ? ?\nFI _ _ _ _ _;SJ rfl ?","Zq _ _ _ _ _\nZq _ _ _ ( .Call ( .Name 'enumerate _ ) _ _ _ ) _;i9 rfl ( bg.Yo ! ) ?\nZq _ _ _ ( .Call ( .Name 'zip _ ) _ _ _ ) _;V7 rfl ( bg.tD ! ) ? ?","Tw _ _ _ _\nTw _ _ _ _;rY|ĥ ?","Lake.FO _ _ _ _\nLake.FO _ _ _ _;D6|v7 ?"]
def wkM:="A oH Z7 ( QY rfl ) rfl ( bg.Jt ! ) boot_list ?\nB oH T3 ( EY rfl ) rfl ( bg.lr ! ) boot_tuple ?\nC oH zT WZ rfl ( bg.Xt ! ) boot_dict ?\nD Gq ( JW rfl ( Hn ! ) ) Kr ? ? rfl|Op ( JW rfl ( Hn ! ) ) Kr ? ? rfl\nE Gq ( vR rfl ( Hn ! ) ) Kr ? ? rfl|Op ( vR rfl ( Hn ! ) ) Kr ? ? rfl\nF qC Vq rfl ? ? ?\nH oH zT j4 rfl ( bg.Xt ! ) boot_dict ?\nI EL ?\nK UY ?\nL Ù ?\nM Ź ? ? ?\nO sF ( v4 rfl ) ( zpv rfl ) rfl ( bg.vp ! ) Lake.DP ?\nQ O5 rfl rfl rfl ( bg.vp ! ) rfl ( bg.Qy ! ) ?\nR U4 ! ! ?\nS Gq TR ( nJ rfl true ) ? ? rfl|Op TR ( nJ rfl true ) ? ? rfl\na Zv ? ? ?\nb Zv ? Mz ?\nd zN ( Hn ! ) ? ? λ\nf Ny Vq rfl ? ? ?\nh NV ?\ni Gq ( pQ ( Hn ! ) ) rT ? ? rfl|Op ( pQ ( Hn ! ) ) rT ? ? rfl\nj Gq ( hU ( Hn ! ) ) uS ? ? rfl|Op ( hU ( Hn ! ) ) uS ? ? rfl\nl F5 ?\nm bW ( Hn ! ) ? ? ?\nn C8\ns Gq nN ( nJ rfl false ) ? ? rfl|Op nN ( nJ rfl false ) ? ? rfl\nu Ę !\nv Ψ ?\nx GN fK ( pK rfl ) ? ? λ\ny U1 ?\nz lL ?"
local macro_rules
 |`(tactic| walk_at $s:str)=>do
  let c:=s.getString.front;let r:=(s.getString.drop 1).toString;let r':=Lean.Syntax.mkStrLit r
  if c == '-' then return <- `(tactic| ((repeat intro _);walk_at "";walk_at $r'))
  if c == '+' then return <- `(tactic| (walk_at "";walk_at $r'))
  let n:=λ(c:Char)=>toString (c.toNat - 48);let (t,r) <-(if c == 'c' || c == 'q' || c == 'r' then (do
   let d:=(r.takeWhile (·!= '.')).toString.toList;let o:=(r.drop (d.length+1)).toString;let j:=n (d.headD '0');let d:=d.drop (if c == 'c' then 0 else 1);let e:=(d.takeWhile (·!= '/')).map n;let p:=((d.dropWhile (·!= '/')).drop 1).map n;let p:=if p.isEmpty then (List.range e.length).map toString else p
   let b:=λ(l:List String)=>l.foldl (·++·++" ") "[ "++"] ";let l:=b e++b p
   return (<- wkR (if c == 'c' then "k8 "++l++"? ? ? ?" else if c == 'q' then "o7 ( EV "++j++" "++l++"! ? ? ? ? )" else "EV "++j++" "++l++"! ? ? ? ?"),o)) else match (wkM.splitOn "\n").find? (·.front == c) with
    |some t=>return (<- wkR (t.drop 2).toString,r)
    |_=>return (<- wkF (<- (("FE _ _ _ _;Hl #\nFG _ _ _ _;Â i=# @n rfl @o\nFS _ _ ( .Assign _ _ _ ) _;MH i=# @n rfl @o ?\n_;vX i=# LS @n rfl @o ?".replace "#" (n c)).splitOn "\n").mapM wkG),r))
  let r:=Lean.Syntax.mkStrLit r;let t <- `(tactic| ($t:tactic<;>walk_at ""));let f:=λu=>`(tactic| first|$t:tactic|(rotate_left;$u:tactic))
  let u <- f (<- f (<- f (<- f t)))
  `(tactic| ($u:tactic;walk_at $r))
local macro_rules
 |`(tactic| walk_at "")=>do
  let r <- wkF (<- wkS.mapM wkL)
  `(tactic| repeat' ((fail_if_success guard_target =~ Ev->_);first
  |$r:tactic
  |(guard_target =~ List.Nodup _->_;intro _ _ _ _ _ _)
  |(intro _ _ _ _ _)))
section
variable{P:Aa}{w:Ta}{K:ϖ}{mg:Str->Option Value}{base:Heap}{ca:Nat->Addr}(a:bg K mg ca)
include a
instance lc:ZqF 1 2 "_law_cell_at" ["_law_script","_law_k"]:=Lc 2 2 0 108 [] (hb:=by walk_at "-a1001")
instance zm:ZqF 1 1 "is_whole" ["thing"]:=Lc 1 1 0 8 [] (hb:=by walk_at "-00")
instance sg:ZqF 2 3 "is_between" ["thing","least","most"]:=Lc 3 3 1 9 [] (hb:=by walk_at "-0102")
abbrev aM:Ev->M Fl:=(jh (jp (eT$ Sa (Ht ŝ) (ka 0)$ iy (ka 3) ń$ SY$ eC$ Z 2)$ eT$ Sa oLt (Sa Cb (ka 3)$ eC$ Z 4)$ Sa lh (ka 1)$ eC$ Z 1) zr Xh)
def NS:Ev->M Fl:=
 (Sb (jh (vu$ eT$ Bf 3 sg []$ Fa (ka 1)$ Fa (eC$ Z 1)$ Fa (eC$ Z 50) ib) zr Xh)$ Fk (kg$ ka 2) (jc 3) aM)
instance Eh:ZqF 3 3 "check_span" ["hand","every","pots"]:=Lc 4 3 2 84 ["made"] (g:=NS) (hb:=by walk_at "-b1uf23bs0331")
abbrev BM:Ev->M Fl:=(Ts (eC$ ϓ U2) (be (Cc [9,10] "known")$ ka 0)$ ka 2)
def SR:Ev->M Fl:=
 (Fk (kg$ ka 1) (jc 2) BM)
def qt:=Ff 3 2 0 28 92 2 ["word"] (g:=SR) (hb:=by walk_at "-f12m02")
instance wC:qg 1 2 "learn" ["self","words"] [(10,qt)]:=.Rf 1 10 "learn" qt .nil
def mC:=Ff 4 4 0 27 92 1 [] (hb:=by walk_at "-m101m201m301")
instance fu:qg 1 4 "hold" ["self","account","claim","seen"] [(10,mC)]:=.Rf 1 10 "hold" mC .nil
instance xp:ZqF 3 1 "is_day" ["thing"]:=Lc 1 1 2 13 [] (hb:=by walk_at "-0u")
instance Gn:ZqF 3 1 "is_word" ["thing"]:=Lc 1 1 2 12 [] (hb:=by walk_at "-0u")
instance Hk:ZqF 3 1 "is_amount" ["thing"]:=Lc 1 1 2 15 [] (hb:=by walk_at "-0u")
instance Cn:ZqF 3 1 "is_side" ["thing"]:=Lc 1 1 2 10 [] (hb:=by walk_at "-0")
instance ym:ZqF 4 1 "is_tie" ["thing"]:=Lc 1 1 3 27 [] (hb:=by walk_at "-000000")
instance pq:ZqF 5 1 "are_ties" ["thing"]:=Lc 1 1 4 29 [] (hb:=by walk_at "-b00ubzc.y000zc.y0000")
instance uo:ZqF 3 1 "are_shares" ["thing"]:=Lc 1 1 2 28 [] (hb:=by walk_at "-000u0u")
instance Ek:ZqF 3 1 "is_number" ["thing"]:=Lc 1 1 2 14 [] (hb:=by walk_at "-0u")
instance aj:ZqF 6 1 "is_stand" ["thing"]:=Lc 1 1 5 30 [] (hb:=by walk_at "-00000")
abbrev BD(x q:Str)(s:Stmt)(c:ac):Prop:=∀ (kV b d:Value) (an:Option Addr) (a ct:Value) (us:dN),us.length=c.length->bindArgs (ϭ x q (Vl s) (Sj s) (Gf s) rc kV b d an a ct) ⟨us,[]⟩=pure (c.zip us)
def jw{N P}{sc}(a:sc.kind=ϡ)(b:sc.isCoroutine=ŝ)(c:sc.isGenerator=ŝ)(h:N.Nodup/\N.take P.length=P/\(∀ x∈P,sc.names.lookup x=SY .local\/sc.names.lookup x=SY wc)/\∀ y∈sc.names,y.2≠ Bb):Fc N P sc:=⟨a,b,c,h.1,h.2.1,h.2.2.1,h.2.2.2⟩
abbrev rW:Stmt:=ck 31
def ZT:Ev->M Fl:=
 (Sb (de 3$ yf$ Fa (ka 0)$ Fa (ka 1)$ Fa (Nz (eT$ Sa Ux (ka 2)$ eC Ϛ) (yf ib)$ ka 2) ib)$ Sb (jh (vu$ eT$ Bf 1 aj []$ Fa (ka 3) ib) zr Xh)$ Di$ ka 3)
def tj:i'->M D:=ae λa=>ud$ ni 4 ZT a
def bQ:Fc ["number","shares","ties","made"] ["number","shares","ties"]$ Gf rW:=jw rfl rfl rfl (by decide +kernel)
def S6:tO "stand" "stand" rW ["number","shares","ties"] [rc]:=λe e e e e e e e e e d b c=>⟨λa=>QF.ap [0,0,0] d (by simpa using a) (by intro _ _ _;show vf _ _ _ _;exact ce rfl b c rfl rfl),λa=>QF.ap [0,0] d (by simpa using a) (by intro _ _;show vf _ _ _ _;exact ce rfl b c rfl rfl)⟩
def Ğ:ju ⟨K,ca,tx K⟩ P w mg base 7 "stand" ["number","shares","ties"] [rc] tj:=
 ju.ae$ ju.ud (Ě a.tj bQ λv v v v v v v b=>
  by have:=bQ.nd;walk_at "+30122b33")
instance Xl:ZqF 8 2 "first" ["left","right"]:=Lc 2 2 7 32 [] (hb:=by exact λa b c=>
 (Qi$ Dr$ S5 (Ğ a) rfl (b.mono$ by decide) rfl l4 Ν$ by walk_at "+01"))
def Np:=Ff 7 7 0 16 55 0 [] (hb:=by walk_at "-010203040zA50zA6")
instance:ZqC 6 1 7 "Calm" ["self","pot","side","mine","grant","may","strikes"] Np.f:=⟨λa=>⟨_,a.Qz,a.Qw,Np.ok a⟩,rfl⟩
abbrev χ:Stmt:=ck 59
def uU:Ev->M Fl:=
 (Sb (de 4$ Bf 2 Xl []$ Fa (ka 2)$ Fa (ka 3) ib)$ Di$ Dq 6 7 Np$ Fa (ka 0)$ Fa (ka 1)$ Fa (ka 4)$ Fa (eC Ϛ)$ Fa (Zi$ Fa (ka 4) ib)$ Fa (Zi ib) ib)
def Qd:i'->M D:=ae$ ni 5 uU
def kP:Fc ["pot","side","left","right","mine"] ["pot","side","left","right"]$ Gf χ:=jw rfl rfl rfl (by decide +kernel)
def za5:cj ⟨K,ca,tx K⟩ P w mg base 9 "first_account" ["pot","side","left","right"] Qd:=
 cj.ae (GF a.Qd kP λv v v v v v v b=>
  by have:=kP.nd;walk_at "+423R014v4v")
abbrev AD:Ev->M Fl:=(jh (eT$ Sa Hh (Sa Cb (ka 6)$ ka 7)$ ka 1) (Ri$ Ye [(10,mC)] 4 "hold" (ka 0)$ Fa (Bf 4 Qd []$ Fa (ka 5)$ Fa (ka 7)$ Fa (Sa Cb (ka 6)$ eC$ Z 2)$ Fa (Sa Cb (ka 6)$ eC$ Z 3) ib)$ Fa (eC$ .gt ["held"])$ Fa (eC$ Ϭ [] []) ib) Xh)
abbrev WA:Ev->M Fl:=(Fk (kg$ yf$ Fa (eC$ Z 0)$ Fa (eC$ Z 1) ib) (jc 7) AD)
abbrev qS:Stmt:=Uw (ck 92) 0
def yW:Ev->M Fl:=
 (Sb (Ri$ Bf 3 Eh []$ Fa (ka 1)$ Fa (ka 2)$ Fa (ka 3) ib)$ Sb (Rp [10] "hand" (ka 1)$ ka 0)$ Sb (Rp [9,10] "every" (ka 2)$ ka 0)$ Sb (Rp [9,10] "last_look" (eC$ Z 0)$ ka 0)$ Sb (Rp [10] "gave" (eC$ Z 0)$ ka 0)$ Sb (Rp [9,10] "known" ir$ ka 0)$ Sb (Rp [10] "accounts" ir$ ka 0)$ Sb (Rp [10,15] "claims" ir$ ka 0)$ Sb (Rp [10] "seen" ir$ ka 0)$ Sb (Rp [10] "asked" ir$ ka 0)$ Sb (Rp [10] "finishing" ir$ ka 0)$ Sb (Ri$ Ye [(10,qt)] 2 "learn" (ka 0)$ Fa (Nz (eT$ Sa Ux (ka 4)$ eC Ϛ) (Zi ib)$ ka 4) ib)$ Up (yH$ ka 3) (rl 2$ Vf (jc 5)$ Vf (jc 6) cm) WA)
def Hq:i'->M D:=ae$ ni 8 yW
def mV:Fc ["self","hand","every","pots","words","pot","made","side"] ["self","hand","every","pots","words"]$ Gf qS:=jw rfl rfl rfl (by decide +kernel)
def ř:tO "__init__" "Keeper.__init__" qS ["self","hand","every","pots","words"] [rc]:=λe e e e e e e e e e d b c=>⟨λa=>QF.ap [0,0,0,0,0] d (by simpa using a) (by intro _ _ _ _ _;show vf _ _ _ _;exact ce rfl b c rfl rfl),λa=>QF.ap [0,0,0,0] d (by simpa using a) (by intro _ _ _ _;show vf _ _ _ _;exact ce rfl b c rfl rfl)⟩
def w9:Mv ⟨K,ca,tx K⟩ P w mg base 10 (ca 26) ["self","hand","every","pots","words"] [rc] Hq:=
 Mv.ae (sW a.Hq mV λv v v v v v b=>
  by have c:=mV.nd;exact(pe (by walk_at "+123")$ pe (by walk_at "+01")$ pe (by walk_at "+02")$ pe (by walk_at "+0")$ pe (by walk_at "+0")$ pe (by walk_at "+0n")$ pe (by walk_at "+0n")$ pe (by walk_at "+0n")$ pe (by walk_at "+0n")$ pe (by walk_at "+0n")$ pe (by walk_at "+0n")$ pe (by walk_at "+04v4")$ Qi$ qC Vq rfl (by walk_at "+3") (by walk_at "+56")$ Qi$ Ny Vq rfl (by walk_at "") (by walk_at "+7")$ Qi$ Zv (by walk_at "+671") (Qi$ Qv$ iX (k:=1) (ps:=["self","account","claim","seen"]) rfl (Hl 0) (fu.ok a) (b.mono$ by decide)$ Qr (ew (za5 a) rfl (b.mono$ by decide) rfl$ by walk_at "+5766")$ Qr (iP (ss:=["held"]) rfl a.du)$ Qr X4 wx) Oz))
instance Ue:ZqF 1 2 "_law_mixed" ["_law_cell","_law_k"]:=Lc 4 2 0 109 ["_law_number","_law_rest"] (hb:=by walk_at "-20122222230a02a3332")
def Ip:=Pf 2 2 0 32 92 6 [] (hb:=by walk_at "-bj10d01")
instance az:qg 1 2 "account" ["self","pot"] [(10,Ip)]:=.Rf 1 10 "account" Ip .nil
abbrev nK:Ev->M Fl:=(lM (ka 0)$ rl 3$ Vf (jc 3)$ Vf (jc 4)$ Vf (jc 5) cm)
abbrev FP:Ev->M Fl:=(de 4$ Qm wr$ Fa (ka 4) ib)
abbrev uN:Ev->M Fl:=(jh (jp (eT$ Sa Hh (Sa jj (ka 2)$ eC$ Z 3)$ eC$ Z 0)$ eT$ Sa ah (ka 5)$ yf ib) (Sb (de 6$ Sa Cb (ka 5)$ Sa jj (Sa Nm (ka 2)$ eC$ Z 3)$ Qm Dn$ Fa (ka 5) ib)$ Sb (Vv (Sa lh (Sa Cb (ka 4)$ ka 1)$ Sa Cb (ka 6)$ eC$ Z 1) (ka 4)$ ka 1)$ de 5$ Qm Hz$ Fa (Sh$ Ei (Jj$ kg$ ka 5) [6] (jc 0) (eT$ Sa ah (ka 0)$ ka 2)$ ka 0) ib)$ jh (My (eT$ Sa oLt (Sa jj (ka 2)$ eC$ Z 3)$ eC$ Z 2)$ eT$ Sa oLt (Sa Cb (ka 4)$ Sa kl (eC$ Z 1)$ ka 1)$ eC$ Z 1) (Sb (Vv (Sa lh (Sa Cb (ka 4)$ ka 1)$ Sa Nm (Sa Cb (ka 4)$ Sa kl (eC$ Z 1)$ ka 1)$ eC$ Z 3) (ka 4)$ ka 1)$ Vv (Sa kl (Sa Cb (ka 4)$ Sa kl (eC$ Z 1)$ ka 1)$ Sa Nm (Sa Cb (ka 4)$ Sa kl (eC$ Z 1)$ ka 1)$ eC$ Z 3) (ka 4)$ Sa kl (eC$ Z 1)$ ka 1)$ Sb (de 7$ Sa jj (Sa Nm (ka 2)$ eC$ Z 9)$ eC$ Z 8)$ jh (eT$ Sa (Ht U2) (ka 7)$ Sh$ Ei (Jj$ kg$ ka 5) [] (jc 0) Ej$ Sa Cb (ka 0)$ eC$ Z 2) (Sb (de 5$ Sa lh (ka 5)$ yf$ Fa (yf$ Fa (Sa kl (eC$ Z 1)$ ka 1)$ Fa (eC$ Z 1)$ Fa (ka 7)$ Fa (Sa jj (Sa Nm (ka 2)$ eC$ Z 81)$ eC$ Z 24) ib) ib)$ Vv (Sa kl (Sa Cb (ka 4)$ Sa kl (eC$ Z 1)$ ka 1)$ eC$ Z 1) (ka 4)$ Sa kl (eC$ Z 1)$ ka 1) Xh)
abbrev pV:Ev->M Fl:=(Di$ yf$ Fa (Sa lh (ka 3)$ eC$ Z 1)$ Fa (Qm Hz$ Fa (ka 4) ib)$ Fa (ka 5) ib)
def aS:Ev->M Fl:=
 (Sb nK$ Sb FP$ Sb uN pV)
instance Tg:ZqF 1 3 "_law_next" ["_law_one","_law_side","_law_draw"]:=Lc 8 3 0 110 ["_law_number","_law_split","_law_ties","_law_tie","_law_word"] (g:=aS) (hb:=by exact λa b c=>
 (pe (T4 (Hl 0)$ by walk_at "+345")$ by walk_at "+4A4a256525M416415Bzc6.y50020a241M414141M41414172aS7zc.y50055172M41413B45"))
instance qp:ZqF 3 1 "is_pot" ["thing"]:=Lc 1 1 2 16 [] (hb:=by walk_at "-0u")
instance ki:ZqF 4 1 "is_of_a_side" ["thing"]:=Lc 1 1 3 46 [] (hb:=by walk_at "-000")
instance Oe:ZqF 7 1 "is_thing" ["thing"]:=Lc 1 1 6 47 [] (hb:=by exact λa b c=>
 (pe (by walk_at "+b000")$ pe (by walk_at "+b0")$ pe (by walk_at "+a000")$ pe (by walk_at "+a000") Mz))
instance Ik:ZqF 8 1 "is_strike" ["thing"]:=Lc 1 1 7 50 [] (hb:=by walk_at "-00")
instance Am:ZqF 8 1 "is_agree" ["thing"]:=Lc 1 1 7 49 [] (hb:=by walk_at "-00")
instance ve:ZqF 9 1 "has_its_parts" ["letter"]:=Lc 1 1 8 51 [] (hb:=by exact λa b c=>
 (pe (by walk_at "+a000")$ pe (by walk_at "+a0000")$ pe (by walk_at "+a000")$ pe (by walk_at "+a0000") Mz))
instance Xc:ZqF 10 1 "is_letter" ["thing"]:=Lc 1 1 9 52 [] (hb:=by walk_at "-b00000")
def Du:=Pf 2 2 0 38 92 12 [] (hb:=by exact λa b c=>
 (Qi$ Dr$ IF (by walk_at "+i10")$ CI$ Op (ħ rfl$ Hn b) Kr (by walk_at "+d01") (iP (ss:=["held"]) rfl a.du)$ xo _))
instance iB:qg 1 2 "holds" ["self","pot"] [(10,Du)]:=.Rf 1 10 "holds" Du .nil
def cy:=Pf 1 1 0 19 56 0 []
def tz:=Pf 1 1 0 21 57 0 []
def rE:=Pf 1 1 0 23 58 0 []
instance ZC:qg 1 1 "word" ["self"] [(6,cy),(7,tz),(8,rE)]:=.Rf 1 6 "word" cy$ .Rf 1 7 "word" tz$ .Rf 1 8 "word" rE .nil
instance Zl:ZqF 1 1 "deals" ["one"]:=Lc 1 1 0 33 [] (hb:=by walk_at "-0zc.y000")
instance Ze:ZqF 7 2 "is_stand_of" ["thing","coin"]:=Lc 2 2 6 34 [] (hb:=by walk_at "-001")
def Qk:=Pf 3 3 0 17 55 1 [] (hb:=by walk_at "-012")
instance Ww:qg 1 3 "agree_of" ["self","side","one"] [(5,Qk),(6,Qk),(7,Qk),(8,Qk)]:=.Rf 1 5 "agree_of" Qk$ .Rf 1 6 "agree_of" Qk$ .Rf 1 7 "agree_of" Qk$ .Rf 1 8 "agree_of" Qk .nil
instance:ZqC 7 1 7 "Offered" ["self","pot","side","mine","grant","may","strikes"] Np.f:=⟨λa=>⟨_,a.Br,a.Cq,Np.ok a⟩,rfl⟩
abbrev ziq:Stmt:=ck 60
def IJ:Ev->M Fl:=
 (Sb (jh (My (eT$ Sa ah (be (Cc [5,6,7,8,13,14] "side")$ ka 0)$ eC$ Z 0)$ eT$ Sa ah (Ye [(6,cy),(7,tz),(8,rE)] 1 "word" (ka 0) ib)$ eC$ ϐ "calm") (LM 2$ Fa (eC$ ϐ "only the lead offers, and only when it is calm") ib) Xh)$ Sb (de 3$ yf$ Fa (Sa lh (Sa Cb (be (Cc [5,6,7,8] "mine")$ ka 0)$ eC$ Z 0)$ eC$ Z 1)$ Fa (ka 1)$ Fa (ka 2) ib)$ Sb (jh (vu$ eT$ Bf 2 Ze []$ Fa (ka 3)$ Fa (Bf 1 Zl []$ Fa (be (Cc [5,6,7,8] "mine")$ ka 0) ib) ib) zr Xh)$ Sb (de 4$ Dq 7 7 Np$ Fa (be (Cc [5,6,7,8] "pot")$ ka 0)$ Fa (be (Cc [5,6,7,8,13,14] "side")$ ka 0)$ Fa (be (Cc [5,6,7,8] "mine")$ ka 0)$ Fa (be (Cc [5,6,7,8] "grant")$ ka 0)$ Fa (Zi$ Fa (be (Cc [5,6,7,8] "mine")$ ka 0)$ Fa (ka 3) ib)$ Fa (be (Cc [5,6,7,8] "strikes")$ ka 0) ib)$ Di$ yf$ Fa (ka 4)$ Fa (yf$ Fa (eC$ ϐ "offer")$ Fa (be (Cc [5,6,7,8] "pot")$ ka 0)$ Fa (Ye [(5,Qk),(6,Qk),(7,Qk),(8,Qk)] 3 "agree_of" (ka 0)$ Fa (eC$ Z 0)$ Fa (ka 3) ib) ib) ib)
def Se:i'->M D:=ae$ ni 5 IJ
def JU:Fc ["account","shares","ties","one","behind"] ["account","shares","ties"]$ Gf ziq:=jw rfl rfl rfl (by decide +kernel)
def Ô:cj ⟨K,ca,tx K⟩ P w mg base 8 "offered" ["account","shares","ties"] Se:=
 cj.ae (GF a.Se JU λv v v v v v v b=>
  by have:=JU.nd;walk_at "+a003x012b304R0000v0304003")
instance Rh:ZqF 1 2 "shown_in_time" ["tie","shown"]:=Lc 2 2 0 40 [] (hb:=by exact λa b c=>
 (Qi$ Dr$ IF (by walk_at "+i01")$ CI jE))
instance Bj:ZqF 2 3 "lot_of_due" ["view","seen","tie"]:=Lc 3 3 1 65 [] (hb:=by walk_at "-b21a02aD20002")
instance Em:ZqF 3 3 "lot_of" ["view","pot","tie"]:=Lc 3 3 2 66 [] (hb:=by walk_at "-b21012")
abbrev wO:Ev->M Fl:=(Sb (de 6$ Bf 3 Em []$ Fa (ka 0)$ Fa (ka 1)$ Fa (ka 5) ib)$ Sb (Ts (yf$ Fa (ka 6)$ Fa (Sa Cb (ka 5)$ eC$ Z 1)$ Fa (Sa Cb (ka 5)$ eC$ Z 3) ib) (ka 4)$ Sa Cb (ka 5)$ eC$ Z 2)$ jh (eT$ be (iI ŝ ["won","sure","back"])$ ka 6) (qy (λa b=>a+b) 3$ Sa Cb (ka 5)$ eC$ Z 1) Xh)
def lQ:Ev->M Fl:=
 (Sb (de 3$ Sa Cb (Sa Cb (ka 2)$ eC$ Z 1)$ Sa Cb (ka 1)$ eC$ Z 0)$ Sb (de 4 ir)$ Sb (Fk (kg$ Sa Cb (ka 2)$ eC$ Z 2) (jc 5) wO)$ Di$ yf$ Fa (ka 3)$ Fa (ka 4) ib)
instance rg:ZqF 4 3 "read_stand" ["view","pot","one"]:=Lc 7 3 3 67 ["firm","lots","tie","lot"] (g:=lQ) (hb:=by exact λa b c=>
 (pe (by walk_at "+321")$ pe (by walk_at "+4n")$ pe (Ny Vq rfl (by walk_at "+2") (by walk_at "+5")$ pe (by walk_at "+6015")$ pe (by walk_at "+m65545")$ Qi$ Zv (kZ (ss:=["won","sure","back"]) rfl a.eA$ Hl 6) (by walk_at "+35") Oz)$ by walk_at "+34"))
abbrev UN:Ev->M Fl:=(Ri$ qq Pg (ka 1)$ Fa (Sh$ Ei (Jj$ kg$ Sa Cb (ka 2)$ eC$ Z 1) [0,2] (jc 0) Ej$ Bf 3 rg []$ Fa (ka 2)$ Fa (ka 3)$ Fa (ka 0) ib) ib)
def CQ:Ev->M Fl:=
 (Sb (de 1$ No ib)$ Sb (Fk (kg$ be (Cc [9,15] "pots")$ ka 0) (jc 2) UN)$ Di$ ka 1)
instance pi:ZqF 5 1 "read_pots" ["view"]:=Lc 3 1 4 68 ["readings","pot"] (g:=CQ) (hb:=by walk_at "-1lf021zc02/10.y202301")
abbrev QI:Ev->M Fl:=(Ri$ qq wv (ka 3)$ Fa (Sh$ Ei (Jj$ io$ Qm Dn$ Fa (ka 2) ib) [4] (jc 0) Ej$ Sa lh (ka 2)$ Zi$ Fa (ka 0) ib) ib)
abbrev iF:Ev->M Fl:=(Sb (de 3$ No ib)$ Sb (Fk (kg$ ka 1) (jc 4) QI)$ de 1$ ka 3)
def gW:Ev->M Fl:=
 (Sb (de 1$ Zi$ Fa (Zi ib) ib)$ Sb (Fk (kg$ ka 0) (jc 2) iF)$ Di$ ka 1)
instance Sf:ZqF 1 1 "all_choices" ["readings"]:=Lc 5 1 0 69 ["choices","stands","longer","chosen"] (g:=gW) (hb:=by walk_at "-1vvf023lf143zc4.y202v0131")
abbrev CM:Ev->M Fl:=(Ri$ qq Pg (RH Vw (ka 1)$ Fa (ka 3)$ Fa (No ib) ib)$ Fa (ka 4) ib)
abbrev lN:Ev->M Fl:=(Up (GB$ Sa Cb (ka 2)$ eC$ Z 1) (rl 2$ Vf (jc 3)$ Vf (jc 4) cm) CM)
def cX:Ev->M Fl:=
 (Sb (de 1 ir)$ Sb (Fk (kg$ ka 0) (jc 2) lN)$ Di$ ka 1)
instance Eg:ZqF 1 1 "lots_by_word" ["reads"]:=Lc 5 1 0 71 ["by_word","read","word","lot"] (g:=cX) (hb:=by exact λa b c=>
 (pe (by walk_at "+1n")$ pe (Ny Vq rfl (SJ rfl$ Hl 0) (by walk_at "+2")$ Qi$ qC Vq rfl (by walk_at "+I2") (by walk_at "+34")$ Qi$ Qv$ jO uh dn jn fN fM (BS pf Rl PySem.F.type_dict_setdefault Î į (Hl 1)$ by walk_at "+3l")$ Qr (Hl 4) wx)$ by walk_at "+1"))
instance Yi:ZqF 1 1 "fates_of" ["lots"]:=Lc 1 1 0 72 [] (hb:=by exact λa b c=>
 (Qi$ Dr$ uv (YW rfl) Kr (by walk_at "+v")$ lL$ aK (x:="lot") (z0:="0") (M':=[]) (ix:=[]) rfl ⟨rfl,rfl,rfl,rfl,rfl,rfl⟩ (by walk_at "+y0") (λz z z z z=>(by walk_at "+0")) (λz z z z z=>(by walk_at "+0"))$ λz z z z z=>jE))
instance Yf:ZqF 1 3 "comes_by_fate" ["lot","fate","every"]:=Lc 3 3 0 73 [] (hb:=by exact λa b c=>
 (pe (by walk_at "+b0")$ Qi$ Dr$ IF (by walk_at "+0")$ IF (by walk_at "+1")$ CI jE))
instance we:ZqF 2 3 "sum_by_fate" ["lots","fate","every"]:=Lc 3 3 1 74 [] (hb:=by exact λa b c=>
 (Qi$ Dr$ sF (aW rfl) (pX rfl) rfl a.wy boot_sum$ Qr (lL$ aK (x:="lot") (z0:="0") (M':=["fate","every"]) (ix:=[1,2]) rfl ⟨rfl,rfl,rfl,rfl,rfl,rfl⟩ (by walk_at "+y0") (λv v v v v=>(by walk_at "+0")) (λv v v v v=>(by walk_at "+023"))$ λv v v v v=>jE) wx))
abbrev ŷ:Stmt:=ck 75
def VV:Ev->M Fl:=
 (Di$ GI [0,1] (Bf 3 we []$ Fa (ka 1)$ Fa (ka 0)$ Fa (ka 2) ib)$ Fa (Bf 1 Yi []$ Fa (ka 0) ib) ib)
def Te:i'->M D:=ae λa=>ud$ ni 2 VV a
def dR:Fc ["lots","every"] ["lots","every"]$ Gf ŷ:=jw rfl rfl rfl (by decide +kernel)
def Ι:cj ⟨K,ca,tx K⟩ P w mg base 5 "least_fate" ["lots","every"] Te:=
 cj.ae$ cj.ud (DT a.Te dR λv v v v v v c=>
  by have e:=dR.nd;exact(Qi$ Dr$ BV (x:="fate") (M':=["lots","every"]) (ix:=[0,1]) (t:=eJ K) (k:=2) (c.mono$ by decide) ⟨rfl,rfl,rfl,rfl,rfl,rfl⟩ rfl ⟨(HQ K),λd b=>a.zD _ (HQ K) d b,rfl,a.tb.hd _ ⋯,rfl,rfl,rfl,a.VR,a.tb.bb⟩ rfl a.Ky rfl rfl rfl (λv v v v v=>rfl) (by walk_at "+0")$ λv v v v v c=>(by walk_at "+102")))
abbrev SU:Ev->M Fl:=(qy (λa b=>a+b) 4$ Bf 3 we []$ Fa (ka 6)$ Fa (Sa gk (ka 2)$ ka 5)$ Fa (ka 3) ib)
def OP:Ev->M Fl:=
 (Sb (de 4$ Qm Bz$ Fa (Sh$ Ei (Jj$ kg$ ka 0) [] (jc 0) Ej$ Sa Cb (ka 0)$ eC$ Z 0) ib)$ Sb (Up (GB$ ka 1) (rl 2$ Vf (jc 5)$ Vf (jc 6) cm) SU)$ Di$ ka 4)
instance Dm:ZqF 3 4 "sum_of" ["reads","by_word","fates","every"]:=Lc 7 4 2 76 ["total","word","lots"] (g:=OP) (hb:=by exact λb a c=>
 (pe (by walk_at "+4zc.y000")$ pe (qC Vq rfl (EL$ Hl 1) (by walk_at "+56")$ Qi$ vX (i:=4) LS c rfl (ϑ rfl)$ ew (we.ok b) rfl (a.mono$ by decide) rfl$ Qr (Hl 6)$ Qr (zN (Hn a) (Hl 2) (Hl 5)$ λv v=>rfl)$ Qr (Hl 3) wx)$ by walk_at "+4"))
abbrev PU:Ev->M Fl:=(Ts (Bf 2 Te []$ Fa (ka 6)$ Fa (ka 2) ib) (ka 4)$ ka 5)
def ET:Ev->M Fl:=
 (Sb (de 3$ Bf 1 Eg []$ Fa (ka 0) ib)$ Sb (de 4 ir)$ Sb (Up (GB$ ka 3) (rl 2$ Vf (jc 5)$ Vf (jc 6) cm) PU)$ Di$ yf$ Fa (Bf 4 Dm []$ Fa (ka 0)$ Fa (ka 3)$ Fa (ka 4)$ Fa (ka 2) ib)$ Fa (ka 1)$ Fa (ka 4) ib)
instance Tf:ZqF 6 3 "least_paper" ["reads","chosen","every"]:=Lc 7 3 5 77 ["by_word","fates","word","lots"] (g:=ET) (hb:=by exact λb a c=>
 (pe (by walk_at "+30")$ pe (by walk_at "+4n")$ pe (qC Vq rfl (EL$ Hl 3) (by walk_at "+56")$ Qi$ bW (Hn a) (ew (Ι b) rfl (a.mono$ by decide) rfl$ by walk_at "+62") (Hl 4)$ Hl 5)$ by walk_at "+034214"))
instance Ge:ZqF 1 2 "chosen_readings" ["readings","chosen"]:=Lc 2 2 0 70 [] (hb:=by walk_at "-zc.010101")
abbrev Ä:Stmt:=ck 78
def CS:Ev->M Fl:=
 (Sb (de 1$ Bf 1 pi []$ Fa (ka 0) ib)$ Sb (de 2$ Sh$ Ei (Jj$ kg$ Bf 1 Sf []$ Fa (ka 1) ib) [1,0] (jc 0) Ej$ Bf 3 Tf []$ Fa (Bf 2 Ge []$ Fa (ka 2)$ Fa (ka 0) ib)$ Fa (ka 0)$ Fa (be (Cc [9,10] "every")$ ka 3) ib)$ Di$ GI [] (Sa Cb (ka 0)$ eC$ Z 0)$ Fa (ka 2) ib)
def Hj:i'->M D:=ae λa=>ud$ ni 3 CS a
def bV:Fc ["view","readings","papers"] ["view"]$ Gf Ä:=jw rfl rfl rfl (by decide +kernel)
def ĵ:cj ⟨K,ca,tx K⟩ P w mg base 7 "paper" ["view"] Hj:=
 cj.ae$ cj.ud (DT a.Hj bV λv v v v v v c=>
  by have e:=bV.nd;exact(pe (by walk_at "+10")$ pe (by walk_at "+q210.y102003")$ Qi$ Dr$ BV (x:="told") (M':=[]) (ix:=[]) (t:=rG K) (k:=0) (c.mono$ by decide) ⟨rfl,rfl,rfl,rfl,rfl,rfl⟩ rfl ⟨(lP K),λd b=>a.zD _ (lP K) d b,rfl,a.tb.hd _ ⋯,rfl,rfl,rfl,a.VR,a.tb.bb⟩ rfl a.Ky rfl rfl rfl (λv v v v v=>rfl) (Qr (Hl 2) wx)$ λv v v v v c=>(by walk_at "+0")))
instance zi:ZqF 8 1 "worth" ["view"]:=Lc 1 1 7 79 [] (hb:=by exact λa b c=>
 (Qi$ Dr$ GN fK (pK rfl) (ew (ĵ a) rfl (b.mono$ by decide) rfl$ Qr (Hl 0) wx) IH$ λd d=>rfl))
instance Kk:ZqF 1 3 "with_more" ["shares","side","amount"]:=Lc 3 3 0 35 [] (hb:=by walk_at "-a1020002")
instance ze:ZqF 2 2 "stands_told" ["account","claim"]:=Lc 2 2 1 85 [] (hb:=by walk_at "-a10a1v1v10")
def gB:=Ff 5 5 0 25 63 0 [] (hb:=by walk_at "-01020zA30zc.y400zA0C0")
def jt:=Pf 1 1 0 29 92 3 [] (hb:=by walk_at "-zO0")
instance jB:qg 1 1 "words" ["self"] [(10,jt)]:=.Rf 1 10 "words" jt .nil
abbrev nU:Ev->M Fl:=(Ri$ qq Pg (ka 2)$ Fa (yf$ Fa (be (Cc [5,6,7,8,13,14] "side")$ ka 4)$ Fa (Bf 2 ze []$ Fa (ka 4)$ Fa (Sa gk (be (Cc [10,15] "claims")$ ka 0)$ ka 3) ib)$ Fa (Sa gk (be (Cc [10] "seen")$ ka 0)$ ka 3) ib) ib)
instance:ZqC 9 1 5 "View" ["self","every","look","words","pots"] gB.f:=⟨λa=>⟨_,a.xA,a.Dx,gB.ok a⟩,rfl⟩
def lX:Ev->M Fl:=
 (Sb (de 2$ No ib)$ Sb (Av (ka 1)$ Up (Rx$ ka 1) (rl 2$ Vf (jc 3)$ Vf (jc 4) cm) nU)$ Di$ Sh$ Dq 9 5 gB$ Fa (be (Cc [9,10] "every")$ ka 0)$ Fa (be (Cc [9,10] "last_look")$ ka 0)$ Fa (Ye [(10,jt)] 1 "words" (ka 0) ib)$ Fa (ka 2) ib)
def FB:=Pf 5 2 2 33 92 7 ["pots","pot","account"] (g:=lX) (hb:=by walk_at "-2lhFL134244d03d03zR0002")
instance vy:qg 3 2 "view_by" ["self","accounts"] [(10,FB)]:=.Rf 3 10 "view_by" FB .nil
def EF:=Pf 1 1 3 34 92 8 [] (hb:=by walk_at "-00")
instance kE:qg 4 1 "view" ["self"] [(10,EF)]:=.Rf 4 10 "view" EF .nil
def mF:=Pf 1 1 8 35 92 9 [] (hb:=by exact λa b c=>
 (Qi$ Dr$ ew (cj.alias (zi.ok a) a.ji) rfl (b.mono$ by decide) rfl$ by walk_at "+0"))
instance bC:qg 9 1 "worth" ["self"] [(10,mF)]:=.Rf 9 10 "worth" mF .nil
def Wx:=Pf 4 3 9 37 92 11 ["accounts"] (hb:=by exact λa b c=>
 (pe (by walk_at "+3H0")$ pe (by walk_at "+m131")$ Qi$ Dr$ Op PK NN (ew (cj.alias (zi.ok a) a.ji) rfl (b.mono$ by decide) rfl$ by walk_at "+03") (by walk_at "+02")$ xo _))
instance xw:qg 10 3 "is_good" ["self","account","allowance"] [(10,Wx)]:=.Rf 10 10 "is_good" Wx .nil
abbrev lJ:Ev->M Fl:=(NL (de 2$ Bf 3 Se []$ Fa (Sa gk (be (Cc [10] "accounts")$ ka 0)$ Sa Cb (ka 1)$ eC$ Z 1)$ Fa (Sa Cb (ka 1)$ eC$ Z 2)$ Fa (Sa Cb (ka 1)$ eC$ Z 3) ib)$ ⟨(lx [(1,U2),(2,U2)]),ń,(Di$ Zi ib)⟩::[])
abbrev KI:Ev->M Fl:=(jh (vu$ eT$ Ye [(10,Wx)] 3 "is_good" (ka 0)$ Fa (Sa Cb (ka 2)$ eC$ Z 0)$ Fa (eC$ Z 0) ib) (Di$ Zi ib) Xh)
abbrev wI:Ev->M Fl:=(Ts (Sa Cb (ka 2)$ eC$ Z 0) (be (Cc [10] "accounts")$ ka 0)$ Sa Cb (ka 1)$ eC$ Z 1)
abbrev jJ:Ev->M Fl:=(Di$ Zi$ Fa (Sa Cb (ka 2)$ eC$ Z 1) ib)
def vG:Ev->M Fl:=
 (Sb lJ$ Sb KI$ Sb wI jJ)
def Aw:=Ff 3 2 10 42 92 16 ["step"] (g:=vG) (hb:=by exact λa c d=>
 (pe (qZ rfl rfl (λz z b=>(Qi$ MH (i:=2) d rfl (ϑ rfl)$ ew (Ô a) rfl (c.mono$ by decide) rfl$ by walk_at "+d0111"))$ .Uy rfl ⋯ (ϑ a.gp) rfl ⋯ (ϑ a.Ir) (Ŷ$ RT a.ik a.Gj$ RT a.El a.pk cY) (λz=>(by walk_at "+v")) .nil)$ by walk_at "+a02vm201v2"))
instance Ov:qg 11 2 "take_ask" ["self","letter"] [(10,Aw)]:=.Rf 11 10 "take_ask" Aw .nil
instance (priority:=1001) mo12_agree_of:qg 1 3 "agree_of" ["self","side","one"] [(6,Qk)]:=.Rf 1 6 "agree_of" Qk .nil
instance ii:ZqF 8 2 "is_following" ["thing","one"]:=Lc 2 2 7 54 [] (hb:=by walk_at "-0101")
def Qj:=Pf 3 3 0 18 55 2 [] (hb:=by walk_at "-012")
instance Qt:qg 1 3 "strike_of" ["self","side","one"] [(6,Qj)]:=.Rf 1 6 "strike_of" Qj .nil
instance:ZqC 8 1 7 "Waiting" ["self","pot","side","mine","grant","may","strikes"] Np.f:=⟨λa=>⟨_,a.Sr,a.Bq,Np.ok a⟩,rfl⟩
def Iu:=Ff 5 2 10 20 56 1 ["one","agree","behind"] (hb:=by walk_at "-a011021302b103204R0023v020400200")
instance (priority:=1002) mo14_agree_of:qg 1 3 "agree_of" ["self","side","one"] [(7,Qk)]:=.Rf 1 7 "agree_of" Qk .nil
instance (priority:=1001) mo15_strike_of:qg 1 3 "strike_of" ["self","side","one"] [(7,Qj)]:=.Rf 1 7 "strike_of" Qj .nil
def Nw:=Ff 5 2 10 22 57 1 ["one","agree","behind"] (hb:=by walk_at "-2x0302a11030004R0023v20vx04000")
instance (priority:=1002) mo16_strike_of:qg 1 3 "strike_of" ["self","side","one"] [(8,Qj)]:=.Rf 1 8 "strike_of" Qj .nil
def px:=Ff 4 2 10 24 58 1 ["old","behind"] (hb:=by walk_at "-2x0a1100203R0000v00v23")
instance wz:qg 11 2 "taken" ["self","letter"] [(6,Iu),(7,Nw),(8,px)]:=.Rf 11 6 "taken" Iu$ .Rf 11 7 "taken" Nw$ .Rf 11 8 "taken" px .nil
def ZB:=Pf 2 2 0 43 92 17 [] (hb:=by exact λa b c=>
 (pe (by walk_at "+a1j10") Mz))
instance Pr:qg 1 2 "is_as_asked" ["self","letter"] [(10,ZB)]:=.Rf 1 10 "is_as_asked" ZB .nil
abbrev OG:Ev->M Fl:=(de 2$ Sa Cb (ka 1)$ eC$ Z 1)
abbrev XH:Ev->M Fl:=(de 3$ Ye [(6,Iu),(7,Nw),(8,px)] 2 "taken" (Sa gk (be (Cc [10] "accounts")$ ka 0)$ ka 2)$ Fa (ka 1) ib)
abbrev SL:Ev->M Fl:=(de 4$ Ye [(10,ZB)] 2 "is_as_asked" (ka 0)$ Fa (ka 1) ib)
abbrev gM:Ev->M Fl:=(de 5$ Nz (eT$ ka 4) qI$ eC$ Z 0)
abbrev sO:Ev->M Fl:=(jh (vu$ eT$ Ye [(10,Wx)] 3 "is_good" (ka 0)$ Fa (Sa Cb (ka 3)$ eC$ Z 0)$ Fa (ka 5) ib) (Di$ Zi ib) Xh)
abbrev DO:Ev->M Fl:=(Ts (Sa Cb (ka 3)$ eC$ Z 0) (be (Cc [10] "accounts")$ ka 0)$ ka 2)
abbrev TM:Ev->M Fl:=(jh (eT$ ka 4) zr Xh)
abbrev LN:Ev->M Fl:=(Di$ Nz (eT$ Sa Ux (Sa Cb (ka 3)$ eC$ Z 1)$ eC Ϛ) (Zi ib)$ Zi$ Fa (Sa Cb (ka 3)$ eC$ Z 1) ib)
def HH:Ev->M Fl:=
 (Sb OG$ Sb XH$ ky [(8,6),(6,8),(6,7)] [6,7,8] (Sa Cb (ka 3)$ eC$ Z 0) (Sa gk (be (Cc [10] "accounts")$ ka 0)$ ka 2) (Di$ Zi ib)$ Sb SL$ Sb gM$ Sb sO$ Sb DO$ Sb TM LN)
def Hv:=Ff 6 2 11 44 92 18 ["pot","step","as_asked","allowance"] (g:=HH) (hb:=by exact λa b c=>
 (pe (by walk_at "+21")$ pe (by walk_at "+3d021")$ Κ (Hn b) (wK a.li a.wj a.Nl a.wl$ wK a.wj a.li a.yl a.Il$ wK a.wj a.Gk a.Dl a.zl O8) (YM a.wj$ YM a.Gk$ YM a.li yc1) rfl (by walk_at "+3") (by walk_at "+d02") (by walk_at "+v")$ pe (by walk_at "+401")$ pe (MH (i:=5) c rfl (ϑ rfl)$ XT (rL$ Hl 4) jE IH)$ by walk_at "+a035vm302b43vv3"))
instance Au:qg 12 2 "take_step" ["self","letter"] [(10,Hv)]:=.Rf 12 10 "take_step" Hv .nil
def uj:=Ff 2 2 12 41 92 15 [] (hb:=by walk_at "-b1b1b01a10101")
instance EB:qg 13 2 "take" ["self","letter"] [(10,uj)]:=.Rf 13 10 "take" uj .nil
abbrev S9:Ev->M Fl:=(de 5$ Sa Cb (be (Cc [5,6,7,8] "may")$ Ye [(10,Ip)] 2 "account" (ka 0)$ Fa (ka 1) ib)$ be iL$ eC$ Z 1)
abbrev d2_:Ev->M Fl:=(de 6$ Bf 3 Tg []$ Fa (ka 5)$ Fa (ka 2)$ Fa (Sa Nm (ka 3)$ eC$ Z 8) ib)
abbrev oG:Ev->M Fl:=(jh (eT$ Sa Hh (ka 2)$ eC$ Z 0) (Sb (de 7$ Ye [(10,uj)] 2 "take" (ka 0)$ Fa (yf$ Fa (eC$ ϐ "ask")$ Fa (ka 1)$ Fa (Sa Cb (ka 6)$ eC$ Z 1)$ Fa (Sa Cb (ka 6)$ eC$ Z 2) ib) ib)$ Sb (jh (eT$ Sa ah (ka 7)$ Zi ib) (Ri$ qq Pg (ka 4)$ Fa (ka 6) ib) Xh)$ jh (eT$ Sa XC (Sa jj (ka 3)$ eC$ Z 8)$ eC$ Z 0) (Ri$ Ye [(10,uj)] 2 "take" (ka 0)$ Fa (yf$ Fa (eC$ ϐ "accept")$ Fa (ka 1)$ Fa (yf$ Fa (eC$ ϐ "agree")$ Fa (ka 1)$ Fa (eC$ Z 1)$ Fa (ka 6) ib)$ Fa (yf$ Fa (eC$ ϐ "strike")$ Fa (ka 1)$ Fa (eC$ Z 1)$ Fa (Sa Cb (ka 5)$ eC$ Z 0) ib) ib) ib) Xh)$ Sb (de 7$ Ye [(10,uj)] 2 "take" (ka 0)$ Fa (yf$ Fa (eC$ ϐ "offer")$ Fa (ka 1)$ Fa (yf$ Fa (eC$ ϐ "agree")$ Fa (ka 1)$ Fa (eC$ Z 0)$ Fa (ka 6) ib) ib) ib)$ Sb (jh (eT$ Sa ah (ka 7)$ Zi ib) (Ri$ qq Pg (ka 4)$ Fa (ka 6) ib) Xh)$ jh (eT$ Sa XC (Sa jj (ka 3)$ eC$ Z 8)$ eC$ Z 0) (Ri$ Ye [(10,uj)] 2 "take" (ka 0)$ Fa (yf$ Fa (eC$ ϐ "struck")$ Fa (ka 1)$ Fa (yf$ Fa (eC$ ϐ "strike")$ Fa (ka 1)$ Fa (eC$ Z 0)$ Fa (Sa Cb (ka 5)$ eC$ Z 0) ib) ib) ib) Xh)
abbrev O3:Stmt:=ck 111
def tQ:Ev->M Fl:=
 (Sb S9$ Sb d2_ oG)
def cc:i'->M D:=ae$ ni 8 tQ
def VP:Fc ["_law_keeper","_law_pot","_law_side","_law_draw","_law_agreed","_law_one","_law_new","_law_letters"] ["_law_keeper","_law_pot","_law_side","_law_draw","_law_agreed"]$ Gf O3:=jw rfl rfl rfl (by decide +kernel)
def wZ:cj ⟨K,ca,tx K⟩ P w mg base 14 "_law_forward" ["_law_keeper","_law_pot","_law_side","_law_draw","_law_agreed"] cc:=
 cj.ae (GF a.cc VP λv v v v v v v b=>
  by have:=VP.nd;walk_at "+5x016523a270166a7v46a301161570116a7v46a30115")
instance Kn:ZqF 3 1 "is_hand" ["thing"]:=Lc 1 1 2 11 [] (hb:=by walk_at "-0u")
instance Dd:ZqF 4 1 "makes_a_pot" ["thing"]:=Lc 1 1 3 101 [] (hb:=by walk_at "-0000000u0u0u")
abbrev KN:Ev->M Fl:=(jh (My (eT$ Sa XC (ka 1)$ eC$ Z 2)$ vu$ eT$ Bf 1 Dd []$ Fa (ka 2) ib) zr Xh)
def jU:Ev->M Fl:=
 (Sb (Up (yH$ ka 0) (rl 2$ Vf (jc 1)$ Vf (jc 2) cm) KN)$ Di$ Sh$ Qm wr$ Fa (ka 0) ib)
instance qi:ZqF 5 1 "checked_pots" ["pots"]:=Lc 3 1 4 102 ["number","made"] (g:=jU) (hb:=by walk_at "-F012b1u2zA0")
def zx:=Ff 2 2 0 50 94 0 [] (hb:=by walk_at "-01")
instance Qf:ZqF 1 1 "whole_of" ["made"]:=Lc 1 1 0 103 [] (hb:=by walk_at "-00")
instance:ZqC 12 1 2 "Held" ["self","whole"] zx.f:=⟨λa=>⟨_,a.nu,a.zw,zx.ok a⟩,rfl⟩
def lB:=Ff 2 2 5 63 106 0 [] (hb:=by walk_at "-0100c.y00zR00c.y00n")
def QE:=Pf 2 2 2 64 106 1 [] (hb:=by walk_at "-b10")
instance Kt:qg 3 2 "check_pot" ["self","pot"] [(15,QE)]:=.Rf 3 15 "check_pot" QE .nil
def Zx:=Ff 3 3 3 67 106 4 [] (hb:=by walk_at "-01b2aj2x01m0x012")
instance YB:qg 4 3 "show" ["self","pot","word"] [(15,Zx)]:=.Rf 4 15 "show" Zx .nil
def SC:=Pf 1 1 0 51 95 0 []
def WC:=Pf 1 1 0 55 96 1 [] (hb:=by walk_at "-000")
def bF:=Pf 1 1 0 60 97 1 [] (hb:=by walk_at "-0")
instance kC:qg 1 1 "told" ["self"] [(12,SC),(13,WC),(14,bF)]:=.Rf 1 12 "told" SC$ .Rf 1 13 "told" WC$ .Rf 1 14 "told" bF .nil
def Zn:=Pf 2 2 3 71 106 8 [] (hb:=by walk_at "-01x01")
instance (priority:=1001) mo24_told:qg 4 2 "told" ["self","pot"] [(15,Zn)]:=.Rf 4 15 "told" Zn .nil
instance Dh:ZqF 4 1 "check_side" ["side"]:=Lc 1 1 3 105 [] (hb:=by walk_at "-b0")
instance sj:ZqF 1 1 "other_side" ["side"]:=Lc 1 1 0 17 [] (hb:=by walk_at "-0")
instance Vk:ZqF 8 4 "is_agreed" ["pot","side","stand","agreement"]:=Lc 4 4 7 104 [] (hb:=by walk_at "-33012")
def dD:=Pf 6 5 8 68 106 5 ["made"] (hb:=by exact λa b c=>
 (pe (Zv (QU$ rL$ Ω (l:=[(6,ŝ),(7,ŝ),(8,ŝ),(9,ŝ),(10,ŝ),(12,U2),(13,ŝ),(14,ŝ),(15,ŝ)]) rfl (by walk_at "+x01") rfl a.Ve rfl ⋯ a.nu$ kx a.Jw a.qo$ kx a.Fq a.Ll$ kx a.wq a.nl$ kx a.Gx a.mo$ kx a.Rr a.um$ kx a.Bx a.ao$ kx a.Sw a.oo$ kx a.yu a.Xm$ kx a.qx a.ko Ő) Mz Oz)$ by walk_at "+5x013551234"))
instance Kw:qg 9 5 "may_lie" ["self","pot","side","stand","agreement"] [(15,dD)]:=.Rf 9 15 "may_lie" dD .nil
def xB:=Ff 6 6 2 54 96 0 [] (hb:=by exact λa b d=>
 (pe (Qv$ nR (c:=11) ⟨a.ar,a.Vg,_,_,a.Wg,a.Ug,a.Xg,(zx.ok a)⟩ rfl (b.mono$ by decide) rfl$ by walk_at "+01")$ by walk_at "+02030405"))
instance:ZqC 13 3 6 "Laid" ["self","whole","side","stand","day","wait"] xB.f:=⟨λa=>⟨_,a.Cz,a.Gw,xB.ok a⟩,rfl⟩
abbrev xR:Stmt:=Uw (ck 106) 6
def GW:Ev->M Fl:=
 (Sb (Ri$ Ye [(15,QE)] 2 "check_pot" (ka 0)$ Fa (ka 1) ib)$ Sb (Ri$ Bf 1 Dh []$ Fa (ka 2) ib)$ Sb (de 5$ Sa Cb (be (Cc [9,15] "pots")$ ka 0)$ ka 1)$ Sb (jh (vu$ eT$ Bf 2 Ze []$ Fa (ka 3)$ Fa (Bf 1 Qf []$ Fa (ka 5) ib) ib) zr Xh)$ Sb (jh (vu$ eT$ Ye [(15,dD)] 5 "may_lie" (ka 0)$ Fa (ka 1)$ Fa (ka 2)$ Fa (ka 3)$ Fa (ka 4) ib) zr Xh)$ Vv (Sh$ Dq 13 6 xB$ Fa (Bf 1 Qf []$ Fa (ka 5) ib)$ Fa (ka 2)$ Fa (ka 3)$ Fa (be (Cc [13,15] "day")$ ka 0)$ Fa (Sa Cb (ka 5)$ eC$ Z 4) ib) (be (Cc [10,15] "claims")$ ka 0)$ ka 1)
def qe:i'->M D:=ae$ ni 6 GW
def GV:Fc ["self","pot","side","stand","agreement","made"] ["self","pot","side","stand","agreement"]$ Gf xR:=jw rfl rfl rfl (by decide +kernel)
def M4:tO "lay" "Book.lay" xR ["self","pot","side","stand","agreement"] [rc]:=λe e e e e e e e e e d b c=>⟨λa=>QF.ap [0,0,0,0,0] d (by simpa using a) (by intro _ _ _ _ _;show vf _ _ _ _;exact ce rfl b c rfl rfl),λa=>QF.ap [0,0,0,0] d (by simpa using a) (by intro _ _ _ _;show vf _ _ _ _;exact ce rfl b c rfl rfl)⟩
def TU:Mv ⟨K,ca,tx K⟩ P w mg base 10 (ca 69) ["self","pot","side","stand","agreement"] [rc] qe:=
 Mv.ae (sW a.qe GV λv v v v v v b=>
  by have:=GV.nd;walk_at "+0125x01b35b01234MzR5230501")
def xz:=Ff 1 1 0 66 106 3 [] (hb:=by exact λa b c=>
 (Qi$ L1 rfl (fO a) (Hl 0) IH))
instance vv:qg 1 1 "next_day" ["self"] [(15,xz)]:=.Rf 1 15 "next_day" xz .nil
abbrev vK:Ev->M Fl:=(de 5$ Bf 2 Ue []$ Fa (Sa Cb (ka 3)$ ka 4)$ Fa (ka 4) ib)
abbrev tN:Ev->M Fl:=(de 6$ Sa jj (Sa Nm (ka 5)$ eC$ Z 8)$ eC$ Z 2)
abbrev PL:Ev->M Fl:=(jh (eT$ Sa oLt (Sa jj (ka 5)$ eC$ Z 8)$ eC$ Z 3) (Ri$ Ye [(15,Zx)] 3 "show" (ka 0)$ Fa (ka 6)$ Fa (Sa jj (Sa Nm (ka 5)$ eC$ Z 16)$ eC$ Z 8) ib)$ jh (jp (eT$ Sa Hh (Sa jj (ka 5)$ eC$ Z 8)$ eC$ Z 3)$ eT$ Sa Hh (Ye [(15,Zn)] 2 "told" (ka 0)$ Fa (ka 6) ib)$ yf$ Fa (eC$ ϐ "held") ib) (Sb (de 7$ Sa Cb (Sa Cb (ka 1)$ ka 6)$ Sa jj (Sa Nm (ka 5)$ eC$ Z 16)$ Qm Dn$ Fa (Sa Cb (ka 1)$ ka 6) ib)$ Ri$ Ye [(15,qe)] 5 "lay" (ka 0)$ Fa (ka 6)$ Fa (Sa kl (eC$ Z 1)$ Sa Cb (ka 2)$ ka 6)$ Fa (ka 7)$ Fa (yf$ Fa (eC$ ϐ "agree")$ Fa (ka 6)$ Fa (Sa Cb (ka 2)$ ka 6)$ Fa (ka 7) ib) ib)$ Ri$ Ye [(15,xz)] 1 "next_day" (ka 0) ib)
abbrev υ:Stmt:=ck 112
def DS:Ev->M Fl:=
 (Fk (io$ Qm Dn$ Fa (ka 3) ib) (jc 4)$ Sb vK$ Sb tN PL)
def lf:i'->M D:=ae$ ni 8 DS
def jP:Fc ["_law_book_here","_law_agreed","_law_sides","_law_cells","_law_k","_law_draw","_law_pot","_law_one"] ["_law_book_here","_law_agreed","_law_sides","_law_cells"]$ Gf υ:=jw rfl rfl rfl (by decide +kernel)
def Υ:cj ⟨K,ca,tx K⟩ P w mg base 11 "_law_book" ["_law_book_here","_law_agreed","_law_sides","_law_cells"] lf:=
 cj.ae (GF a.lf jP λv v v v v v v b=>
  by have d:=jP.nd;exact(Qi$ Ny Vq rfl (by walk_at "+3") (by walk_at "+4")$ pe (by walk_at "+5344")$ pe (by walk_at "+65")$ Qi$ Zv (by walk_at "+5") (by walk_at "+065")$ Qi$ Zv (by walk_at "+506") (pe (by walk_at "+716516")$ Qi$ Qv$ CT (k:=10) (c:=15) (ps:=["self","pot","side","stand","agreement"]) rfl (Hl 0) (a.tc.get 15$ by decide) ((a.te.get (15,_)$ by repeat (first|with_reducible exact va|refine ja _ ?_)).get ("lay",69)$ by repeat (first|with_reducible exact va|refine ja _ ?_)) (TU a) (b.mono$ by decide)$ by walk_at "+62676267")$ by walk_at "+0"))
def Zz:=Ff 4 2 1 39 92 13 ["account","one"] (hb:=by exact λa b c=>
 (pe (by walk_at "+b01")$ pe (by walk_at "+a1m01v") Mz))
instance nC:qg 2 2 "wish" ["self","wish"] [(10,Zz)]:=.Rf 2 10 "wish" Zz .nil
abbrev jy:Ev->M Fl:=(Ri$ RH Wz (ka 1)$ Fa (ka 2) ib)
def GP:Ev->M Fl:=
 (Sb (de 1 ir)$ Sb (Fk (kg$ be (Cc [15] "shown")$ ka 0) (jc 2) jy)$ Di$ Sh$ Qm Ws$ Fa (ka 1) ib)
def Vx:=Pf 3 1 0 76 106 13 ["words","shown"] (g:=GP) (hb:=by exact λa b c=>
 (pe (by walk_at "+1n")$ pe (Ny Vq rfl (by walk_at "+0") (by walk_at "+2")$ Qi$ Qv$ BS pf Zm PySem.F.type_dict_update i6 ŗ (Hl 1)$ Qr (Hl 2) wx)$ by walk_at "+zO1"))
instance au:qg 1 1 "all_shown" ["self"] [(15,Vx)]:=.Rf 1 15 "all_shown" Vx .nil
def vt:=Pf 1 1 0 65 106 2 [] (hb:=by walk_at "-0")
instance Gz:qg 1 1 "today" ["self"] [(15,vt)]:=.Rf 1 15 "today" vt .nil
abbrev qR:Ev->M Fl:=(Sb (de 6$ Ye [(15,Zn)] 2 "told" (ka 0)$ Fa (ka 5) ib)$ jh (jp (eT$ Sa Hh (Sa Cb (ka 6)$ eC$ Z 0)$ eC$ ϐ "laid")$ jp (eT$ Sa ah (Sa Cb (ka 6)$ eC$ Z 1)$ Sa Cb (ka 2)$ ka 5)$ eT$ Sa (Xq ŝ) (Sa Cb (Sa Cb (ka 6)$ eC$ Z 2)$ eC$ Z 0)$ be (Cc [5,6,7,8] "strikes")$ Ye [(10,Ip)] 2 "account" (ka 1)$ Fa (ka 5) ib) (jh (eT$ Sa oLt (Ye [(15,vt)] 1 "today" (ka 0) ib)$ Sa lh (Sa Cb (ka 6)$ eC$ Z 3)$ Sa Cb (ka 3)$ ka 5) (Ri$ qq Pg (ka 4)$ Fa (yf$ Fa (eC$ ϐ "strike")$ Fa (ka 5) ib) ib) Xh) Xh)
def UU:Ev->M Fl:=
 (Sb (de 4$ No ib)$ Sb (Fk (io$ eC$ Z 2) (jc 5) qR)$ Di$ ka 4)
instance Fg:ZqF 5 4 "_law_strikes" ["_law_book_here","_law_keeper","_law_sides","_law_waits"]:=Lc 7 4 4 113 ["_law_found","_law_pot","_law_told"] (g:=UU) (hb:=by walk_at "-4lf5605a6625D615a0635454")
def Yv:=Ff 2 2 3 72 106 9 [] (hb:=by walk_at "-01Hx01")
instance Zt:qg 4 2 "shown_for" ["self","pot"] [(15,Yv)]:=.Rf 4 15 "shown_for" Yv .nil
abbrev OE:Ev->M Fl:=(jh (jp (eT$ Sa ah (ka 12)$ Sa Cb (ka 2)$ ka 8)$ jp (eT$ kJ oLt oLe (ka 7) (ka 15)$ Sa lh (ka 7)$ ka 3)$ eT$ Sa (Ht ŝ) (ka 14)$ ka 5) (jh (jp (eT$ Sa oq (ka 14)$ Ye [(15,Yv)] 2 "shown_for" (ka 0)$ Fa (ka 8) ib)$ eT$ Sa (Xq U2) (yf$ Fa (eC$ ϐ "show")$ Fa (ka 8)$ Fa (ka 14) ib)$ ka 6) (Ri$ qq Pg (ka 6)$ Fa (yf$ Fa (eC$ ϐ "show")$ Fa (ka 8)$ Fa (ka 14) ib) ib) Xh) Xh)
abbrev TH:Ev->M Fl:=(Fk (kg$ Sa Cb (ka 11)$ eC$ Z 2) (rl 4$ Vf (jc 12)$ Vf (jc 13)$ Vf (jc 14)$ Vf (jc 15) cm) OE)
abbrev zE:Ev->M Fl:=(de 9$ Ye [(15,Zn)] 2 "told" (ka 0)$ Fa (ka 8) ib)
abbrev cF:Ev->M Fl:=(de 10$ be (Cc [5,6,7,8] "may")$ Ye [(10,Ip)] 2 "account" (ka 1)$ Fa (ka 8) ib)
abbrev oF:Ev->M Fl:=(jh (eT$ Sa Hh (Sa Cb (ka 9)$ eC$ Z 0)$ eC$ ϐ "laid") (de 10$ Zi$ Fa (Sa Cb (ka 9)$ eC$ Z 2) ib) Xh)
abbrev xE:Ev->M Fl:=(jh (eT$ Sa (Xq ŝ) (yf$ Fa (eC$ ϐ "strike")$ Fa (ka 8) ib)$ ka 4) (de 10$ Zi ib) Xh)
abbrev JB:Ev->M Fl:=(Fk (kg$ ka 10) (jc 11) TH)
def RV:Ev->M Fl:=
 (Sb (de 6$ No ib)$ Sb (de 7$ Ye [(15,vt)] 1 "today" (ka 0) ib)$ Sb (Fk (io$ eC$ Z 2) (jc 8)$ Sb zE$ Sb cF$ Sb oF$ Sb xE JB)$ Di$ ka 6)
instance og:ZqF 5 6 "_law_shows" ["_law_book_here","_law_keeper","_law_sides","_law_every","_law_struck","_law_words"]:=Lc 16 6 4 114 ["_law_found","_law_today","_law_pot","_law_told","_law_some","_law_one","_law_payer","_law_amount","_law_word","_law_day"] (g:=RV) (hb:=by walk_at "-6l70f8908:18a9:v9aD84:vf:;f;<=>?a<287?73s>5aj>08E8>668>6")
def Yy:=Pf 1 1 0 77 106 14 [] (hb:=by walk_at "-zA0")
instance Ow:qg 1 1 "made_of" ["self"] [(15,Yy)]:=.Rf 1 15 "made_of" Yy .nil
instance Zg:ZqF 1 2 "is_given_up" ["account","claim"]:=Lc 2 2 0 87 [] (hb:=by walk_at "-110D10")
def VA:=Pf 2 2 0 56 96 2 [] (hb:=by walk_at "-100")
instance qz:qg 1 2 "waits" ["self","day"] [(13,VA)]:=.Rf 1 13 "waits" VA .nil
def DB:=Pf 5 5 7 58 96 4 [] (hb:=by walk_at "-b20034410x0")
instance Xs:qg 8 5 "may_strike" ["self","pot","side","day","thing"] [(13,DB)]:=.Rf 8 13 "may_strike" DB .nil
def OD:=Ff 3 3 2 59 97 0 [] (hb:=by exact λa b d=>
 (pe (Qv$ nR (c:=11) ⟨a.ar,a.Vg,_,_,a.Wg,a.Ug,a.Xg,(zx.ok a)⟩ rfl (b.mono$ by decide) rfl$ by walk_at "+01")$ by walk_at "+02"))
instance:ZqC 14 3 3 "Taken" ["self","whole","side"] OD.f:=⟨λa=>⟨_,a.Rw,a.Cu,OD.ok a⟩,rfl⟩
def QA:=Ff 4 4 8 70 106 7 [] (hb:=by walk_at "-012bx011203MzRx01201")
instance Zy:qg 9 4 "strike" ["self","pot","side","thing"] [(15,QA)]:=.Rf 9 15 "strike" QA .nil
instance (priority:=1003) mo35_strike_of:qg 1 3 "strike_of" ["self","side","one"] [(5,Qj),(6,Qj),(7,Qj),(8,Qj)]:=.Rf 1 5 "strike_of" Qj$ .Rf 1 6 "strike_of" Qj$ .Rf 1 7 "strike_of" Qj$ .Rf 1 8 "strike_of" Qj .nil
abbrev OJ:Ev->M Fl:=(Sb (de 6$ Sa gk (be (Cc [10,15] "claims")$ ka 0)$ ka 4)$ jh (jp (eT$ Bf 2 Zg []$ Fa (ka 5)$ Fa (ka 6) ib)$ eT$ Sa oLt (be (Cc [9,10] "last_look")$ ka 0)$ Sa lh (Sa Cb (ka 6)$ eC$ Z 3)$ Sa Cb (ka 3)$ ka 4) (Sb (Ri$ Ye [(15,QA)] 4 "strike" (ka 1)$ Fa (ka 4)$ Fa (be (Cc [5,6,7,8,13,14] "side")$ ka 5)$ Fa (Ye [(5,Qj),(6,Qj),(7,Qj),(8,Qj)] 3 "strike_of" (ka 5)$ Fa (Sa Cb (ka 6)$ eC$ Z 1)$ Fa (Sa Cb (ka 6)$ eC$ Z 2) ib) ib)$ Sb (Ts (yf$ Fa (eC$ ϐ "taken")$ Fa (be (Cc [5,6,7,8,13,14] "side")$ ka 5) ib) (be (Cc [10,15] "claims")$ ka 0)$ ka 4)$ Ri$ qq Pg (ka 2)$ Fa (yf$ Fa (eC$ ϐ "strike")$ Fa (ka 4) ib) ib) Xh)
def JV:Ev->M Fl:=
 (Sb (de 2$ No ib)$ Sb (de 3$ Sh$ Ei (Jj$ kg$ Ye [(15,Yy)] 1 "made_of" (ka 1) ib) [] (jc 0) Ej$ Sa Cb (ka 0)$ eC$ Z 4)$ Sb (Av (be (Cc [10] "accounts")$ ka 0)$ Up (Rx$ be (Cc [10] "accounts")$ ka 0) (rl 2$ Vf (jc 4)$ Vf (jc 5) cm) OJ)$ Di$ ka 2)
def RA:=Ff 7 2 9 46 92 20 ["deeds","waits","pot","account","claim"] (g:=JV) (hb:=by walk_at "-2lq3.y100hFL0456d04a560634145566m504242")
instance ft:qg 10 2 "strike_all" ["self","book"] [(10,RA)]:=.Rf 10 10 "strike_all" RA .nil
abbrev uM:Ev->M Fl:=(Ri$ qq wv (ka 2)$ Fa (Sh$ Ei (Jj$ kg$ Sa Cb (ka 3)$ eC$ Z 2) [0] (jc 0) (eT$ Sa ah (Sa Cb (ka 0)$ eC$ Z 0)$ be (Cc [5,6,7,8,13,14] "side")$ ka 2)$ ka 0) ib)
def uV:Ev->M Fl:=
 (Sb (de 2$ No ib)$ Sb (Fk (kg$ Bf 2 ze []$ Fa (ka 0)$ Fa (ka 1) ib) (jc 3) uM)$ Di$ ka 2)
instance jk:ZqF 3 2 "ties_to" ["account","claim"]:=Lc 4 2 2 86 ["ties","one"] (g:=uV) (hb:=by walk_at "-2lf0132zc0.y300202")
def MB:=Pf 3 3 0 47 92 21 [] (hb:=by walk_at "-aj20i2d010200")
instance Os:qg 1 3 "is_to_show" ["self","pot","tie"] [(10,MB)]:=.Rf 1 10 "is_to_show" MB .nil
abbrev LO:Ev->M Fl:=(jh (eT$ Ye [(10,MB)] 3 "is_to_show" (ka 0)$ Fa (ka 3)$ Fa (ka 5) ib) (Sb (Ri$ Ye [(15,Zx)] 3 "show" (ka 1)$ Fa (ka 3)$ Fa (Sa Cb (ka 5)$ eC$ Z 2) ib)$ Sb (Ts (be (Cc [9,10] "last_look")$ ka 0) (Sa gk (be (Cc [10] "seen")$ ka 0)$ ka 3)$ Sa Cb (ka 5)$ eC$ Z 2)$ Ri$ qq Pg (ka 2)$ Fa (yf$ Fa (eC$ ϐ "show")$ Fa (ka 3)$ Fa (Sa Cb (ka 5)$ eC$ Z 2) ib) ib) Xh)
abbrev ZM:Ev->M Fl:=(Fk (kg$ Bf 2 jk []$ Fa (ka 4)$ Fa (Sa gk (be (Cc [10,15] "claims")$ ka 0)$ ka 3) ib) (jc 5) LO)
def tR:Ev->M Fl:=
 (Sb (de 2$ No ib)$ Sb (Av (be (Cc [10] "accounts")$ ka 0)$ Up (Rx$ be (Cc [10] "accounts")$ ka 0) (rl 2$ Vf (jc 3)$ Vf (jc 4) cm) ZM)$ Di$ ka 2)
def UA:=Ff 6 2 4 48 92 22 ["deeds","pot","account","tie"] (g:=tR) (hb:=by walk_at "-2lhFL034f4d035a035135m0d0352352")
instance bw:qg 5 2 "show_all" ["self","book"] [(10,UA)]:=.Rf 5 10 "show_all" UA .nil
abbrev eK:Ev->M Fl:=(jh (jp (eT$ Sa Ps (ka 3)$ be (Cc [10] "finishing")$ ka 0)$ eT$ Ye [(10,Du)] 2 "holds" (ka 0)$ Fa (ka 3) ib) (Sb (Ri$ Ye [(15,qe)] 5 "lay" (ka 1)$ Fa (ka 3)$ Fa (be (Cc [5,6,7,8,13,14] "side")$ ka 4)$ Fa (be (Cc [5,6,7,8] "mine")$ ka 4)$ Fa (be (Cc [5,6,7,8] "grant")$ ka 4) ib)$ Sb (Ts (yf$ Fa (eC$ ϐ "laid")$ Fa (be (Cc [5,6,7,8,13,14] "side")$ ka 4)$ Fa (be (Cc [5,6,7,8] "mine")$ ka 4)$ Fa (be (Cc [9,10] "last_look")$ ka 0) ib) (be (Cc [10,15] "claims")$ ka 0)$ ka 3)$ Ri$ qq Pg (ka 2)$ Fa (yf$ Fa (eC$ ϐ "lay")$ Fa (ka 3) ib) ib) Xh)
def mQ:Ev->M Fl:=
 (Sb (de 2$ No ib)$ Sb (Av (be (Cc [10] "accounts")$ ka 0)$ Up (Rx$ be (Cc [10] "accounts")$ ka 0) (rl 2$ Vf (jc 3)$ Vf (jc 4) cm) eK)$ Di$ ka 2)
def aC:=Ff 5 2 10 49 92 23 ["deeds","pot","account"] (g:=mQ) (hb:=by exact λa b d=>
 (pe (by walk_at "+2l")$ pe (NV$ qC Vq rfl (by walk_at "+L0") (by walk_at "+34")$ Qi$ Zv (by walk_at "+i3003") (pe (Qv$ CT (k:=10) (c:=15) (ps:=["self","pot","side","stand","agreement"]) rfl (Hl 1) (a.tc.get 15$ by decide) ((a.te.get (15,_)$ by repeat (first|with_reducible exact va|refine ja _ ?_)).get ("lay",69)$ by repeat (first|with_reducible exact va|refine ja _ ?_)) (TU a) (b.mono$ by decide)$ by walk_at "+3444")$ by walk_at "+m4400323") Oz)$ by walk_at "+2"))
instance jx:qg 11 2 "lay_all" ["self","book"] [(10,aC)]:=.Rf 11 10 "lay_all" aC .nil
abbrev yN:Ev->M Fl:=(Sb (Ts (Ye [(15,Zn)] 2 "told" (ka 1)$ Fa (ka 2) ib) (be (Cc [10,15] "claims")$ ka 0)$ ka 2)$ Ts (Ye [(15,Yv)] 2 "shown_for" (ka 1)$ Fa (ka 2) ib) (be (Cc [10] "seen")$ ka 0)$ ka 2)
abbrev JN:Ev->M Fl:=(Rp [9,10] "last_look" (Ye [(15,vt)] 1 "today" (ka 1) ib)$ ka 0)
abbrev vL:Ev->M Fl:=(Av (be (Cc [10] "accounts")$ ka 0)$ Up (jG$ be (Cc [10] "accounts")$ ka 0) (jc 2) yN)
abbrev UM:Ev->M Fl:=(Ri$ Ye [(10,qt)] 2 "learn" (ka 0)$ Fa (Ye [(15,Vx)] 1 "all_shown" (ka 1) ib) ib)
abbrev wL:Ev->M Fl:=(Di$ Sa uF (Sa lh (Ye [(10,RA)] 2 "strike_all" (ka 0)$ Fa (ka 1) ib)$ Ye [(10,UA)] 2 "show_all" (ka 0)$ Fa (ka 1) ib)$ Ye [(10,aC)] 2 "lay_all" (ka 0)$ Fa (ka 1) ib)
def iU:Ev->M Fl:=
 (Sb JN$ Sb vL$ Sb UM wL)
def Hw:=Ff 3 2 11 45 92 19 ["pot"] (g:=iU) (hb:=by exact λa b c=>
 (pe (by walk_at "+01")$ pe (by walk_at "+hFK02m1202m1202")$ pe (by walk_at "+01")$ Qi$ Dr$ uv Ů Kr (by walk_at "+0101")$ by walk_at "+01"))
instance YA:qg 12 2 "look" ["self","book"] [(10,Hw)]:=.Rf 12 10 "look" Hw .nil
def WB:=Pf 1 1 0 30 92 4 [] (hb:=by walk_at "-0")
instance Vy:qg 1 1 "looked" ["self"] [(10,WB)]:=.Rf 1 10 "looked" WB .nil
abbrev GM:Ev->M Fl:=(Sb (de 6$ Sa Cb (ka 5)$ eC$ Z 1)$ Sb (jh (jp (eT$ Sa Hh (Sa Cb (ka 5)$ eC$ Z 0)$ eC$ ϐ "strike")$ eT$ Sa ah (Ye [(15,Zn)] 2 "told" (ka 0)$ Fa (ka 6) ib)$ yf$ Fa (eC$ ϐ "taken")$ Fa (Sa Cb (ka 2)$ ka 6) ib) zr Xh)$ Sb (jh (jp (eT$ Sa Hh (Sa Cb (ka 5)$ eC$ Z 0)$ eC$ ϐ "show")$ eT$ Sa ah (Sa gk (Ye [(15,Yv)] 2 "shown_for" (ka 0)$ Fa (ka 6) ib)$ Sa Cb (ka 5)$ eC$ Z 2)$ ka 4) zr Xh)$ Sb (de 7$ be (Cc [5,6,7,8] "mine")$ Ye [(10,Ip)] 2 "account" (ka 1)$ Fa (ka 6) ib)$ jh (jp (eT$ Sa Hh (Sa Cb (ka 5)$ eC$ Z 0)$ eC$ ϐ "lay")$ eT$ Sa ah (Ye [(15,Zn)] 2 "told" (ka 0)$ Fa (ka 6) ib)$ yf$ Fa (eC$ ϐ "laid")$ Fa (Sa Cb (ka 2)$ ka 6)$ Fa (ka 7)$ Fa (ka 4) ib) zr Xh)
def eW:Ev->M Fl:=
 (Sb (de 4$ Ye [(15,vt)] 1 "today" (ka 0) ib)$ Sb (Fk (kg$ ka 3) (jc 5) GM)$ Di$ Sa Hh (Ye [(10,WB)] 1 "looked" (ka 1) ib)$ ka 4)
instance Yg:ZqF 5 4 "_law_behind" ["_law_book_here","_law_keeper","_law_sides","_law_due"]:=Lc 8 4 4 115 ["_law_today","_law_deed","_law_pot","_law_mine"] (g:=eW) (hb:=by exact λb a c=>
 (pe (by walk_at "+40")$ pe (Ny Vq rfl (SJ rfl$ Hl 3) (by walk_at "+5")$ pe (by walk_at "+65")$ pe (by walk_at "+b50626")$ pe (Zv (L2.PW.pt$ MW (by walk_at "+5")$ nQ$ Gq (MJ$ Hn a) Kr (zN (Hn a) (by walk_at "+06") (by walk_at "+5")$ λv v=>rfl) (Hl 4)$ xo _) Mz Oz)$ by walk_at "+716b5062674")$ by walk_at "+14"))
abbrev XM:Ev->M Fl:=(de 10$ Bf 2 Ue []$ Fa (Bf 2 lc []$ Fa (ka 0)$ Fa (ka 9) ib)$ Fa (ka 9) ib)
abbrev IN:Ev->M Fl:=(jh (eT$ Sa XC (Sa jj (ka 10)$ eC$ Z 3)$ eC$ Z 0) (Ri$ Bf 5 cc []$ Fa (ka 7)$ Fa (Sa jj (ka 9)$ eC$ Z 2)$ Fa (Sa Cb (ka 3)$ Sa jj (ka 9)$ eC$ Z 2)$ Fa (Sa Nm (ka 10)$ eC$ Z 3)$ Fa (Sa Cb (ka 8)$ Sa jj (ka 9)$ eC$ Z 2) ib) Xh)
abbrev kI:Ev->M Fl:=(Sb XM IN)
abbrev u1:Ev->M Fl:=(de 1$ Bf 2 lc []$ Fa (ka 0)$ Fa (eC$ Z 0) ib)
abbrev u2:Ev->M Fl:=(de 2$ Sa lh (eC$ Z 1)$ Sa jj (ka 1)$ eC$ Z 6)
abbrev u3:Ev->M Fl:=(de 3$ Zi$ Fa (Sa jj (Sa Nm (ka 1)$ eC$ Z 6)$ eC$ Z 2)$ Fa (Sa kl (eC$ Z 1)$ Sa jj (Sa Nm (ka 1)$ eC$ Z 6)$ eC$ Z 2) ib)
abbrev u4:Ev->M Fl:=(de 4$ Zi$ Fa (Sa lh (eC$ Z 7)$ Sa jj (Sa Nm (ka 1)$ eC$ Z 12)$ eC$ Z 6)$ Fa (Sa lh (eC$ Z 7)$ Sa jj (Sa Nm (ka 1)$ eC$ Z 72)$ eC$ Z 6) ib)
abbrev u5:Ev->M Fl:=(de 5$ Sh$ Ei (Jj$ io$ eC$ Z 2) [0] (jc 0) Ej$ Sa lh (eC$ Z 50)$ Sa jj (Bf 2 lc []$ Fa (ka 2)$ Fa (Sa lh (eC$ Z 1)$ ka 0) ib)$ Sa kl (Sa Ft (eC$ Z 10)$ eC$ Z 12)$ eC$ Z 50)
abbrev u6:Ev->M Fl:=(de 6$ Zi$ Fa (yf$ Fa (eC$ Z 1)$ Fa (eC$ Z 3)$ Fa (Sa Cb (ka 5)$ eC$ Z 0)$ Fa (Sa Cb (ka 5)$ eC$ Z 1)$ Fa (Sa Cb (ka 4)$ eC$ Z 0) ib)$ Fa (yf$ Fa (eC$ Z 2)$ Fa (eC$ Z 1)$ Fa (Sa Cb (ka 5)$ eC$ Z 1)$ Fa (Sa Cb (ka 5)$ eC$ Z 0)$ Fa (Sa Cb (ka 4)$ eC$ Z 1) ib) ib)
abbrev u7:Ev->M Fl:=(jh (eT$ Sa Hh (Sa Cb (ka 3)$ eC$ Z 0)$ eC$ Z 1) (de 6$ Zi$ Fa (yf$ Fa (eC$ Z 3)$ Fa (eC$ Z 1)$ Fa (Sa Cb (ka 5)$ eC$ Z 0)$ Fa (Sa Cb (ka 5)$ eC$ Z 1)$ Fa (Sa Cb (ka 4)$ eC$ Z 0) ib)$ Fa (yf$ Fa (eC$ Z 1)$ Fa (eC$ Z 2)$ Fa (Sa Cb (ka 5)$ eC$ Z 1)$ Fa (Sa Cb (ka 5)$ eC$ Z 0)$ Fa (Sa Cb (ka 4)$ eC$ Z 1) ib) ib) Xh)
abbrev u8:Ev->M Fl:=(de 7$ Dq 10 5 Hq$ rC []$ Fa (eC$ Z 1)$ Fa (ka 2)$ Fa (ka 6)$ Fa (Sh$ Ei (Jj$ io$ eC$ Z 8) [0] (jc 0) (eT$ Sa Hh (Sa Kz (Sa Ly (Bf 2 lc []$ Fa (ka 2)$ Fa (eC$ Z 3) ib)$ ka 0)$ eC$ Z 1)$ eC$ Z 1)$ ka 0) ib)
abbrev u9:Ev->M Fl:=(de 8$ Ei (Jj$ kg$ ka 6) [] (jc 0) Ej$ No$ Fa (yf$ Fa (eC$ Z 0)$ Fa (iy (ka 0) (SY$ eC$ Z 2)$ SY$ eC$ Z 4)$ Fa (yf ib) ib) ib)
abbrev rF:Ev->M Fl:=(Fk (oD (eC$ Z 4)$ eC$ Z 12) (jc 9) kI)
abbrev gO:Ev->M Fl:=(de 11$ Dq 15 2 lB$ Fa (ka 6) ib)
abbrev lO:Ev->M Fl:=(Ri$ Bf 4 lf []$ Fa (ka 11)$ Fa (ka 8)$ Fa (ka 3)$ Fa (iy (ka 0) (SY$ eC$ Z 12)$ SY$ eC$ Z 30) ib)
abbrev aN:Ev->M Fl:=(de 12$ Ei (Jj$ io$ eC$ Z 2) [7,1] (jc 0) (jp (eT$ Sa Hh (Sa Kz (Sa Ly (Sa Nm (ka 3)$ eC$ Z 432)$ ka 0)$ eC$ Z 1)$ eC$ Z 1)$ eT$ Sa Hh (Ye [(10,Zz)] 2 "wish" (ka 2)$ Fa (yf$ Fa (eC$ ϐ "finish")$ Fa (ka 0) ib) ib)$ yf$ Fa (eC$ ϓ U2)$ Fa (Zi ib) ib)$ ka 0)
abbrev PN:Ev->M Fl:=(de 13$ Sh$ be qE$ Sa lh (Ye [(10,jt)] 1 "words" (ka 7) ib)$ Ye [(15,Vx)] 1 "all_shown" (ka 11) ib)
abbrev jK:Ev->M Fl:=(de 14$ Bf 4 Fg []$ Fa (ka 11)$ Fa (ka 7)$ Fa (ka 3)$ Fa (ka 4) ib)
abbrev ON:Ev->M Fl:=(de 14$ Sa lh (ka 14)$ Bf 6 og []$ Fa (ka 11)$ Fa (ka 7)$ Fa (ka 3)$ Fa (ka 2)$ Fa (ka 14)$ Fa (ka 13) ib)
abbrev MK:Ev->M Fl:=(de 14$ Sa lh (ka 14)$ Sh$ Ei (Jj$ kg$ ka 12) [11] (jc 0) (eT$ Sa Hh (Ye [(15,Zn)] 2 "told" (ka 2)$ Fa (ka 0) ib)$ yf$ Fa (eC$ ϐ "held") ib)$ yf$ Fa (eC$ ϐ "lay")$ Fa (ka 0) ib)
abbrev FJ:Ev->M Fl:=(de 15$ Ye [(10,Hw)] 2 "look" (ka 7)$ Fa (ka 11) ib)
abbrev gN:Ev->M Fl:=(jh (My (vu$ eT$ be (Ut .list)$ ka 15)$ My (eT$ Sa ah (ka 15)$ ka 14)$ eT$ Sa ah (Ye [(10,jt)] 1 "words" (ka 7) ib)$ ka 13) zr Xh)
abbrev QK:Ev->M Fl:=(Ri$ qq Pg (ka 15)$ Fa (yf$ Fa (eC$ ϐ "lay")$ Fa (eC$ Z 7) ib) ib)
abbrev ZV:Ev->M Fl:=(Di$ qL (Bf 4 Yg []$ Fa (ka 11)$ Fa (ka 7)$ Fa (ka 3)$ Fa (ka 14) ib)$ Sa Hh (Ye [(10,Hw)] 2 "look" (ka 7)$ Fa (ka 11) ib)$ Zi ib)
instance:ZqC 15 6 2 "Book" ["self","pots"] lB.f:=⟨λa=>⟨_,a.kA,a.cx,lB.ok a⟩,rfl⟩
abbrev iY:Stmt:=ck 116
def NM:Ev->M Fl:=
 (Sb u1$ Sb u2$ Sb u3$ Sb u4$ Sb u5$ Sb u6$ Sb u7$ Sb u8$ Sb u9$ Sb rF$ Sb gO$ Sb lO$ Sb aN$ Sb PN$ Sb jK$ Sb ON$ Sb MK$ Sb FJ$ Sb gN$ Sb QK ZV)
def Bn:i'->M D:=ni 16 NM
def cO:Fc ["_law_script","_law_cell","_law_every","_law_sides","_law_waits","_law_coins","_law_pots","_law_keeper","_law_agreed","_law_k","_law_draw","_law_book_here","_law_wished","_law_words","_law_due","_law_found"] ["_law_script"]$ Gf iY:=jw rfl rfl rfl (by decide +kernel)
def Z3:WL ⟨K,ca,tx K⟩ P w mg 15 "law" ["_law_script"] Bn:=
 S7 a.Bn cO λz z z z z z z z b=>
  by have d:=cO.nd;exact(pe (by walk_at "+10")$ pe (by walk_at "+21")$ pe (by walk_at "+3v11")$ pe (by walk_at "+4v11")$ pe (by walk_at "+q50.y020")$ pe (by walk_at "+6v554554")$ pe (by walk_at "+a36v554554")$ pe (MH (i:=7) cO.nd rfl (ϕ rfl)$ Ř (c:=10) (ps:=["self","hand","every","pots","words"]) a.Yt a.Tr (w9 a) (ϑ rfl) Ϣ (λz z=>Db.nil) rfl (b.mono$ by decide) rfl$ by walk_at "+26zc0.y0200")$ pe (by walk_at "+r8.y60l0")$ pe (Ny Vq rfl (by walk_at "") (by walk_at "+9")$ pe (by walk_at "+:099")$ Qi$ Zv (by walk_at "+:") (Qi$ Qv$ ew (wZ a) rfl (b.mono$ by decide) rfl$ by walk_at "+7939:89") Oz)$ pe (by walk_at "+;R6")$ pe (Qv$ ew (Υ a) rfl (b.mono$ by decide) rfl$ by walk_at "+;830")$ by walk_at "+r<71/10.y03020v0=zQ7;>;734>>;732>=>>zc;.y<0200?7;b??>7=?;73>7;v")
end
end Internal
namespace Internal
open L2 Lake
set_option maxHeartbeats 4000000
section
variable{α:Type}{xs:List α}{σ:Ga}{fi:Ev->M Bool}{fe:Ev->M D}{tg:D->Ev->Option Ev}{nx:NX}{rest:Ev}
def Y6(O:Option D->Prop)(v a:α->D)(b:α->Option D) p y(u:∀ i j,i<=xs.length->nx i (σ++j)=SY ((xs[i]?).map v))(w:∀ x o c,O c->tg (v x) (o::c::rest)=SY (SY (a x)::b x::rest)/\O (b x))
  (g:∀ x∈xs,∀ j,fi (SY (a x)::b x::rest) (σ++j)=U (p x) (σ++j)/\(p x=U2->fe (SY (a x)::b x::rest) (σ++j)=U (y x) (σ++j))) (A:xs.length<=1000) :
  ∀ k i o c ys,O c->xs.length<k+i->i<=xs.length->ys.length<=i->
   Lg nx σ.length tg fi fe k i (o::c::rest) (σ++[ώ ys])=U () (σ++[ώ$ ys++((xs.drop i).filter p).map y]):=by
 intro k;induction k with
 |zero=>intro i o c ys _ s m;lia
 |succ k q=>
  intro i o c ys t s m B;unfold Lg;rw[u i _ m];cases e:xs[i]? with
  |none=>
   have h:=ub.mp e;rw[fq h];simp
  |some d=>
   obtain⟨h,l⟩:=aa.mp e;have n:xs.drop i=d::xs.drop (i+1):=by rw[<-l];exact kh h
   obtain⟨s1,s2⟩:=g d (by rw[<-l];exact Xf h) [ώ ys];obtain⟨z,r⟩:=w d o c t;simp only[jf,z];rw[Ii,uu s1,zd];by_cases f:p d=U2
   ·rw[f,na rfl,Ii,uu$ s2 f,zd,Ii,MF ⋯,zd,q (i+1) _ _ (ys++[y d]) r ⋯ ⋯ (by simp;lia),n,gm,na f];simp
   ·rw[ya f,q (i+1) _ _ ys r ⋯ ⋯ ⋯,n,gm,ya f]
end
def Ax{xs}(h:xf xs=U2):lg σ (U (Y σ.length)$ σ++[ώ xs])=U (ύ xs) σ:=by
 have:=ML (σ:=σ) (j:=[]) (j':=[]) h
 simp_all
def Xz{e:Type}{xs:List e}{src}{s}{ix}{fi}{fe}{ρ}{σ} v y p(m:src ρ σ=U s σ)(l:∀ i j,s.nx i (σ++j)=SY ((xs[i]?).map v))(k:xs.length<=1000)
  (a:∀ x∈xs,∀ j,fi (SY (v x)::ń::(ix.map λi=>(ρ[i]?).getD ń)) (σ++j)=U (p x) (σ++j)/\(p x=U2->fe (SY (v x)::ń::(ix.map λi=>(ρ[i]?).getD ń)) (σ++j)=U (y x) (σ++j))) (f:∀ x∈xs,p x=U2->cl (y x)=U2) :
  Sh (Ei (Jj src) ix (jc 0) fi fe) ρ σ=U (ύ$ (xs.filter p).map y) σ:=by
 show lg σ (Ic (Ic _ eD) _ σ)=_;rw[Ii,Ii,m,zd];show lg σ (Ic (Lg s.nx σ.length _ fi fe 1001 0$ ń::ń::(ix.map λi=>(ρ[i]?).getD ń)) _ _)=_;rw[Ii,Y6 _ v v _ p y (λi j d=>l i j) (λx o q h=>by subst h;exact⟨rfl,rfl⟩) a k 1001 0 ń ń [] rfl ⋯ ⋯ ⋯,zd];refine Eq.trans (vd _ ?_)$ Ax (Jn λd g=>by obtain⟨x,n,rfl⟩:=Xa.mp g;obtain⟨b,c⟩:=yg.mp n;exact f x b c);simp
def bA{c:Type}{xs:List c}{src}{s}{ix}{fe}{ρ}{σ} v y(h:src ρ σ=U s σ)(g:∀ i j,s.nx i (σ++j)=SY ((xs[i]?).map v))(f:xs.length<=1000)
  (a:∀ x∈xs,∀ j,fe (SY (v x)::ń::(ix.map λi=>(ρ[i]?).getD ń)) (σ++j)=U (y x) (σ++j)) (e:∀ x∈xs,cl (y x)=U2) :
  Sh (Ei (Jj src) ix (jc 0) Ej fe) ρ σ=U (ύ$ xs.map y) σ:=by
 have:=Xz (p:=λk=>U2) v y (fi:=Ej) h g f (λd b j=>⟨rfl,λk=>a d b j⟩) (λd b k=>e d b)
 rwa [Ks.mpr λk k=>rfl]at this
theorem fR{xs:i'}{nx:NX}{tg:D->Ev->Option Ev}{h:Ev->M D}{rest:Ev}{f:Ga}{O:Option D->Prop}{Q:D->Prop}(m:∀ i j,i<=xs.length->nx i (f++j)=SY xs[i]?)(n:∀ x∈xs,∃ a b,(∀ o c,O c->tg x (o::c::rest)=SY (a::b::rest))/\O b/\∀ j,∃ y,Q y/\h (a::b::rest) (f++j)=U y (f++j))(w:xs.length<=1000):∀ (k i:Nat) (o c:Option D) (ys:i'),O c->xs.length<k+i->i<=xs.length->ys.length<=i->∃ g,g.length=xs.length - i/\(∀ z∈g,Q z)/\Lg nx f.length tg Ej h k i (o::c::rest) (f++[ώ ys])=U () (f++[ώ$ ys++g])
 |0,i,o,c,ys,_,p,l,q=>by lia
 |k+1,i,o,c,ys,r,p,l,q=>by
  unfold Lg;rw[m i _ l];cases e:xs[i]? with
  |none=>exact⟨[],by have:=ub.mp e;simp;lia,by simp,by simp⟩
  |some d=>
   have v:=(aa.mp e).1;obtain⟨a,b,t,u,st⟩:=n d (ua e);obtain⟨y,A,s⟩:=st [ώ ys];obtain⟨g,E,B,C⟩:=fR m n w k _ a b (ys++[y]) u ⋯ v (by simp;lia);refine⟨y::g,by simp;lia,by simpa using ⟨A,B⟩,?_⟩;simp only[t o c r];rw[Ii,uu (show Ej _ _=U U2 _ from rfl),zd,na rfl,Ii,uu s,zd,Ii,MF ⋯,zd,C];simp
def rR{xs:i'}{O:Option D->Prop}{Q:D->Prop}(q:f ρ e=U nx e)(p:∀ i j,i<=xs.length->nx i (e++j)=SY xs[i]?)(n:xs.length<=1000)(k:O ń)(s:∀ x∈xs,∃ a b,(∀ o g r,O g->tg x (o::g::r)=SY (a::b::r))/\O b/\∀ j,∃ y,Q y/\fe (a::b::(ix.map λi=>(ρ[i]?).getD ń)) (e++j)=U y (e++j))(l:∀ y,Q y->cl y=U2):∃ ys,ys.length=xs.length/\(∀ y∈ys,Q y)/\Sh (Ei f ix tg Ej fe) ρ e=U (ύ ys) e:=by
 obtain⟨ys,a,b,c⟩:=fR p (λx t=>(s x t).imp λu h=>h.imp λu h=>⟨λo g=>h.1 o g _,h.2⟩) n 1001 0 ń ń [] k ⋯ ⋯ ⋯;refine⟨ys,a,b,?_⟩;show lg e (Ic _ _ e)=_;rw[Ii,q,zd];show lg e (Ic (Lg nx e.length _ Ej fe 1001 0$ ń::ń::(ix.map λi=>(ρ[i]?).getD ń)) _ _)=_;rw[Ii,c,zd];exact Ax (Jn λd m=>l d$ b d m)
def GG{xs}{Q:D->Prop}(d:src ρ σ=U (.seq xs) σ)(c:xs.length<=1000)(st:∀ x∈xs,∀ j,∃ y,Q y/\fe (SY x::ń::(ix.map λi=>(ρ[i]?).getD ń)) (σ++j)=U y (σ++j))(b:∀ y,Q y->cl y=U2):∃ a,a.length=xs.length/\(∀ y∈a,Q y)/\Sh (Ei (Jj src) ix (jc 0) Ej fe) ρ σ=U (ύ a) σ:=
 rR (by show Ic _ eD σ=_;rw[Ii,d];rfl) (λg g g=>rfl) c rfl (λx e=>⟨SY x,ń,λo f r h=>by subst h;rfl,rfl,st x e⟩) b
noncomputable def Sc:D->Bool
 | Z _=>U2
 | Ϛ=>U2
 | ϓ _=>U2
 | ϐ _=>U2
 |_=>ŝ
noncomputable def bd(d:D)(a b:Int):Bool:=match d with
 | Z i=>decide (a<=i) && decide (i<=b)
 |_=>ŝ
theorem X5 x a:Ut .int (ϐ x) a=U (ϓ ŝ) a:=nr rfl
def J9(h:Sc d=U2) a:zm [d] a=U (ϓ$ match d with | Z _=>U2|_=>ŝ) a:=by
 unfold zm Lc;cases d with
 |int i=>simp
 |Nb=>simp
 |bl b=>simp
 |str x=>simp[X5]
 |_=>cases h
def K3(h:Sc d=U2) a b c:sg [d,Z a,Z b] c=U (ϓ$ bd d a b) c:=by
 have w:=J9 h;unfold sg Lc;cases d with
 |int i=>cases e:decide (a<=i)<;>simp[bd,e,w]
 |Nb=>simp[bd,w]
 |bl b=>simp[bd,w]
 |str x=>simp[bd,w]
 |_=>cases h
theorem Ī a b c d e r f:Cb (ϒ$ a::b::c::d::e::r) (Z 4) f=U e f:=IB$ ut rfl
@[simp] theorem HS f c b a d:iy f c b a d=(f a d).bind (TK (Lz c a)$ Lz b a):=nr rfl
@[simp] theorem zy4 b a x c:TK b a x c=(b c).bind (yM x a):=nr rfl
@[simp] theorem zy5 x a b c:yM x a b c=(a c).bind (mG x b):=nr rfl
@[simp] theorem zr9 b a:Lz ń b a=U ń a:=nr rfl
@[simp] theorem zsa f a b:Lz (SY f) a b=(f a b).bind JO:=nr rfl
@[simp] theorem zw8 i a:JO (Z i) a=U (SY i) a:=nr rfl
@[simp] theorem ym6 a r b:Cb (ύ$ a::r) (Z 0) b=U a b:=xI$ ut rfl
@[simp] theorem ym7 a b r c:Cb (ύ$ a::b::r) (Z 1) c=U b c:=xI$ ut rfl
theorem xx(h:nx i a=SY (SY d))(b:tg d ρ=SY ρ1):Vp nx tg body (k+1) i ρ a=(body ρ1 a).bind (fx$ Vp nx tg body k$ i+1):=by
 rw[Vp];simp only[h,b];rfl
def yF(h:nx i a=SY ń):Vp nx tg body (k+1) i ρ a=U (Ϙ ρ) a:=by
 rw[Vp];simp only[h]
@[simp] theorem cZ f a b:yH f a b=(f a b).bind jA:=nr rfl
@[simp] theorem Az b d a c e:Up b d a c e=Yl c (oJ d a c) (b c e):=Gm ..
theorem mY{xs}(b:Nh a x=SY xs)(h:xf xs=U2):lg a (wr [x] a)=U (ύ xs) a:=by
 have e:wr [x] a=U (Y a.length) (a++[ώ xs]):=by unfold wr;simp[b];rfl
 have:=ML (σ:=a) (j:=[]) (j':=[]) h
 simp_all
section
variable{σ:Ga}{x:D}{xs:i'}
def uR(h:wf σ x=SY xs):jA x σ=U (Fu x) σ:=by unfold jA;rw[h]
def dI(h:wf σ x=SY xs)(a:xs[i]?=SY d):Fu x i σ=SY (SY$ ϒ [Z i,d]):=by unfold Fu;rw[h];simp[a]
def WP(h:wf σ x=SY xs):Fu x xs.length σ=SY ń:=by unfold Fu;rw[h];simp
end
@[simp] theorem b_0:(("accept" : Str) == "offer")=ŝ:=by decide
@[simp] theorem b_1:(("agree" : Str) == "strike")=ŝ:=by decide
@[simp] theorem b_2:(("agree" : Str) == "word")=ŝ:=by decide
@[simp] theorem b_3:(("ask" : Str) == "accept")=ŝ:=by decide
@[simp] theorem b_4:(("ask" : Str) == "offer")=ŝ:=by decide
@[simp] theorem b_5:(("ask" : Str) == "struck")=ŝ:=by decide
@[simp] theorem b_6:(("ask" : Str) == "word")=ŝ:=by decide
@[simp] theorem ys3:(("strike" : Str) == "word")=ŝ:=by decide
@[simp] theorem ys4:(("struck" : Str) == "accept")=ŝ:=by decide
@[simp] theorem ys5:(("struck" : Str) == "offer")=ŝ:=by decide
theorem wB{xs}(h:xf xs=U2) a:lg a (wr [ύ xs] a)=U (ύ xs) a:=mY (iW xs) h
def dB(xs:List a)(v:a->D)(i:Nat):(xs.map v)[i]?=(xs[i]?).map v:=Ca ..
def bt(h:a<=i/\i<=b) c:sg [Z i,Z a,Z b] c=U (ϓ U2) c:=by
 rw[K3 rfl];simp[bd,h]
def NK(h:s=0\/s=1) c:Cn [Z s] c=U (ϓ U2) c:=by
 unfold Cn Lc;simp[(bt (i:=s) (a:=0) (b:=1) ⋯ c)]
def YQ(h:0<=s/\s<=59) a:Gn [Z s] a=U (ϓ U2) a:=by
 unfold Gn Lc;simp[(bt h a)]
def yO(h:0<=s/\s<=1000000) a:Ek [Z s] a=U (ϓ U2) a:=by
 unfold Ek Lc;simp[(bt h a)]
def YP(h:0<=p/\p<=2) a:qp [Z p] a=U (ϓ U2) a:=by
 unfold qp Lc;simp[(bt h a)]
def aX s a:sj [Z s] a=U (Z$ 1 - s) a:=by
 unfold sj Lc;simp
set_option genInjectivity false in
structure Ti where
 (p a w y:Int)
noncomputable def Ti.D(t:Ti):Lake.D:=ϒ [Z t.p,Z t.a,Z t.w,Z t.y]
structure Ti.Ok(t:Ti):Prop where
 p:t.p=0\/t.p=1
 a:1<=t.a/\t.a<=1000000000000
 w:0<=t.w/\t.w<=59
 y:0<=t.y/\t.y<=1000000
noncomputable def yo(b:List Ti):Int:=(b.map Ti.a).sum
def Pj(n a b:Int)(c:List Ti):D:=ϒ [Z n,ϒ [Z a,Z b],ϒ$ c.map Ti.D]
def yjc{t:Ti}(h:t.Ok) b:ym [t.D] b=U (ϓ U2) b:=by
 have c:Hk [Z t.a] b=U (ϓ U2) b:=by
  unfold Hk Lc;simp[(bt h.a b)]
 have d:xp [Z t.y] b=U (ϓ U2) b:=by
  unfold xp Lc;simp[(bt h.y b)]
 unfold Ti.D ym Lc;simp[(NK h.p b),c,(YQ h.w b),d]
structure Vo(n a b:Int)(ts:List Ti):Prop where
 n:0<=n/\n<=1000000
 a:0<=a/\a<=2000000000000
 b:0<=b/\b<=2000000000000
 t:∀ t∈ts,t.Ok
 l:ts.length<=6
 d:(ts.map Ti.w).Nodup
def eE(h:Vo n a b ts) c:aj [Pj n a b ts] c=U (ϓ U2) c:=by
 have u:=h.l;have k:∀ c,kg (ka 0) [SY$ ϒ$ ts.map Ti.D] c=U (.seq$ ts.map Ti.D) c:=λc=>by simp
 have p:=bA (ix:=[]) (fe:=Bf 1 ym []$ Fa (ka 0) ib) Ti.D (λv=>ϓ U2) (k c) (λi v=>vd SY$ dB ts _ i) ⋯ (λt o j=>by
  have:=yjc (h.t t o)$ c++j;simp[this]) (λv v=>by simp)
 have g:=bA (ix:=[]) (fe:=Sa Cb (ka 0)$ eC$ Z 2) Ti.D (λt=>Z t.w) (k c) (λi v=>vd SY$ dB ts _ i) ⋯ (λt h j=>by simp[Ti.D]) (λd s=>by simp);rw[show ts.map (λt=>Z t.w)=(ts.map Ti.w).map Z by rw[Ec];rfl]at g;have e:=V9 (σ:=c) (f:=λv:Ti=>U2) (l:=ts);rw[show ts.all _=U2 from Jb.mpr λv v=>rfl]at e;have s1:=Ö (σ:=c) (l:=ts.map Ti.w) (by simp;lia);rw[(r6 _).mpr h.d,Ha]at s1;have q:Dn [ϒ$ ts.map Ti.D] c=U (Z (ts.length:Int)) c:=by
  have:=tM (σ:=c)$ ts.map Ti.D;simpa using this
 have m:decide ((ts.length:Int) > 6)=ŝ:=by simp;lia
 unfold Pj aj Lc;dsimp only;unfold pq Lc;dsimp only;unfold uo Lc;dsimp only;generalize _=N,ts.map _=r,ts.map Ti.D=TT,(ts.map Ti.w).map Z=W at *;simp[(yO h.n c),(bt h.a c),(bt h.b c),p,g,e,s1,q,m,-bp]
def UG(t:Ti):cl t.D=U2:=by unfold Ti.D;simp
def B9(b:List Ti):xf (b.map Ti.D)=U2:=Jn λd a=>by obtain⟨t,_,rfl⟩:=Xa.mp a;exact UG t
def hV n a b c:cl (Pj n a b c)=U2:=by
 unfold Pj;simp[B9]
def wS(e:0<=u/\u<=1000000000000)(f:0<=v/\v<=1000000000000) c:Xl [Z u,Z v] c=U (Pj 0 u v []) c:=by
 have b3:=eE (n:=0) (a:=u) (b:=v) (ts:=[]) ⟨by lia,by lia,by lia,by simp,by simp,by simp⟩ c;have d:tj [Z 0,ϒ [Z u,Z v],Ϛ] c=U (Pj 0 u v []) c:=by
  unfold Pj at b3 ⊢;simp at b3 ⊢;unfold tj ZT;simp[b3]
 unfold Xl Lc;simp[d,(hV 0 u v [])]
def V6 a b c:Bz [ϒ [Z a,Z b]] c=U (Z$ a+b) c:=by
 simp[Bz,yes]
def kO(l:em) a:Bz [ύ$ l.map Z] a=U (Z l.sum) a:=by
 simp[Bz]
def xH n a b(m:c.length<=6) e:Zl [Pj n a b c] e=U (Z$ a+b+yo c) e:=by
 have g:∀ e,Cb (Pj n a b c) (Z 1) e=U (ϒ [Z a,Z b]) e:=λe=>by simp[Pj]
 have l:=bA (s:=.seq _) (ix:=[]) (fe:=Sa Cb (ka 0)$ eC$ Z 1) (ρ:=[SY$ Pj n a b c]) (σ:=e) (src:=kg$ Sa Cb (ka 0)$ eC$ Z 2) Ti.D (λt=>Z t.a) (by rfl) (λi d=>vd SY$ dB c _ i) ⋯ (λt h j=>by simp[Ti.D]) (λd k=>by simp);have f:c.map (λt=>Z t.a)=(c.map Ti.a).map Z:=by rw[Ec];rfl
 rw[f]at l;have o:=kO (c.map Ti.a) e;unfold Zl Lc;dsimp only;generalize (c.map Ti.a).map Z=G,Pj n a b c=S at *;simp[g,l,V6,o,yo,-bp]
def yK(h:Vo n a b d) c:Ze [Pj n a b d,Z$ a+b+yo d] c=U (ϓ U2) c:=by
 unfold Ze Lc;simp[(eE h c),(xH n a b (by have:=h.l;omega) c)]
abbrev Kv:=List$ Vc × D
set_option genInjectivity false in
structure Sn where
 (n a b:Int)
 ts:List Ti
def Sn.D(s:Sn):Lake.D:=Pj s.n s.a s.b s.ts
def cr(s:Sn):cl s.D=U2:=hV ..
def qD(b:List Sn):xf (b.map Sn.D)=U2:=Jn λd a=>by obtain⟨s,_,rfl⟩:=Xa.mp a;exact cr s
def s0(s:Sn) a:Cb s.D (Z 0) a=U (Z s.n) a:=by unfold Sn.D Pj;simp
def s1(s:Sn) c:Cb s.D (Z 1) c=U (ϒ [Z s.a,Z s.b]) c:=by unfold Sn.D Pj;simp
def s2(s:Sn) a:Cb s.D (Z 2) a=U (ϒ$ s.ts.map Ti.D) a:=by unfold Sn.D Pj;simp
noncomputable def ow(q:Int)(s:Sn):Int:=if q=0 then s.a else s.b
def n6(d:q=0\/q=1) s c:Cb (ϒ [Z s.a,Z s.b]) (Z q) c=U (Z$ ow q s) c:=by
 rcases d with rfl|rfl<;>simp[ow]
structure Sn.Ok(W:Int)(s:Sn):Prop where
 st:Vo s.n s.a s.b s.ts
 w:s.a+s.b+yo s.ts=W
abbrev Pv:=Int × List Sn
def ff(p:Pv):D:=ϒ [Z p.1,ύ$ p.2.map Sn.D,Ϭ [] []]
noncomputable def fk(e:Int)(K:em)(P:i'):D:=ϵ 9 ["every","last_look","known","pots"] [Z e,Z 0,ύ$ K.map Z,ύ P]
theorem NG(K:em):xf (K.map Z)=U2:=Jn λd a=>by obtain⟨s,_,rfl⟩:=Xa.mp a;rfl
def UP p:cl (ff p)=U2:=by unfold ff;simp[cl,qD]
def iQ(ps:List Pv):xf (ps.map ff)=U2:=Jn λd a=>by obtain⟨p,_,rfl⟩:=Xa.mp a;exact UP p
def ģ e K(h:xf P=U2):cl (fk e K P)=U2:=by unfold fk;simp[h]
noncomputable def Om(A:Kv):D:=Ϭ (A.map (·.1)) (A.map (·.2))
def Dk(P:D->Prop)(n:Nat)(A:Kv):Prop:=A.length<=n/\∀ p∈A,(∃ w:Int,p.1=.inl w)/\P p.2
def Ys(d:D):Prop:=∃ (k:Str) (v y:Int),d=ϒ [ϐ k,Z v,Z y]/\(k == ("open" : Str))=ŝ
def Ss(d:D):Prop:=∃ (f:Int) (A:Kv),d=ϒ [Z f,Om A]/\Dk Ys 6 A
def Dk.cl(h:Dk P n A)(a:∀ d,P d->cl d=U2):xf (A.map (·.2))=U2:=Jn λd b=>by obtain⟨p,c,rfl⟩:=Xa.mp b;exact a _ (h.2 p c).2
def Ys.cl(h:Ys d):cl d=U2:=by obtain⟨k,v,y,rfl,_⟩:=h;simp
def Ss.cl(h:Ss d):cl d=U2:=by obtain⟨f,A,rfl,h⟩:=h;simp[Om,Lake.cl,h.cl λa=>Ys.cl]
def Dk.put(h:Dk P n A)(c:P d) w:Dk P (n+1)$ Ji A (.inl w) d:=by
 unfold Ji;split
 ·refine⟨by have:=h.1;simp;lia,λp a=>?_⟩;obtain⟨x,b,rfl⟩:=Xa.mp a;have:=h.2 x b;split<;>simp_all
 ·refine⟨by have:=h.1;simp;lia,λp a=>?_⟩;rcases jb.mp a with a|a
  ·exact h.2 p a
  ·simp_all
@[simp] theorem UR b a:ir b a=U (Y a.length) (a++[Ϗ []]):=nr rfl
@[simp] theorem zgn o f b a c:RH o f b a c=(f a c).bind (vA o$ b a):=nr rfl
@[simp] theorem zo6 f c b a d:Ts f c b a d=Yl a (MO a c b) (f a d):=Gm ..
@[simp] theorem zpb c b d a e:MO a c b d e=Yl a (HK a b d) (c a e):=Gm ..
@[simp] theorem zpc b d x a c:HK a b d x c=Yl a (wo a d x) (b a c):=Gm ..
theorem nt(h:σ[n]?=SY (Ϗ kvs))(a:kvs.length<1000):wo ρ d (Y n) (Z w) σ=U (Ϙ ρ) (σ.set n$ Ϗ$ Ji kvs (.inl w) d):=by
 unfold wo;simp only[Jk,h];rw[na (show kvs.length<Uf from a)]
theorem ZI{f:D->Option D}(a:∀ d,cl d=U2->f d=SY d):∀ {xs:i'},xf xs=U2->vm f xs=SY xs
 |[],_=>rfl
 |x::xs,h=>by
  rw[xf,Da]at h;rw[vm,a x h.1,ZI a h.2]
theorem ø(h:xf (a.map (·.2))=U2):fz σ.length (σ++Ϗ a::j) (m+1) (Y σ.length)=SY (Ϭ (a.map (·.1)) (a.map (·.2))):=by
 have e:(σ++Ϗ a::j)[σ.length]?=SY (Ϗ a):=by simp
 unfold fz;dsimp only;rw[ya$ Ld _,e];dsimp only;rw[ZI (λd b=>Gy b) h];rfl
def SQ{xs}(a:xf xs=U2)(h:xf (A.map (·.2))=U2):lg σ (U (ϒ$ xs++[Y σ.length])$ σ++[Ϗ A])=U (ϒ$ xs++[Om A]) σ:=by
 have c:∀ xs,xf xs=U2->vm (fz σ.length _ 5) (xs++[Y σ.length])=SY (xs++[Om A]):=λxs=>by
  induction xs with
  |nil=>
   intro _;show vm _ [_]=_;unfold vm;rw[ø (σ:=σ) (j:=[]) (m:=4) h];rfl
  |cons x xs b=>
   intro a;rw[xf,Da]at a;rw[im,vm,Gy a.1,b a.2];rfl
 unfold lg;dsimp only;unfold fz
 simp_all
theorem yt1 b m(xs:em):Gp b (Z m) (xs.map Z)=SY (xs.map λx=>decide$ x=m):=by
 induction xs with
 |nil=>rfl
 |cons x xs a=>
  rw[Va,Va,Gp,a];rfl
def mJ(K:em) w a:Xq ŝ (Z w) (ύ$ K.map Z) a=U (ϓ$ decide$ w∈K) a:=by
 have:Nh a (ύ _)=SY (K.map Z):=rfl;unfold Xq;simp only[this,yt1];have e:((K.map λx=>decide$ x=w).any id)=decide (w∈K):=by
  rw[KC];by_cases h:w∈K
  ·rw[zf h,Hc];exact⟨w,h,by simp⟩
  ·rw[re h,Xk];intro x b;simp;intro z;exact h$ z ▸ b
 simp[e]
theorem RU{x:List b}{a:b}(h:x[i]?=SY a):x.take (i+1)=x.take i++[a]:=by
 rw[List.take_add_one,h];rfl
def Tv{xs}(P:Nat->Ev->Ga->Prop)(A:xs.length<=1000)(x:S=.seq xs\/∃ n,S=.Ml n/\∀ i ρ σ,P i ρ σ->Ce σ n=SY xs)
  (u:∀ i d ρ σ,xs[i]?=SY d->P i ρ σ->∃ e c σ2,tg d ρ=SY e/\body e σ=U (Ϙ c) σ2/\P (i+1) c σ2) (t:P 0 ρ σ):∃ a b,UE tg body ρ S σ=U (Ϙ a) b/\P xs.length a b:=by
 rcases x with rfl|⟨n,rfl,z⟩
 ·have q:∀ (r:i') (i:Nat) (ρ:Ev) (σ:Ga),xs.drop i=r->i<=xs.length->P i ρ σ->∃ a b,ek tg body r ρ σ=U (Ϙ a) b/\P xs.length a b:=λr=>by
   induction r with
   |nil=>
    intro i ρ σ h y f;have:i=xs.length:=by have:=List.drop_eq_nil_iff.mp h;lia
    exact⟨ρ,σ,by simp,this ▸ f⟩
   |cons d r s=>
    intro i ρ σ h y f;have g:xs[i]?=SY d:=by have:=vd (·[0]?) h;simpa using this
    obtain⟨e,c,σ2,j,l,m⟩:=u i d ρ σ g f;obtain⟨a,b,o,p⟩:=s (i+1) c σ2 (by have:=vd List.tail h;simpa using this) (aa.mp g).1 m;exact⟨a,b,by rw[Ay j,l,zd,Vm,o],p⟩
  exact q xs 0 ρ σ rfl ⋯ t
 ·have q:∀ (k i:Nat) (ρ:Ev) (σ:Ga),xs.length<k+i->i<=xs.length->P i ρ σ->∃ a b,Ar tg body n k i ρ σ=U (Ϙ a) b/\P xs.length a b:=λk=>by
   induction k with
   |zero=>intro i ρ σ v w;lia
   |succ k s=>
    intro i ρ σ v w f;rw[Ar];simp[(z i ρ σ f)];cases g:xs[i]? with
    |none=>
     have:i=xs.length:=by have:=ub.mp g;lia
     exact⟨ρ,σ,rfl,this ▸ f⟩
    |some d=>
     obtain⟨e,c,σ2,j,l,m⟩:=u i d ρ σ g f;obtain⟨a,b,o,p⟩:=s _ c σ2 ⋯ (aa.mp g).1 m;refine⟨a,b,?_,p⟩;simp only[j];show (body e σ).bind _=_;rw[l,zd,Vm,o]
  exact q 1001 0 ρ σ ⋯ ⋯ t
noncomputable def lk(e:Int)(K:em)(t:Ti):Str:=if t.y<=0 then "gone" else if t.w∈K/\e<t.y then "sure" else "hangs"
def sV e K t a:(lk e K t == ("open" : Str))=ŝ/\∃ b,iI ŝ ["won","sure","back"] (ϐ$ lk e K t) a=U (ϓ b) a:=by
 unfold lk;split
 ·exact⟨by decide,_,nr rfl⟩
 ·split<;>exact⟨by decide,_,nr rfl⟩
section
variable(e:Int)(K:em)(P:i')(σ:Ga)(q:Int)(ss:List Sn)
def Z2{t}(i:t.p≠q):Em [fk e K P,ff (q,ss),t.D] σ=U (ϐ$ lk e K t) σ:=by
 have l:∀ σ,Cc [9,10] "last_look" (fk e K P) σ=U (Z 0) σ:=λσ=>Ph (Wp rfl) rfl rfl;have m:∀ σ,Cc [9,10] "known" (fk e K P) σ=U (ύ$ K.map Z) σ:=λσ=>Ph (Wp rfl) rfl rfl;have n:∀ σ,Cc [9,10] "every" (fk e K P) σ=U (Z$ e) σ:=λσ=>Ph (Wp rfl) rfl rfl;have j:∀ σ,Cb (ff (q,ss)) (Z 0) σ=U (Z q) σ:=λσ=>by unfold ff;simp
 have k:∀ σ,Cb (ff (q,ss)) (Z 2) σ=U (Ϭ [] []) σ:=λσ=>by unfold ff;simp
 have o:∀ σ,Cb t.D (Z 0) σ=U (Z t.p) σ:=λσ=>by unfold Ti.D;simp
 have d:∀ σ,Cb t.D (Z 2) σ=U (Z t.w) σ:=λσ=>by unfold Ti.D;simp
 have r:∀ σ,Cb t.D (Z 3) σ=U (Z t.y) σ:=λσ=>by unfold Ti.D;simp
 have f:∀ σ,Ps (Z t.w) (Ϭ [] []) σ=U (ϓ ŝ) σ:=λσ=>nr rfl;have a:=mJ K t.w;have s:∀ σ,Rh [t.D,Ϭ [] []] σ=U (ϓ ŝ) σ:=λσ=>by
  unfold Rh Lc;simp[d,f]
 have u:∀ σ,Bj [fk e K P,Ϭ [] [],t.D] σ=U (ϐ$ lk e K t) σ:=λσ=>by
  unfold Bj lk Lc;by_cases g:t.y<=0<;>by_cases c:t.w∈K<;>by_cases h:e<t.y<;>simp[c]at a<;>simp[s,l,m,n,d,r,g,c,h,a]
 have b:(t.p == q)=ŝ:=by simp[i]
 unfold Em Lc;simp[j,k,o,u,b]
def IZ(F:q=0\/q=1){s:Sn}(E:∀ t∈s.ts,t.p≠q)(ό:s.ts.length<=6):∃ d,Ss d/\rg [fk e K P,ff (q,ss),s.D] σ=U d σ:=by
 have G:∀ σ,Cb (ff (q,ss)) (Z 0) σ=U (Z q) σ:=λσ=>by unfold ff;simp
 obtain⟨N,O,r,f,A,c,g,rfl,rfl,h⟩:=Tv (S:=.seq _) (xs:=s.ts.map Ti.D) (tg:=jc 5) (body:=wO) (ρ:=[SY$ fk e K P,SY _,SY s.D,SY$ Z$ ow q s,SY _,ń,ń]) (σ:=σ++[Ϗ []]) (λi ρ z=>∃ f A c g,ρ=[SY$ fk e K P,SY _,SY s.D,SY$ Z f,SY$ Y σ.length,c,g]/\z=σ++[Ϗ A]/\Dk Ys i A) (by simp;lia) (ϑ rfl) (λi d ρ z u C=>by
  obtain⟨f,A,c,g,rfl,rfl,h⟩:=C;rw[Ca]at u;obtain⟨t,v,rfl⟩:=Ra.mp u;have l:=λσ=>Z2 e K P σ q ss$ E t$ ua v;have I:∀ σ,Cb t.D (Z 1) σ=U (Z t.a) σ:=λσ=>by unfold Ti.D;simp
  have J:∀ σ,Cb t.D (Z 2) σ=U (Z t.w) σ:=λσ=>by unfold Ti.D;simp
  have L:∀ σ,Cb t.D (Z 3) σ=U (Z t.y) σ:=λσ=>by unfold Ti.D;simp
  have st:=λρ=>nt (ρ:=ρ) (σ:=σ++[Ϗ A]) (d:=ϒ [ϐ$ lk e K t,Z t.a,Z t.y]) (n:=σ.length) (w:=t.w) (kvs:=A) ⋯ (by have:=h.1;have:=(aa.mp v).1;lia);rw[JD]at st;obtain⟨b,H⟩:=(sV e K t$ σ++[Ϗ$ Ji A (.inl t.w)$ ϒ [ϐ$ lk e K t,Z t.a,Z t.y]]).2;have B:∀ (f:Ev->M D) (j k m o c g:Option D) (x:D) (σ:Ga),qy (λa b=>a+b) 3 f [j,k,m,SY x,o,c,g] σ=Yl [j,k,m,SY x,o,c,g] (ID (λa b=>a+b) 3 [j,k,m,SY x,o,c,g] x) (f [j,k,m,SY x,o,c,g] σ):=λf j k m o c g x σ=>xS rfl;refine⟨_,[SY$ fk e K P,SY$ ff (q,ss),SY s.D,SY$ Z$ if b then f+t.a else f,SY$ Y σ.length,SY t.D,SY$ ϐ$ lk e K t],_,rfl,?_,_,_,_,_,rfl,rfl,(h.put (d:=ϒ [ϐ$ lk e K t,Z t.a,Z t.y]) ⟨_,_,_,rfl,(sV e K t σ).1⟩ t.w)⟩;generalize Ji _ _ _=A',ff (q,ss)=P,fk e K _=V,t.D=T,lk e K t=Q,s.D=R at *;generalize σ++[Ϗ A]=ϋ,σ++[Ϗ A']=ϊ at *;cases b<;>simp[l,I,J,L,st,H,B]) ⟨_,_,_,_,rfl,rfl,yh _,by simp⟩
 have r:ek (jc 5) wO (s.ts.map Ti.D) _ _=_:=r;have h:Dk Ys 6 A:=⟨by have:=h.1;simp at this;lia,h.2⟩
 have fz:=SQ (σ:=σ) (A:=A) (xs:=[Z f]) ⋯ (h.cl λW=>Ys.cl);refine⟨_,⟨f,A,rfl,h⟩,?_⟩;simp at fz;unfold rg lQ Lc;simp[G,(s1 s),(s2 s),(n6 F s),r,fz]
end
def sQ(h:ys.length+zs.length<=1000):wv (Y σ.length) [ύ zs] (σ++[ώ ys])=U Ϛ (σ++[ώ$ ys++zs]):=by
 have e:wf (σ++[ώ ys]) (ύ zs)=SY zs:=rfl;unfold wv;simp only[NA,e];rw[na (show _<=Uf from h),JD]
theorem Ñ{xs b}(c:ka i a σ=U (ύ xs) σ)(d:ka j a σ=U (ύ b) σ):eN (ka i) (ka j) a σ=U (pG (ύ xs)$ ύ b) σ:=by
 unfold eN;rw[Ii,c,zd];unfold wT;rw[Ii,d,zd];rfl
def Rs(a:i'):Prop:=0<a.length/\a.length<=2/\∀ r∈a,Ss r
structure Tt(ps:List Pv):Prop where
 n:ps.length<=3
 q:∀ p∈ps,p.1=0\/p.1=1
 f:∀ p∈ps,0<p.2.length/\p.2.length<=2
 d:∀ p∈ps,∀ s∈p.2,(∀ t∈s.ts,t.p≠p.1)/\s.ts.length<=6
def Ŭ{b:List$ i'}(h:∀ a∈b,Rs a):xf (b.map ύ)=U2:=Jn λd c=>by obtain⟨a,e,rfl⟩:=Xa.mp c;exact Jn λr f=>((h a e).2.2 r f).cl
def o9(h:Tt ps) e K a:∃ b:List (i'),b.length=ps.length/\(∀ g∈b,Rs g)/\pi [fk e K$ ps.map ff] a=U (ύ$ b.map ύ) a:=by
 have F:∀ a,Cc [9,15] "pots" (fk e K _) a=U (ύ$ ps.map ff) a:=λa=>Ph (Wp rfl) rfl rfl;obtain⟨M,N,v,y,b,rfl,rfl,H,o⟩:=Tv (S:=.seq _) (xs:=ps.map ff) (tg:=jc 2) (body:=UN) (ρ:=[SY$ fk e K _,SY$ Y a.length,ń]) (σ:=a++[ώ []]) (λi ρ A=>∃ y b,ρ=[SY$ fk e K$ ps.map ff,SY _,y]/\A=a++[ώ$ b.map ύ]/\b.length=i/\∀ g∈b,Rs g) (by have:=h.n;simp;lia) (ϑ rfl) (λi d ρ A p G=>by
  obtain⟨y,b,rfl,rfl,rfl,o⟩:=G;rw[Ca]at p;obtain⟨⟨q,k⟩,w,rfl⟩:=Ra.mp p;have t:=ua w;have R:=(aa.mp w).1;have u:=h.f _ t;obtain⟨g,J,L,l⟩:=GG (xs:=k.map Sn.D) (src:=kg$ Sa Cb (ka 2)$ eC$ Z 1) (ix:=[0,2]) (fe:=Bf 3 rg []$ Fa (ka 2)$ Fa (ka 3)$ Fa (ka 0) ib) (ρ:=[SY$ fk e K$ ps.map ff,SY$ Y a.length,SY$ ff (q,k)]) (σ:=a++[ώ$ b.map ύ]) (Q:=Ss) (by unfold ff;simp) (by dsimp only at u;simp;lia) (λx c j=>by
   obtain⟨s,z,rfl⟩:=Xa.mp c;obtain⟨d,p,r⟩:=IZ e K (ps.map ff) (a++[ώ$ b.map ύ]++j) q k (h.q _ t) (h.d _ t s z).1 (h.d _ t s z).2;refine⟨d,p,?_⟩;generalize a++[ώ$ b.map ύ]++j=ϋ,s.D=O,ff (q,k)=C,fk e K (ps.map ff)=V at *;simp[r]) λT=>Ss.cl
  have E:=MF (σ:=a) (xs:=b.map ύ) (d:=ύ g) (by have:=h.n;simp;lia);have I:∀ m,Jr Pg m (Y a.length) (a++[ώ$ b.map ύ])=(m$ a++[ώ$ b.map ύ]).bind (Pg$ Y a.length):=λm=>VC (xs:=b.map ύ) (by unfold wf Ce;simp);refine⟨_,_,_,rfl,?_,SY$ ff (q,k),b++[g],rfl,rfl,by simp,λx c=>?_⟩
  ·rw[List.map_append];generalize ff (q,k)=C,fk e K (ps.map ff)=V,a++[ώ$ b.map ύ]=ϋ,b.map ύ=B at *;simp[I,l,E,-bp]
  ·rcases jb.mp c with c|c
   ·exact o x c
   ·obtain rfl:=Oa.mp c;rw[Ha]at J;exact⟨by have:=u.1;dsimp only at this;lia,by have:=u.2;dsimp only at this;lia,L⟩) ⟨ń,[],rfl,rfl,rfl,by simp⟩
 have fz:lg a (U (Y a.length)$ a++[ώ$ b.map ύ])=_:=Ax$ Ŭ o;have v:ek (jc 2) UN (ps.map ff) [SY$ fk e K$ ps.map ff,SY$ Y a.length,ń] (a++[ώ []])=_:=v;refine⟨b,by simpa using H,o,?_⟩;unfold pi CQ Lc;dsimp only;generalize ps.map ff=P,fk e K (ps.map ff)=V,a++[ώ$ b.map ύ]=ϊ,b.map ύ=B at *;simp[F,v,fz]
def y8(h:n<=3):2 ^ n<=8:=by
 have:n=0\/n=1\/n=2\/n=3:=by lia
 rcases this with rfl|rfl|rfl|rfl<;>decide
def IsL(a:Nat)(b:Ga)(d:D)(xs:i'):Prop:=d=ύ xs\/∃ n,d=Y n/\a<=n/\Ce b n=SY xs
def dY{xs}(h:IsL a.length (a++J) d xs)(b:xf xs=U2):lg a (U d$ a++J)=U (ύ xs) a:=by
 rcases h with rfl|⟨n,rfl,g,c⟩
 ·unfold lg;dsimp only;rw[na ⋯,Gy (show cl _=U2 by rw[cl];exact b)]
 ·have e:=vH c;unfold lg;dsimp only;rw[na ⋯];have:fz a.length (a++J) 6 (Y n)=SY (ύ xs):=by
   unfold fz;rw[ya ⋯];dsimp only;rw[ya ⋯,e];dsimp only;rw[ZI (λd f=>Gy f) b];rfl
  rw[this]
def D4{xs}(h:IsL f a d xs)(b:∀ a,ka i ρ a=U d a) J:∃ S,kg (ka i) ρ (a++J)=U S (a++J)/\(S=.seq xs\/∃ n,S=.Ml n/\∀ J,Ce (a++J) n=SY xs):=by
 rcases h with rfl|⟨n,rfl,_,c⟩
 ·exact⟨.seq xs,by rw[nH,b];simp,ϑ rfl⟩
 ·have g:∀ J,Ce (a++J) n=SY xs:=λJ=>by
   have e:=vH c;unfold Ce;rw[Ya (aa.mp e).1,e]
  refine⟨.Ml n,?_,ϕ ⟨n,rfl,g⟩⟩;rw[nH,b,zd];show (match Ce _ n with|some _=>_|none=>_)=_;rw[g]
def Pc(a:List$ i')(x:D):Prop:=∃ ks:gV,x=ύ (ks.map λ(k:Nat)=>Z k)/\ks.length=a.length/\∀ (i k:Nat) (rs:i'),ks[i]?=SY k->a[i]?=SY rs->k<rs.length
theorem Pc.cl(h:Pc a x):cl x=U2:=by
 obtain⟨ks,rfl,_⟩:=h;exact Jn λd b=>by obtain⟨p,_,rfl⟩:=Xa.mp b;rfl
def P9(G:g.length<=3)(H:d.length<=2)(u:Pc g c)(I:ys.length<=100) R C b:∃ e,e.length=d.length/\(∀ z∈e,Pc (g++[d]) z)/\QI [R,C,SY$ ύ d,SY$ Y b.length,SY c] (b++[ώ ys])=U (Ϙ [R,C,SY$ ύ d,SY$ Y b.length,SY c]) (b++[ώ$ ys++e]):=by
 obtain⟨ks,rfl,q,F⟩:=u;have p:∀ (i:Nat) f,lh (ύ$ ks.map λ(k:Nat)=>Z k) (ύ [Z i]) f=U (ύ$ (ks++[i]).map λ(k:Nat)=>Z k) f:=λi f=>by rw[Jz (by unfold Uf;simp;lia)];simp
 have w:∀ f,Dn [ύ d] f=U (Z d.length) f:=λf=>by simp
 obtain⟨e,n,B,l⟩:=GG (xs:=(List.range d.length).map λ(i:Nat)=>Z i) (src:=io$ Qm Dn$ Fa (ka 2) ib) (ix:=[4]) (fe:=Sa lh (ka 2)$ Zi$ Fa (ka 0) ib) (ρ:=[R,C,SY$ ύ d,SY$ Y b.length,SY$ ύ (ks.map λ(k:Nat)=>Z k)]) (σ:=b++[ώ ys]) (Q:=Pc$ g++[d]) (by
  have A:ot (Z d.length) (b++[ώ ys])=U (.seq$ (List.range d.length).map λ(i:Nat)=>Z i) (b++[ώ ys]):=by
   rw[kF ⋯ ⋯];rfl
  simp[w,A]) (by simp;lia) (λx v j=>by
  obtain⟨i,h,rfl⟩:=Xa.mp v;have:=p i$ b++[ώ ys]++j;refine⟨_,⟨ks++[i],rfl,by simp[q],λa k r s t=>?_⟩,by
   generalize b++[ώ ys]++j=ϋ,(ks++[i]).map (λk:Nat=>Z k)=E,ks.map (λk:Nat=>Z k)=o at *;simp[this]⟩
  have h:=Wi.mp h;rw[List.getElem?_append]at s t
  grind) λa=>Pc.cl
 have ex:=sQ (σ:=b) (ys:=ys) (zs:=e) (by simp at n;lia);have y:∀ m,Jr wv m (Y b.length) (b++[ώ ys])=(m$ b++[ώ ys]).bind (wv$ Y b.length):=λm=>VC (xs:=ys) (by unfold wf Ce;simp);refine⟨e,by simpa using n,B,?_⟩;unfold QI;generalize ks.map (λk:Nat=>Z k)=o at *;simp[y,l,ex,-bp]
def SZ(A:g.length<=3)(J:0<e.length)(B:e.length<=2)(K:a.length<=8)(w:∀ c∈a,Pc g c)(z:IsL o b d a) R F j:∃ m ys,(∀ c∈ys,Pc (g++[e]) c)/\a.length<=ys.length/\ys.length<=2 * a.length/\iF [R,SY d,SY$ ύ e,F,j] b=U (Ϙ [R,SY$ Y b.length,SY$ ύ e,SY$ Y b.length,m]) (b++[ώ ys]):=by
 obtain⟨S,s,v⟩:=D4 z (ρ:=[R,SY d,SY$ ύ e,SY$ Y b.length,j]) (i:=1) (λD=>rfl) [ώ []];obtain⟨H,I,E,m,ys,rfl,rfl,l,q,r⟩:=Tv (S:=S) (xs:=a) (tg:=jc 4) (body:=QI) (ρ:=[R,SY d,SY _,SY _,j]) (σ:=b++[ώ []]) (λi ρ p=>∃ y ys,ρ=[R,SY d,SY _,SY _,y]/\p=b++[ώ ys]/\(∀ c∈ys,Pc (g++[e]) c)/\i<=ys.length/\ys.length<=2 * i) ⋯ (by
   rcases v with h|⟨n,t,u⟩
   ·exact ϑ h
   ·exact ϕ ⟨n,t,λi ρ p k=>by obtain⟨_,_,_,rfl,_⟩:=k;exact u _⟩) (λi c ρ p f k=>by
  obtain⟨y,ys,rfl,rfl,l,q,r⟩:=k;have L:=(aa.mp f).1;obtain⟨N,M,G,st⟩:=P9 A B (w c$ ua f) (ys:=ys) ⋯ R _ b;exact⟨_,_,_,rfl,st,_,_,rfl,rfl,λx C=>(jb.mp C).elim (l x)$ G x,by simp;lia,by simp;lia⟩) ⟨j,[],rfl,rfl,by simp,by simp,by simp⟩
 refine⟨m,ys,l,q,r,?_⟩;unfold iF;simp[s,E,-nH]
def v9(y:RR.length<=3)(z:∀ n∈RR,Rs n) b:∃ a,(∀ c∈a,Pc RR c)/\0<a.length/\a.length<=8/\Sf [ύ$ RR.map ύ] b=U (ύ a) b:=by
 have t:∀ {i},i<=RR.length->2 ^ i<=8:=λw=>y8$ zb w y;obtain⟨B,C,m,d,o,j,k,J,a,rfl,rfl,l,f,q,h⟩:=Tv (S:=.seq _) (xs:=RR.map ύ) (tg:=jc 2) (body:=iF) (ρ:=[SY _,SY$ ύ [ύ []],ń,ń,ń]) (σ:=b) (λi ρ p=>∃ d o j k J a,ρ=[SY$ ύ$ RR.map ύ,SY d,o,j,k]/\p=b++J/\IsL b.length p d a/\(∀ c∈a,Pc (RR.take i) c)/\0<a.length/\a.length<=2 ^ i) (by simp;lia) (ϑ rfl) (λi E ρ p g u=>by
  obtain⟨d,o,j,k,J,a,rfl,rfl,l,f,q,h⟩:=u;rw[Ca]at g;obtain⟨n,e,rfl⟩:=Ra.mp g;have r:=z n$ ua e;obtain⟨H,ys,s,F,G,st⟩:=SZ (by rw[We];lia) r.1 r.2.1 (zb h$ t$ jd$ (aa.mp e).1) f l (SY$ ύ$ RR.map ύ) j k;rw[<-RU e]at s;exact⟨_,_,_,rfl,st,_,_,_,_,J++[ώ ys],ys,rfl,by rw[Lf],ϕ ⟨(b++J).length,rfl,by simp,NA _⟩,s,by lia,by rw[Nat.pow_succ];lia⟩) ⟨ύ [ύ []],ń,ń,ń,[],[ύ []],rfl,by simp,ϑ rfl,λc v=>⟨[],by simpa using v,by simp⟩,by simp,by simp⟩
 rw[Ha]at f h;rw[Md]at f;have m:ek (jc 2) iF _ [SY$ ύ$ RR.map ύ,SY _,ń,ń,ń] b=_:=m;refine⟨a,f,q,zb h$ t$ wa _,?_⟩;unfold Sf gW Lc;simp[m,(dY l$ Jn λx A=>(f x A).cl)]
def ļ(A:e.length<=3)(o:∀ d∈e,Rs d)(t:Pc e c) f:∃ d,d.length=e.length/\(∀ r∈d,Ss r)/\Ge [ύ$ e.map ύ,c] f=U (ύ d) f:=by
 obtain⟨ks,rfl,z,s⟩:=t;obtain⟨d,y,q,l⟩:=rR (xs:=(e.zip ks).map λx=>ϒ [ύ x.1,Z x.2]) (O:=λB=>True) (tg:=rl 2$ Vf (jc 0)$ Vf (jc 1) cm) (ix:=[]) (fe:=Sa Cb (ka 0)$ ka 1) (ρ:=[SY$ ύ$ e.map ύ,SY$ ύ (ks.map λ(k:Nat)=>Z k)]) (Q:=Ss) (Ñ (i:=0) (j:=1) (σ:=f) rfl rfl) (λi j h=>by
  have a:wf (f++j) (ύ$ e.map ύ)=SY _:=rfl;have b:wf (f++j) (ύ _)=SY (ks.map λ(k:Nat)=>Z k):=rfl;unfold pG;simp only[a,b,Ca,List.zip,List.getElem?_zipWith];cases g:e[i]? with
  |none=>
   have m:ks[i]?=ń:=ub.mpr (by have:=ub.mp g;lia);simp[m];simp at h;have:=ub.mp g;lia
  |some d=>
   have m:ks[i]?=SY (ks[i]'(by have:=(aa.mp g).1;lia)):=aa.mpr ⟨_,rfl⟩;rw[m];rfl) (by simp;lia) trivial (λx w=>by
  obtain⟨⟨d,k⟩,v,rfl⟩:=Xa.mp w;obtain⟨i,u⟩:=Pq.mp v;obtain⟨a,b⟩:=List.getElem?_zip_eq_some.mp u;have p:=s i k d b a;refine⟨SY$ ύ d,SY$ Z k,λB B B B=>rfl,trivial,λj=>⟨d[k],(o d$ ua a).2.2 _$ Xf p,?_⟩⟩;have:=xI (σ:=f++j)$ ut$ aa.mpr ⟨p,rfl⟩;simp[this]) λB=>Ss.cl
 refine⟨d,by simp at y;lia,q,?_⟩;have n:xf d=U2:=Jn λr o=>(q r o).cl;unfold Ge Lc;simp[l,n,-bp]
def WN A a:xr A A.length a=SY ń:=by unfold xr;simp
def ł(h:f ρ a=U (Ϭ (A.map (·.1)) (A.map (·.2))) a):GB f ρ a=U (xr A) a:=by
 have z:∀ A:Kv,(A.map (·.1)).zip (A.map (·.2))=A:=λA=>by
  induction A with
  |nil=>rfl
  |cons x r b=>simp_all
 show Ic _ zH a=_;rw[Ii,h,zd];unfold zH
 simp_all
theorem mL{nx:NX}{tg:D->Ev->Option Ev}{body:Ev->M Fl}{N:Nat}(P:Nat->Ev->Ga->Prop)(m:∀ i b a,i<N->P i b a->∃ d h e g,nx i a=SY (SY d)/\tg d b=SY h/\body h a=U (Ϙ e) g/\P (i+1) e g)(l:∀ a,nx N a=SY ń):∀ (k i:Nat) (b:Ev) (a:Ga),N<k+i->i<=N->P i b a->∃ c f,Vp nx tg body k i b a=U (Ϙ c) f/\P N c f
 |0,i,b,a,t,u,_=>by lia
 |k+1,i,b,a,t,u,j=>by
  by_cases v:i=N
  ·subst v;exact⟨b,a,yF$ l a,j⟩
  ·obtain⟨d,h,e,g,n,o,p,q⟩:=m i b a ⋯ j;obtain⟨c,f,r,s⟩:=mL P m l k _ e g ⋯ ⋯ q;refine⟨c,f,?_,s⟩;rw[xx n o,p,zd,Vm,r]
def AK{A:Kv}(h:f ρ σ=U (Ϭ (A.map (·.1)) (A.map (·.2))) σ)(r:A.length<=1000)(P:Nat->Ev->Ga->Prop)(q:∀ i k v ρ σ,A[i]?=SY (k,v)->P i ρ σ->∃ a b c,tg (ϒ [sA k,v]) ρ=SY a/\body a σ=U (Ϙ b) c/\P (i+1) b c)(n:P 0 ρ σ):∃ d g,Up (GB f) tg body ρ σ=U (Ϙ d) g/\P A.length d g:=by
 rw[Az,ł h,qm];refine mL P (λi ρ σ p o=>?_) (WN A) 1001 0 ρ σ ⋯ ⋯ n;have e:=aa.mpr ⟨p,rfl⟩;obtain⟨a,b,c,j,l,m⟩:=q i _ _ ρ σ e o;refine⟨_,a,b,c,?_,j,l,m⟩;unfold xr;simp[e]
def QM{xs}(h:a[n]?=SY (ώ xs))(b:xs.length<1000):Pg (Y n) [d] a=U Ϛ (a.set n$ ώ$ xs++[d]):=by
 unfold Pg Ce;simp only[h];rw[na (show _<Uf from b)]
def Dk.mono(h:Dk P n A)(c:n<=m)(b:∀ d,P d->Q d):Dk Q m A:=⟨by have:=h.1;lia,λp a=>⟨(h.2 p a).1,b _ (h.2 p a).2⟩⟩
def TB(k:Nat)(d:D):Prop:=∃ a:i',d=ύ a/\a.length<=k/\∀ l∈a,Ys l
def TB.cl(h:TB k d):cl d=U2:=by
 obtain⟨b,rfl,_,h⟩:=h;exact Jn λl a=>(h l a).cl
def Lr(b k:Nat)(j:Ga)(d:D):Prop:=∃ m a,d=Y (b+m)/\j[m]?=SY (ώ a)/\a.length<=k/\∀ l∈a,Ys l
def D7(h:Dk (Lr (a.length+1) k j) k A)(ό:k<=100)(J:Ys l) w R O:∃ A' N,CM [R,SY$ Y a.length,O,SY$ Z w,SY l] (a++Ϗ A::j)=U (Ϙ [R,SY$ Y a.length,O,SY$ Z w,SY l]) (a++Ϗ A'::N)/\Dk (Lr (a.length+1) (k+1) N) (k+1) A':=by
 have B:∀ (A:Kv) (j:Ga),(a++Ϗ A::j)[a.length]?=SY (Ϗ A):=λA j=>by simp
 have i:∀ (A:Kv) (j:Ga) (m:Nat),(a++Ϗ A::j)[a.length+1+m]?=j[m]?:=λA j m=>by rw[Gb ⋯,show a.length+1+m - a.length=m+1 by lia,List.getElem?_cons_succ]
 have y:∀ (A:Kv) (j:Ga) (m:Nat) (o:Ob),(a++Ϗ A::j).set (a.length+1+m) o=a++Ϗ A::j.set m o:=λA j m o=>by rw[Wf _ _ ⋯,show a.length+1+m - a.length=m+1 by lia,Wj]
 have E:∀ b,vA Vw b (Y a.length) (a++Ϗ A::j)=(b$ a++Ϗ A::j).bind (Vw$ Y a.length):=λb=>by
  have:Of (a++Ϗ A::j) (Y a.length)=SY A:=by unfold Of;simp
  unfold vA;rw[this];rfl
 have I:(a++Ϗ A::j)++[ώ []]=a++Ϗ A::(j++[ώ []]):=by simp
 have H:(a++Ϗ A::j).length=a.length+1+j.length:=by simp;lia
 have F:∀ {A:Kv} {j:Ga} {m:Nat} {f:i'} (b:M$ i'),j[m]?=SY (ώ f)->Jr Pg b (Y$ a.length+1+m) (a++Ϗ A::j)=(b$ a++Ϗ A::j).bind (Pg$ Y$ a.length+1+m):=λb h=>VC (by unfold wf Ce;simp[i,h];rfl);have G:∀ {A:Kv} {j:Ga} {m:Nat} {f:i'},j[m]?=SY (ώ f)->f.length<=k->Pg (Y$ a.length+1+m) [l] (a++Ϗ A::j)=U Ϛ (a++Ϗ A::j.set m (ώ$ f++[l])):=λh L=>by rw[QM ((i ..).trans h) ⋯,y]
 cases q:Wk A (.inl w)with
 |some d=>
  obtain⟨p,u,rfl⟩:∃ p∈A,p.2=d:=by
   unfold Wk at q;obtain⟨p,u,rfl⟩:=Ra.mp q;exact⟨p,Do u,rfl⟩
  obtain⟨m,f,e,K,L,P⟩:=(h.2 p u).2;rw[e]at q;have c:(j++[ώ []])[m]?=SY (ώ f):=(Ya (aa.mp K).1).trans K;have t:Vw (Y a.length) [Z w,Y$ a.length+1+j.length] (a++Ϗ A::(j++[ώ []]))=U (Y$ a.length+1+m) (a++Ϗ A::(j++[ώ []])):=by
   unfold Vw;simp only[Jk,B];rw[na (by have:=h.1;unfold Uf;lia)];simp[q]
  refine⟨A,_,by simp[E,t,(λb=>F (A:=A) b c),(G (A:=A) c L),H,I];rfl,h.mono ⋯ λd ⟨s,g,r,n,T,v⟩=>?_⟩;have S:=(aa.mp n).1;by_cases C:m=s
  ·subst C;exact⟨m,f++[l],r,Ia (by simp;lia),by simp;lia,λx Q=>(jb.mp Q).elim (P x) λz=>by obtain rfl:=Oa.mp z;exact J⟩
  ·exact⟨s,g,r,by rw[Za C,Ya S,n],by lia,v⟩
 |none=>
  have c:(j++[ώ []])[j.length]?=SY (ώ []):=by simp
  have t:Vw (Y a.length) [Z w,Y$ a.length+1+j.length] (a++Ϗ A::(j++[ώ []]))=U (Y$ a.length+1+j.length) (a++Ϗ (Ji A (.inl w)$ Y$ a.length+1+j.length)::(j++[ώ []])):=by
   unfold Vw;simp only[Jk,B];rw[na (by have:=h.1;unfold Uf;lia)];simp[q]
  refine⟨_,_,by simp[E,t,(λA b=>F (A:=A) b c),(λA=>G (A:=A) c ⋯),H,I];rfl,(h.mono (wa _) λd ⟨s,g,r,n,T,v⟩=>?_).put ⟨j.length,[l],rfl,by simp,by simp,by simpa using J⟩ w⟩;exact⟨s,g,r,(Ya (aa.mp n).1).trans n,by lia,v⟩
theorem tY(h:Dk (Lr (a.length+1) k j) k A):∃ B,Dk (TB k) k B/\lg a (U (Y a.length)$ a++Ϗ A::j)=U (Om B) a:=by
 have e:(a++Ϗ A::j)[a.length]?=SY (Ϗ A):=by simp
 have c:∀ (m:Nat),(a++Ϗ A::j)[a.length+1+m]?=j[m]?:=λm=>by rw[Gb ⋯,show a.length+1+m - a.length=m+1 by lia,List.getElem?_cons_succ]
 have t:∀ C:Kv,(∀ p∈C,(∃ w:Int,p.1=.inl w)/\Lr (a.length+1) k j p.2)->∃ B:Kv,B.length=C.length/\B.map (·.1)=C.map (·.1)/\(∀ p∈B,(∃ w:Int,p.1=.inl w)/\TB k p.2)/\vm (fz a.length _ 5) (C.map (·.2))=SY (B.map (·.2)):=λC=>by
  induction C with
  |nil=>exact λd=>⟨[],rfl,rfl,by simp,rfl⟩
  |cons p C E=>
   intro q;obtain⟨B,o,g,b3,i⟩:=E λx b=>q x$ ja _ b;obtain⟨D,m,n,s,y,z,r⟩:=q p va;have f:fz a.length (a++Ϗ A::j) 5 p.2=SY (ύ n):=by
    rw[s];unfold fz;rw[ya ⋯];dsimp only;rw[ya ⋯,c,y];dsimp only;rw[ZI (λd u=>Gy u) (Jn λl v=>(r l v).cl)];rfl
   refine⟨(p.1,ύ n)::B,by simp[o],by simp[g],λx b=>?_,by rw[Va,vm,f,i];rfl⟩;rcases Ba.mp b with rfl|b
   ·exact⟨D,n,rfl,z,r⟩
   ·exact b3 x b
 apply b_;intro z_;obtain⟨B,o,g,b3,i⟩:=t A h.2;apply z_;refine⟨B,⟨by have:=h.1;lia,b3⟩,?_⟩;unfold lg;dsimp only;rw[na ⋯];unfold fz;rw[ya ⋯];dsimp only;rw[ya$ Ld _,e];dsimp only;rw[i,<-g];rfl
def Δ(Q:b.length<=3)(M:∀ r∈b,Ss r) a:∃ B,Dk (TB 18) 18 B/\Eg [ύ b] a=U (Om B) a:=by
 obtain⟨z,E,h,u,l,n,A,j,rfl,rfl,g⟩:=Tv (S:=.seq b) (xs:=b) (tg:=jc 2) (body:=lN) (ρ:=[SY _,SY _,ń,ń,ń]) (σ:=a++[Ϗ []]) (λi ρ o=>∃ u l n A j,ρ=[SY _,SY _,u,l,n]/\o=a++Ϗ A::j/\Dk (Lr (a.length+1) _ j) _ A) ⋯ (ϑ rfl) (λi d ρ o I q=>by
  obtain⟨u,l,n,A,j,rfl,rfl,g⟩:=q;have O:=(aa.mp I).1;obtain⟨f,C,rfl,H⟩:=M d (ua I);have P:=H.1;obtain⟨z,E,h,x,y,A',s,rfl,rfl,c⟩:=AK (f:=Sa Cb (ka 2)$ eC$ Z 1) (A:=C) (ρ:=[SY$ ύ b,SY$ Y a.length,SY _,l,n]) (σ:=a++Ϗ A::j) (tg:=rl 2$ Vf (jc 3)$ Vf (jc 4) cm) (body:=CM) (by simp[Om]) ⋯ (λk ρ o=>∃ x y A j,ρ=[SY$ ύ b,SY$ Y a.length,SY$ ϒ [Z f,Om C],x,y]/\o=a++Ϗ A::j/\Dk (Lr (a.length+1) (6 * i+k) j) (6 * i+k) A) (λk R v ρ o J q=>by
   obtain⟨x,y,A,j,rfl,rfl,g⟩:=q;have:=(aa.mp J).1;obtain⟨⟨w,rfl⟩,N⟩:=H.2 _ (ua J);obtain⟨A',s,e,c⟩:=D7 g ⋯ N w (SY$ ύ b) (SY$ ϒ [Z f,Om C]);exact⟨_,_,_,rfl,e,_,_,A',s,rfl,rfl,c⟩) ⟨l,n,A,j,rfl,rfl,g⟩
  exact⟨_,_,_,rfl,h,_,_,_,A',s,rfl,rfl,c.mono ⋯ (by rintro d ⟨m,t,p,F,G,K⟩;exact ⟨m,t,p,F,by lia,K⟩)⟩) ⟨ń,ń,ń,[],[],rfl,rfl,by simp,by simp⟩
 obtain⟨B,L,fz⟩:=tY g;have h:ek (jc 2) lN b [SY$ ύ b,SY$ Y a.length,ń,ń,ń] (a++[Ϗ []])=_:=h;refine⟨B,L.mono ⋯ (by rintro d ⟨t,p,F,G⟩;exact ⟨t,p,by lia,G⟩),?_⟩;unfold Eg cX Lc;dsimp only;simp[h,fz,-Az]
def IL(L:i'):Prop:=∀ z∈L,∃ i,z=Z i
theorem IL.cl(h:IL L):xf L=U2:=Jn λd a=>by obtain⟨i,rfl⟩:=h d a;rfl
def IL.add(h:IL L) n:IL$ L++[Z n]:=λz a=>by
 rcases jb.mp a with a|a
 ·exact h z a
 ·exact⟨n,Oa.mp a⟩
noncomputable def jF:D->Int
 | Z i=>i
 |_=>0
theorem IL.eq(h:IL L):L=(L.map jF).map Z:=by
 rw[Ec];refine(List.map_id L).symm.trans (oj λz a=>?_);obtain⟨i,rfl⟩:=h z a;rfl
def zj7(h:Ys l) e a:Yf [l,Ϛ,Z e] a=U (ϓ ŝ) a:=by
 obtain⟨k,v,y,rfl,c⟩:=h;have d:∀ a,dW Ϛ Ϛ a=U (ϓ ŝ) a:=λa=>nr rfl;unfold Yf Lc;dsimp only;cases b:(k == ("hangs" : Str))<;>simp[c,b,d]
@[simp] theorem zkj d b c a e:GI d b c a e=(c a e).bind (XB b$ d.map λi=>(a[i]?).getD ń):=nr rfl
theorem ZN{c:Ev->M D}{rest:Ev}{a:Ga}:∀ (xs:i') (b:D) (i:Int),(∀ x∈xs,∃ i:Int,c (SY x::rest) a=U (Z i) a)->∃ y∈b::xs,bx c rest xs b i a=U y a
 |[],b,i,_=>⟨b,by simp,rfl⟩
 |x::xs,b,i,h=>by
  obtain⟨k,f⟩:=h x va;have g:=λy j=>h y$ ja _ j;unfold bx;rw[Ii,uu f,zd];dsimp only;split
  ·obtain⟨y,d,e⟩:=ZN xs x k g
   simp_all
  ·obtain⟨y,d,e⟩:=ZN xs b i g;exact⟨y,by simp at d ⊢;grind,e⟩
def eV{rest}{xs}(a:0<xs.length)(h:∀ x∈xs,∃ i:Int,fe (SY x::rest) σ=U (Z i) σ):∃ y∈xs,XB fe rest [ύ xs] σ=U y σ:=by
 cases xs with
 |nil=>cases a
 |cons x xs=>
  obtain⟨k,b⟩:=h x va;unfold XB;dsimp only;rw[Ii,uu b,zd];exact ZN xs x k λy c=>h y$ ja _ c
section
variable{ls:i'}(hl:ls.length<=1000)(h:∀ l∈ls,Ys l)(e:Int)(σ:Ga)
include hl h
theorem j5:Yi [ύ ls] σ=U (ύ [Ϛ]) σ:=by
 have c:=Xz (src:=kg$ ka 0) (ρ:=[SY$ ύ ls]) (σ:=σ) (ix:=[]) (fi:=eT$ Sa Hh (Sa Cb (ka 0)$ eC$ Z 0)$ eC$ ϐ "open") (fe:=qI) id (λe=>Ϛ) (λe=>ŝ) (by simp;rfl) (λi e=>by rw[Mx];rfl) hl (λx b j=>by
  obtain⟨k,v,y,rfl,a⟩:=h x b;exact⟨by simp[a],λz=>by cases z⟩) (λe e e=>rfl)
 rw[gq.mpr ⋯]at c;have d:∀ σ,lh (ύ [Ϛ]) (ύ []) σ=U (ύ [Ϛ]) σ:=λσ=>by rw[Jz (by simp[Uf])];rfl
 unfold Yi Lc;dsimp only
 simp_all
theorem MP:we [ύ ls,Ϛ,Z e] σ=U (Z 0) σ:=by
 have b:=Xz (src:=kg$ ka 0) (ρ:=[SY$ ύ ls,SY Ϛ,SY$ Z e]) (σ:=σ) (ix:=[1,2]) (fi:=eT$ Bf 3 Yf []$ Fa (ka 0)$ Fa (ka 2)$ Fa (ka 3) ib) (fe:=qI) id (λc=>Ϛ) (λc=>ŝ) (by simp;rfl) (λi c=>by rw[Mx];rfl) hl (λx a j=>by
  exact⟨by simp[(zj7 (h x a) e _)],λz=>by cases z⟩) (λc c c=>rfl)
 rw[gq.mpr ⋯]at b;have s:=kO [] σ;unfold we Lc;dsimp only
 simp_all
theorem M3:Te [ύ ls,Z e] σ=U Ϛ σ:=by
 have b:=j5 hl h;obtain⟨y,c,m⟩:=eV (xs:=[Ϛ]) (fe:=Bf 3 we []$ Fa (ka 1)$ Fa (ka 0)$ Fa (ka 2) ib) (rest:=[SY$ ύ ls,SY$ Z e]) (σ:=σ) ⋯ (λx a=>⟨0,by obtain rfl:=Oa.mp a;simp[(λσ=>MP hl h e σ)]⟩);unfold Te VV
 simp_all
end
def xY(ό:g.length<=3)(L:∀ r∈g,Ss r)(C:Dk (TB 18) 18 B) e c(I:∀ p∈B,∀ w:Int,p.1=.inl w->gk F (Z w) c=U Ϛ c):∃ s:Int,Dm [ύ g,Om B,F,Z e] c=U (Z s) c:=by
 obtain⟨ys,q,o,l⟩:=GG (xs:=g) (src:=kg$ ka 0) (ix:=[]) (fe:=Sa Cb (ka 0)$ eC$ Z 0) (ρ:=[SY$ ύ g,SY$ Om B,SY F,SY$ Z e,ń,ń,ń]) (σ:=c) (Q:=λd=>∃ i,d=Z i) ⋯ ⋯ (λx M j=>by
  obtain⟨f,A,rfl,_⟩:=L x M;exact⟨_,⟨f,rfl⟩,by simp⟩) (λ_ ⟨i,h⟩=>by subst h;rfl)
 have s1:=kO (ys.map jF) c;rw[<-IL.eq o]at s1;have P:∀ f y q o z m n (x:D) (c:Ga),qy _ 4 f [y,q,o,z,SY x,m,n] c=Yl [y,q,o,z,SY x,m,n] (ID (λa b=>a+b) 4 [y,q,o,z,SY x,m,n] x) _:=λV V V V V V V V V=>xS rfl;obtain⟨R,S,N,t,m,n,rfl,rfl⟩:=AK (f:=ka 1) (A:=B) (ρ:=[SY _,SY$ Om B,SY F,SY$ Z e,SY$ Z (ys.map jF).sum,ń,ń]) (σ:=c) (tg:=rl 2$ Vf (jc 5)$ Vf (jc 6) cm) (body:=SU) rfl (by have:=C.1;lia) (λi ρ u=>∃ (t:Int) (m n:Option D),ρ=[SY$ ύ g,SY$ Om B,SY F,SY$ Z e,SY$ Z t,m,n]/\u=c) (λi k v ρ u K J=>by
  obtain⟨t,m,n,rfl,rfl⟩:=J;have E:=ua K;obtain⟨⟨w,rfl⟩,O,rfl,G,H⟩:=C.2 _ E;refine⟨_,[SY$ ύ g,SY$ Om B,SY F,SY$ Z e,SY$ Z t,SY$ Z w,SY$ ύ O],u,rfl,?_,t,_,_,rfl,rfl⟩;simp[P,(MP (zb G _) H e u),(I _ E w rfl),sA]) ⟨_,_,_,rfl,rfl⟩
 refine⟨t,?_⟩;unfold Dm OP Lc;dsimp only;generalize Om B=T at *;simp[l,s1,N,-bp,-Az]
set_option tactic.hygienic true in
def T7(h:∀ z∈F,z.2=Ϛ) k:(Ji F k Ϛ).length<=F.length+1/\(∀ z∈Ji F k Ϛ,z.2=Ϛ)/\(∀ z∈F,∃ y∈Ji F k Ϛ,y.1=z.1)/\∃ y∈Ji F k Ϛ,y.1=k:=by
 unfold Ji;split
 ·next c=>
  obtain⟨y,d,e⟩:=Hc.mp c;refine⟨by simp,λz a=>?_,λz a=>⟨_,Qc a,by split<;>rfl⟩,_,Qc d,by split<;>simp_all⟩;obtain⟨x,b,rfl⟩:=Xa.mp a;split
  ·rfl
  ·exact h x b
 ·exact⟨by simp,λz a=>(jb.mp a).elim (h z) λx=>by simp_all,λz a=>⟨z,Wa _ a,rfl⟩,_,Qa _ va,rfl⟩
def Pp(d:D):Prop:=cl d=U2/\∃ (i:Int) (r:i'),d=ϒ (Z i::r)
def Ü(I:l.length<=3)(J:∀ r∈l,Ss r)(G:cl c=U2) e a:∃ d,Pp d/\Tf [ύ l,c,Z e] a=U d a:=by
 obtain⟨B,j,lo⟩:=Δ I J a;obtain⟨a0,a1,lp,u,x,F,rfl,rfl,O,h,o⟩:=AK (f:=ka 3) (A:=B) (ρ:=[SY$ ύ l,SY c,SY$ Z e,SY$ Om B,SY _,ń,ń]) (σ:=a++[Ϗ []]) (tg:=rl 2$ Vf (jc 5)$ Vf (jc 6) cm) (body:=PU) rfl (by have:=j.1;lia) (λi ρ K=>∃ u x F,ρ=[SY _,SY c,SY$ Z e,SY$ Om B,SY$ Y a.length,u,x]/\K=a++[Ϗ F]/\F.length<=i/\(∀ z∈F,z.2=Ϛ)/\∀ k p,k<i->B[k]?=SY p->∃ z∈F,z.1=p.1) (λi k v ρ K t S=>by
  obtain⟨u,x,F,rfl,rfl,O,h,o⟩:=S;have ό:=ua t;have q:=(aa.mp t).1;have hb:=j.1;obtain⟨⟨w,rfl⟩,ls,rfl,E,b⟩:=j.2 _ ό;have ϊ:=M3 (zb E$ by decide) b e;have st:=λρ=>nt (ρ:=ρ) (σ:=a++[Ϗ F]) (d:=Ϛ) (n:=a.length) (w:=w) (kvs:=F) ⋯ ⋯;rw[JD]at st;obtain⟨g1,P,Q,R⟩:=T7 h (.inl w);refine⟨_,_,_,rfl,?_,SY$ Z w,SY$ ύ ls,Ji F (.inl w) Ϛ,rfl,rfl,by lia,P,λk p E b=>?_⟩
  ·generalize Om B=L at *;simp[ϊ,st,sA]
  ·by_cases M:k=i
   ·subst M;rw[t]at b;cases b;exact R
   ·obtain⟨z,g,m⟩:=o k p ⋯ b;obtain⟨y,X,N⟩:=Q z g;exact⟨y,X,N.trans m⟩) ⟨_,_,_,rfl,rfl,by simp,by simp,by simp⟩
 obtain⟨s,sm⟩:=xY I J j e (a++[Ϗ F]) (F:=Y a.length) (λp V w W=>by
  obtain⟨i,q⟩:=Pq.mp V;obtain⟨z,g,m⟩:=o i p (aa.mp q).1 q;have:Wk F (.inl w)=SY Ϛ:=by
   unfold Wk;cases H:F.find? (λϋ=>decide$ ϋ.1=.inl w)with
   |none=>exact absurd (List.find?_eq_none.mp H z g) (by simp[m,W])
   |some y=>rw[jf,h y$ Do H]
  unfold gk Of;simp[Jk,this])
 have C:xf (F.map (·.2))=U2:=Jn λd T=>by obtain⟨z,g,rfl⟩:=Xa.mp T;rw[h z g];rfl
 have fz:=SQ (σ:=a) (A:=F) (xs:=[Z s,c]) (by simp[G]) C;refine⟨ϒ [Z s,c,Om F],⟨by simp[Om,Lake.cl,C,G],s,_,rfl⟩,?_⟩;simp at fz;unfold Tf ET Lc;dsimp only;generalize Om B=L,Om F=FD at *;simp[lo,lp,sm,fz,-Az]
def mS(h:Tt ps) e K a:∃ w:Int,zi [fk e K$ ps.map ff] a=U (Z w) a:=by
 obtain⟨b,G,g,M⟩:=o9 h e K a;have F:=h.n;obtain⟨cs,f,B,C,m⟩:=v9 (RR:=b) ⋯ g a;have o:∀ a,Cc [9,10] "every" (fk e K$ ps.map ff) a=U _ a:=λa=>Ph (Wp rfl) rfl rfl;obtain⟨v,J,l,H⟩:=GG (xs:=cs) (src:=kg$ Bf 1 Sf []$ Fa (ka 1) ib) (ix:=[1,0]) (fe:=Bf 3 Tf []$ Fa (Bf 2 Ge []$ Fa (ka 2)$ Fa (ka 0) ib)$ Fa (ka 0)$ Fa (be (Cc [9,10] "every")$ ka 3) ib) (ρ:=[SY$ fk e K$ ps.map ff,SY$ ύ$ b.map ύ,ń]) (σ:=a) (Q:=Pp) (by
  generalize b.map ύ=R at *;simp[m]) ⋯ (λc k j=>by
  obtain⟨N,L,z,A⟩:=ļ ⋯ g (f c k) (a++j);obtain⟨d,q,u⟩:=Ü ⋯ z (f c k).cl e (a++j);refine⟨d,q,?_⟩;generalize b.map ύ=R,fk e K (ps.map ff)=V at *;simp[A,u,o]) λD h=>h.1
 obtain⟨y,t,I⟩:=eV (fe:=Sa Cb (ka 0)$ eC$ Z 0) (rest:=[]) (σ:=a) (xs:=v) ⋯ (λx s=>by
  obtain⟨_,i,r,rfl⟩:=l x s;exact⟨i,by simp⟩)
 obtain⟨E,i,r,p⟩:=l y t;have pa:Hj [fk e K$ ps.map ff] a=U y a:=by
  unfold Hj CS
  simp_all
 subst p;refine⟨i,?_⟩;unfold zi Lc;simp[pa]
def bj{a j:Ga}{k:Nat}(h:a[k]?=SY o):(a++j)[k]?=SY o:=by
 rw[Ya (aa.mp h).1,h]
set_option genInjectivity false in
structure Ac where
 (p q:Int)
 c:Nat
 m:Sn
 G:D
 y:List Sn
 L:i'
def Ac.fs(a:Ac):List$ Str × D:=[("pot",Z a.p),("side",Z a.q),("mine",a.m.D),("grant",a.G),("may",ύ (a.y.map Sn.D)),("strikes",ύ a.L)]
def Bi(b:Ga)(n:Nat)(a:Ac):Prop:=b[n]?=SY (ϔ a.c a.fs)
def Bi.app(h:Bi b n a) j:Bi (b++j) n a:=bj h
def IT(h:[5,6,7,8].contains c=U2):[5,6,7,8,13,14].contains c=U2:=by
 simp at h ⊢;omega
structure Ac.Ok(a:Ac):Prop where
 p:0<=a.p/\a.p<=2
 q:a.q=0\/a.q=1
 c:[5,6,7,8].contains a.c=U2
 g:cl a.G=U2
 l:xf a.L=U2
section
variable{σ:Ga}{n:Nat}{a:Ac}(h:Bi σ n a)(o:a.Ok)
include h
theorem Tp:di σ (Y n)=SY (a.c,a.fs):=by
 have h:σ[n]?=SY _:=h;unfold di;simp[h]
include o
theorem aD:Cc [5,6,7,8] "pot" (Y n) σ=U (Z a.p) σ:=Ph (Tp h) o.c rfl
theorem Eu:Cc [5,6,7,8,13,14] "side" (Y n) σ=U (Z a.q) σ:=Ph (Tp h) (IT o.c) rfl
theorem vB:Cc [5,6,7,8] "mine" (Y n) σ=U a.m.D σ:=Ph (Tp h) o.c rfl
theorem XP:Cc [5,6,7,8] "grant" (Y n) σ=U a.G σ:=Ph (Tp h) o.c rfl
theorem mE:Cc [5,6,7,8] "may" (Y n) σ=U (ύ$ a.y.map Sn.D) σ:=Ph (Tp h) o.c rfl
theorem TJ:Cc [5,6,7,8] "strikes" (Y n) σ=U (ύ a.L) σ:=Ph (Tp h) o.c rfl
end
theorem B4 c i a b d e f g h:Jl c 7 i [a,b,d,e,f,g] h=Fx h.length (i [Y h.length,a,b,d,e,f,g]$ h++[ϔ c []]):=UD rfl
def ND{a:Ac}(h:a.Ok) b:Jl a.c 7 Np [Z a.p,Z a.q,a.m.D,a.G,ύ$ a.y.map Sn.D,ύ a.L] b=U (Y b.length) (b++[ϔ a.c a.fs]):=by
 have r:=qD a.y;have t:=h.l;have o:=h.c;unfold Ac.fs;generalize a.p=j,a.q=k,a.c=c,a.m.D=m,a.G=g,a.L=z,a.y.map Sn.D=y at *;have u:∀ p:D,Ih "pot" p []=([("pot",p)]:List (Str × D)):=λC=>rfl;have w:∀ p s:D,Ih "side" s [("pot",p)]=([("pot",p),_]:List (Str × D)):=λC C=>rfl;have x:∀ p s:D,Ih "mine" m [("pot",p),("side",s)]=([("pot",p),("side",s),("mine",m)]:List (Str × D)):=λC C=>rfl;have A:∀ p s:D,Ih "grant" g [("pot",p),("side",s),("mine",m)]=([("pot",p),("side",s),("mine",m),("grant",g)]:List (Str × D)):=λC C=>rfl;have p4:∀ p s:D,Ih "may" (ύ y) [("pot",p),("side",s),("mine",m),("grant",g)]=([("pot",p),("side",s),("mine",m),("grant",g),("may",ύ y)]:List (Str × D)):=λC C=>rfl;have B:∀ p s:D,Ih "strikes" (ύ z) [("pot",p),("side",s),("mine",m),("grant",g),("may",ύ y)]=([("pot",p),("side",s),("mine",m),("grant",g),("may",ύ y),("strikes",ύ z)]:List (Str × D)):=λC C=>rfl;have i:Np [Y b.length,Z j,Z k,m,g,ύ y,ύ z] (b++[ϔ c []])=U Ϛ (b++[ϔ c [("pot",Z j),("side",Z k),("mine",m),("grant",g),("may",ύ y),("strikes",ύ z)]]):=by
  unfold Np Ff;simp[(λf v (e:List (Str × D)) (n:e.length<1000)=>SB (ρ:=[SY$ Y b.length,SY$ Z j,SY$ Z k,SY m,SY g,SY$ ύ y,SY$ ύ z]) (σ:=b) (cs:=[5,6,7,8]) (f:=f) (d:=v) (c:=c) (fs:=e) o n),(λf v (e:List (Str × D)) (n:e.length<1000)=>SB (ρ:=[SY$ Y b.length,SY$ Z j,SY$ Z k,SY m,SY g,SY$ ύ y,SY$ ύ z]) (σ:=b) (cs:=[5,6,7,8,13,14]) (f:=f) (d:=v) (c:=c) (fs:=e) (IT o) n),u,w,x,A,p4,B,(wB r),(wB t)]
 rw[B4,i,yz]
noncomputable def Lb(p q:Int)(m:Sn)(G:D)(L:i'):Ac:=⟨p,q,6,m,G,[m],L⟩
noncomputable def xg(p q:Int)(m o:Sn)(G:D)(L:i'):Ac:=⟨p,q,7,m,G,[m,o],L⟩
noncomputable def wait(p q:Int)(o m:Sn)(G:D)(L:i'):Ac:=⟨p,q,8,m,G,[o,m],L⟩
noncomputable def ag(p s:Int)(X:D):D:=ϒ [ϐ "agree",Z p,Z s,X]
noncomputable def Si(p s n:Int):D:=ϒ [ϐ "strike",Z p,Z s,Z n]
def En(p s:Int)(X:Sn):D:=ϒ [ϐ "offer",Z p,ag p s X.D]
noncomputable def Cm(p s n:Int):D:=ϒ [ϐ "struck",Z p,Si p s n]
def Wm(p:Int)(m s:Sn):D:=ϒ [ϐ "accept",Z p,ag p 1 s.D,Si p 1 m.n]
def Sk(p:Int)(s:Sn):D:=ϒ [ϐ "ask",Z p,ϒ [Z s.a,Z s.b],ϒ$ s.ts.map Ti.D]
def jD{xs}(h:∀ x∈xs,pl n x=U2):pl (n+1) (ϒ xs)=U2:=Jb.mpr h
def xZ n(t:Ti):pl (n+1) t.D=U2:=by simp[pla,plb,plc,pld,ple,Ti.D]
def N1 n(b:List Ti):pl (n+2) (ϒ$ b.map Ti.D)=U2:=jD λx a=>by obtain⟨t,_,rfl⟩:=Xa.mp a;exact xZ n t
def VI n(s:Sn):pl (n+3) s.D=U2:=jD λx c=>by
 have c:x=Z s.n\/x=ϒ [Z s.a,Z s.b]\/x=ϒ (s.ts.map Ti.D):=by simpa using c
 rcases c with rfl|rfl|rfl
 ·simp[pla,plb,plc,pld,ple]
 ·simp[pla,plb,plc,pld,ple]
 ·exact N1 n s.ts
def zF n p q(s:Sn):pl (n+4) (ag p q s.D)=U2:=jD λx a=>by
 have a:x=ϐ "agree"\/x=Z p\/x=Z q\/x=s.D:=by simpa using a
 rcases a with rfl|rfl|rfl|rfl
 ·simp[pla,plb,plc,pld,ple]
 ·simp[pla,plb,plc,pld,ple]
 ·simp[pla,plb,plc,pld,ple]
 ·exact VI n s
def oR p q s:pl 8 (En p q s)=U2:=jD λx a=>by
 have a:x=ϐ "offer"\/x=Z p\/x=ag p q s.D:=by simpa using a
 rcases a with rfl|rfl|rfl
 ·simp[pla,plb,plc,pld,ple]
 ·simp[pla,plb,plc,pld,ple]
 ·exact zF 3 p q s
def y6 p m s:pl 8 (Wm p m s)=U2:=jD λx a=>by
 have a:x=ϐ "accept"\/x=Z p\/x=ag p 1 s.D\/x=Si p 1 m.n:=by simpa using a
 rcases a with rfl|rfl|rfl|rfl
 ·simp[pla,plb,plc,pld,ple]
 ·simp[pla,plb,plc,pld,ple]
 ·exact zF 3 p 1 s
 ·simp[pla,plb,plc,pld,ple,Si]
def kS p q n:pl 8 (Cm p q n)=U2:=by simp[pla,plb,plc,pld,ple,Cm,Si]
def pz{X}(h:cl X=U2):cl (ag p s X)=U2:=by unfold ag;simp[h]
section
variable{p:Int}(hp:0<=p/\p<=2)(σ:Ga)
include hp
theorem EH{q}(a:q=0\/q=1) k X:ki [ϒ [k,Z p,Z q,X]] σ=U (ϓ U2) σ:=by
 unfold ki Lc;simp[(NK a σ),(YP hp σ)]
theorem yU{q}(c:q=0\/q=1){s:Sn}(h:Vo s.n s.a s.b s.ts):Am [ag p q s.D] σ=U (ϓ U2) σ:=by
 have t:Oe [ag p q s.D] σ=U (ϓ U2) σ:=by
  unfold Sn.D ag Oe Lc;simp[(eE h σ),(λX=>EH hp σ c (ϐ "agree") X)]
 have i:Cb (ag p q s.D) (Z 0) σ=U (ϐ "agree") σ:=by unfold ag;simp
 unfold Am Lc
 simp_all
theorem lT{q n}(a:q=0\/q=1)(h:0<=n/\n<=1000000):Ik [Si p q n] σ=U (ϓ U2) σ:=by
 have t:Oe [Si p q n] σ=U (ϓ U2) σ:=by
  unfold Si Oe Lc;simp[(yO h σ),(λX=>EH hp σ a (ϐ "strike") X)]
 have i:Cb (Si p q n) (Z 0) σ=U (ϐ "strike") σ:=by unfold Si;simp
 unfold Ik Lc
 simp_all
theorem UH{k}{x}{r}(c:r.length<=3)(h:ve [ϒ$ ϐ k::Z p::x::r] σ=U (ϓ U2) σ):Xc [ϒ$ ϐ k::Z p::x::r] σ=U (ϓ U2) σ:=by
 have a:Dn [ϒ$ ϐ k::Z p::x::r] σ=U (Z$ r.length+3) σ:=by
  have:=tM (σ:=σ)$ ϐ k::Z p::x::r;rw[this];congr 2
 have b:decide ((r.length:Int)+3<3)=ŝ:=re ⋯;unfold Xc Lc;simp[h,(YP hp σ),a,b]
theorem kK{q}(c:q=0\/q=1){s}(h:Vo s.n s.a s.b s.ts):Xc [En p q s] σ=U (ϓ U2) σ:=by
 refine UH hp σ ⋯ ?_;unfold ve Lc;simp[(yU hp σ c h)]
theorem GH{m s}(h:Vo s.n s.a s.b s.ts)(c:0<=m.n/\m.n<=1000000):Xc [Wm p m s] σ=U (ϓ U2) σ:=by
 refine UH hp σ ⋯ ?_;unfold ve Lc;simp[(yU hp σ _ h),(lT hp σ _ c)]
theorem cH{q}(a:q=0\/q=1){n}(h:0<=n/\n<=1000000):Xc [Cm p q n] σ=U (ϓ U2) σ:=by
 refine UH hp σ ⋯ ?_;unfold ve Lc;simp[(lT hp σ a h)]
theorem E3{s}(h:Vo s.n s.a s.b s.ts):Xc [Sk p s] σ=U (ϓ U2) σ:=by
 have a:=eE (n:=0) ⟨by lia,h.a,h.b,h.t,h.l,h.d⟩ σ;unfold Pj at a;refine UH hp σ ⋯ ?_;unfold ve Lc;simp[a]
end
def w6{s m:Sn}(h:s.Ok W)(f:m.Ok W)(i:s.n=m.n+1) c:ii [s.D,m.D] c=U (ϓ U2) c:=by
 have d:=yK h.st c;have e:=xH m.n m.a m.b (by have:=f.st.l;omega) c;rw[h.w]at d;rw[f.w]at e;have j:=s0 s c;have k:=s0 m c;have g:(s.n == m.n+1)=U2:=by simp[i]
 unfold ii Lc;unfold Sn.D at *;simp[d,e,j,k,g]
section
variable{σ:Ga}{n:Nat}{a:Ac}(h:Bi σ n a)(o:a.Ok)
include h o
theorem YY s{X}(b:cl X=U2):Qk [Y n,Z s,X] σ=U (ag a.p s X) σ:=by
 unfold Qk ag Pf;simp[(aD h o),b]
theorem kQ s(m:Sn):Qj [Y n,Z s,m.D] σ=U (Si a.p s m.n) σ:=by
 unfold Qj Si Pf;simp[(aD h o),(s0 m)]
end
theorem BG{f:D->D->Option Bool}:∀ {xs d:i'},(∀ x∈xs,∀ y∈d,∃ b,f x y=SY b)->∃ b,yi f xs d=SY b
 |[],[],_=>⟨_,rfl⟩
 |[],_::_,_=>⟨_,rfl⟩
 |_::_,[],_=>⟨_,rfl⟩
 |x::xs,y::d,h=>by
  obtain⟨b,i⟩:=h x va y va;obtain⟨c,j⟩:=BG λa e b g=>h a (ja _ e) b$ ja _ g;unfold yi
  simp_all
def GO i:∀ n x y,pl n x=U2->pl n y=U2->∃ b,Og i n x y=SY b:=by
 intro n;induction n with
 |zero=>intro x y d c;cases x<;>first|(cases d;done)|(cases y<;>first|exact⟨_,rfl⟩|(cases c;done))
 |succ n g=>
  intro x y d c;cases x with
  |nb xs=>
   cases y with
   |nb h=>
    simp[pla,plb,plc,pld,ple,Jb]at d c;exact BG λa e b f=>g a b (d a e)$ c b f
   |_=>first|exact⟨_,rfl⟩|(cases c;done)
  |ia xs=>
   cases y with
   |ia h=>
    simp only[pla,plb,plc,pld,ple,Jb]at d c;exact BG λa e b f=>g a b (d a e)$ c b f
   |_=>first|exact⟨_,rfl⟩|(cases c;done)
  |_=>first|(cases d;done)|(cases y<;>first|exact⟨_,rfl⟩|(cases c;done))
theorem V2(h:(k == c)=ŝ)(d:pl 8 (ϒ$ ϐ k::r)=U2)(e:pl 8 (ϒ$ ϐ c::f)=U2) a:ah (ϒ$ ϐ k::r) (ϒ$ ϐ c::f) a=U (ϓ U2) a:=by
 simp only[pla,plb,plc,pld,ple,Je,Da,Jb]at d e;obtain⟨b,g⟩:=BG λx i y j=>GO a 7 x y (d.2 x i)$ e.2 y j;refine wu (b:=ŝ) ?_;show yi _ _ _=_;unfold yi;rw[g,show Og a 7 _ _=SY ŝ by simp[eqa,eqb,eqc,eqd,h]];rfl
theorem PJ k a b:ah (ϐ k) (ϐ a) b=U (ϓ$ !(k == a)) b:=wu (by rfl)
def nD a b c:ah (Z a) (Z b) c=U (ϓ$ decide$ a≠b) c:=by
 by_cases h:a=b<;>simp[h]
def Mw(h:Bi b n a)(o:a.Ok):Cc [5,6,7,8,13,14] "side" (Y n) b=U (Z a.q) b/\Cc [5,6,7,8] "pot" (Y n) b=U (Z a.p) b/\Cc [5,6,7,8] "mine" (Y n) b=U a.m.D b/\Cc [5,6,7,8] "grant" (Y n) b=U a.G b/\Cc [5,6,7,8] "may" (Y n) b=U (ύ$ a.y.map Sn.D) b/\Cc [5,6,7,8] "strikes" (Y n) b=U (ύ a.L) b/\(∀ s (x:Sn),Qk [Y n,Z s,x.D] b=U (ag a.p s x.D) b)/\(∀ s (x:Sn),Qj [Y n,Z s,x.D] b=U (Si a.p s x.n) b)/\(∀ d,Pk [(a.c,Qk)] 3 "agree_of" d (Y n) b=(d b).bind (Ai 3 Qk$ Y n))/\∀ d,Pk [(a.c,Qj)] 3 "strike_of" d (Y n) b=(d b).bind (Ai 3 Qj$ Y n):=
 ⟨Eu h o,aD h o,vB h o,XP h o,mE h o,TJ h o,λs x=>YY h o s$ cr x,λs x=>kQ h o s x,λe=>Xp (Tp h) (by simp[bq]) rfl,λe=>Xp (Tp h) (by simp[bq]) rfl⟩
def ku(c:0<=p/\p<=2)(d:q=0\/q=1)(a:cl G=U2)(b:xf L=U2):(Lb p q m G L).Ok:=⟨c,d,rfl,a,b⟩
def YH(c:0<=p/\p<=2)(d:q=0\/q=1)(a:cl G=U2)(b:xf L=U2):(xg p q m o G L).Ok:=⟨c,d,rfl,a,b⟩
def hH(c:0<=p/\p<=2)(d:q=0\/q=1)(a:cl G=U2)(b:xf L=U2):(wait p q m o G L).Ok:=⟨c,d,rfl,a,b⟩
section
variable{σ:Ga}{n:Nat}{p:Int}(hp:0<=p/\p<=2){m s:Sn}{W:Int}(hm:m.Ok W)(hs:s.Ok W)(hn:s.n=m.n+1){G:D}{L:i'}(hg:cl G=U2)(hl:xf L=U2)(hLk:L.length<=100)
include hp hg hl
theorem bZ(h:Bi σ n$ Lb p 0 m G L) X:Iu [Y n,X] σ=U (ϒ [Y n,Ϛ]) σ:=by
 have a:Cc [5,6,7,8,13,14] "side" (Y n) σ=U (Z 0) σ:=Eu h$ ku hp (ϑ rfl) hg hl;unfold Iu Ff;simp[a]
theorem F3(h:Bi σ n$ Lb p 1 m G L){X}{k}(e:Xc [X] σ=U (ϓ U2) σ)(d:Cb X (Z 0) σ=U (ϐ k) σ)(a:(k == ("offer" : Str))=ŝ):Iu [Y n,X] σ=U (ϒ [Y n,Ϛ]) σ:=by
 have c:Cc [5,6,7,8,13,14] "side" (Y n) σ=U (Z 1) σ:=Eu h$ ku hp (ϕ rfl) hg hl;have b:=PJ k "offer" σ;rw[a]at b;unfold Iu Ff
 simp_all
theorem n5(h:Bi σ n$ xg p 0 m s G L){X}(b:Xc [X] σ=U (ϓ U2) σ)(a:ah X (Wm p m s) σ=U (ϓ U2) σ):Nw [Y n,X] σ=U (ϒ [Y n,Ϛ]) σ:=by
 have F:=Mw h$ YH hp (ϑ rfl) hg hl;dsimp only[xg]at F;unfold Wm at a;unfold Nw Ff
 simp_all
theorem BQ(h:Bi σ n$ wait p 1 m s G L){X}(b:Xc [X] σ=U (ϓ U2) σ)(a:ah X (Cm p 0 m.n) σ=U (ϓ U2) σ):px [Y n,X] σ=U (ϒ [Y n,Ϛ]) σ:=by
 have F:=Mw h$ hH hp (ϕ rfl) hg hl;dsimp only[wait]at F;unfold Cm at a;unfold px Ff
 simp_all
include hm hs hn
theorem zd9(h:Bi a n$ Lb p 1 m G L):Iu [Y n,En p 0 s] a=U (ϒ [Y a.length,Wm p m s]) (a++[ϔ 8 (wait p 1 m s (ag p 0 s.D) L).fs]):=by
 have o:=ku (m:=m) hp (ϕ rfl) hg hl;have c:=h.app [ϔ 8 (wait p 1 m s (ag p 0 s.D) L).fs];have mk:Jl 8 7 Np [Z p,Z 1,s.D,ag p 0 s.D,ύ [m.D,s.D],ύ L] a=U _ (a++[ϔ 8 (wait p 1 m s _ L).fs]):=ND (hH (p:=p) (q:=1) (m:=m) (o:=s) hp (ϕ rfl) (pz (p:=p) (s:=0)$ cr s) hl) a;generalize a++[ϔ 8 (wait p 1 m s _ L).fs]=j at *;have d:∀ a,Cb (En p 0 s) (Z 0) a=U (ϐ "offer") a:=λa=>by unfold En;simp
 have e:∀ a,Cb (En p 0 s) (Z 2) a=U (ag p 0 s.D) a:=λa=>by unfold En;simp
 have f:∀ a,Cb (ag p 0 s.D) (Z 3) a=U s.D a:=λa=>by unfold ag;simp
 have i:ah (ϐ "offer") (ϐ "offer") a=U (ϓ ŝ) a:=sv (by simp[pla,plb,plc,pld,ple]);have g:ah (En p 0 s) (ϒ [ϐ "offer",Z p,ag p 0 s.D]) a=U (ϓ ŝ) a:=sv$ oR p 0 s;have F:=Mw h o;have b:=Mw c o;dsimp only[Lb]at F b;unfold Wm;unfold Iu Ff;simp[(kK hp a (ϑ rfl) hs.st),d,e,f,g,i,(w6 hs hm hn a),mk,F,b]
theorem Ű(h:Bi c n$ Lb p 0 m G L):Se [Y n,ϒ [Z s.a,Z s.b],ϒ$ s.ts.map Ti.D] c=U (ϒ [Y c.length,En p 0 s]) (c++[ϔ 7 (xg p 0 m s G L).fs]):=by
 have o:=ku (q:=0) (m:=m) hp (ϑ rfl) hg hl;have f:=h.app [ϔ 7 (xg p 0 m s G L).fs];have mk:Jl 7 7 Np [Z p,Z 0,m.D,G,ύ [m.D,s.D],ύ L] c=U _ (c++[ϔ 7 (xg p 0 m s G L).fs]):=ND (YH (p:=p) (q:=0) (m:=m) (o:=s) hp (ϑ rfl) hg hl) c;generalize c++[ϔ 7 (xg p 0 m s G L).fs]=g at *;have j:Zl [m.D] c=U (Z W) c:=by rw[<-hm.w];exact xH _ _ _ (by have:=hm.st.l;omega) c
 have u:Ze [s.D,Z W] c=U (ϓ U2) c:=by rw[<-hs.w];exact yK hs.st c
 have sd:ϒ [Z$ m.n+1,ϒ [Z s.a,Z s.b],ϒ$ s.ts.map Ti.D]=s.D:=by rw[<-hn];rfl
 have t:ah _ (ϐ "calm") c=U _ c:=sv (by simp[pla,plb,plc,pld,ple]);have i:∀ x c,cy [x] c=U (ϐ "calm") c:=λx c=>by unfold cy Pf;simp
 have r:∀ d,Pk [(6,cy),(7,tz),(8,rE)] 1 "word" d (Y n) c=(d c).bind (Ai 1 cy$ Y n):=λd=>Xp (Tp h) rfl rfl;have k:∀ d,Pk [(5,Qk),(6,Qk),(7,Qk),(8,Qk)] 3 "agree_of" d (Y n) g=(d g).bind (Ai 3 Qk$ Y n):=λd=>Xp (Tp f) rfl rfl;have F:=Mw h o;have e:=Mw f o;dsimp only[Lb]at F e;unfold En;unfold Se IJ;simp[(s0 m),j,u,sd,t,i,r,k,mk,F,e]
omit hn
include hLk
theorem G8(h:Bi σ n$ xg p 0 m s G L):Nw [Y n,Wm p m s] σ=U (ϒ [Y σ.length,Cm p 0 m.n]) (σ++[ϔ 6 (Lb p 0 s (ag p 1 s.D)$ L++[Z m.n]).fs]):=by
 have o:=YH (m:=m) (o:=s) hp (ϑ rfl) hg hl;have a:xf (L++[Z m.n])=U2:=by rw[YT,hl];rfl
 have d:=h.app [ϔ 6 (Lb p 0 s (ag p 1 s.D)$ L++[Z m.n]).fs];have mk:Jl 6 7 Np [Z p,Z 0,s.D,ag p 1 s.D,ύ [s.D],ύ$ L++[Z m.n]] σ=U (Y σ.length) (σ++[ϔ 6 (Lb p 0 s (ag p 1 s.D)$ L++[Z m.n]).fs]):=ND (ku (p:=p) (q:=0) (m:=s) hp (ϑ rfl) (pz (p:=p) (s:=1)$ cr s) a) σ;generalize σ++[ϔ 6 (Lb p 0 s (ag p 1 s.D)$ L++[Z m.n]).fs]=f at *;have e:ah (Wm p m s) (ϒ [ϐ "accept",Z p,ag p 1 s.D,Si p 1 m.n]) σ=U (ϓ ŝ) σ:=sv$ y6 p m s;have c:lh (ύ L) (ύ [Z m.n]) σ=U (ύ$ L++[Z m.n]) σ:=Jz (by unfold Uf;simp;lia);have F:=Mw h o;have b:=Mw d o;dsimp only[xg]at F b;unfold Cm;unfold Nw Ff;simp[(GH hp σ (m:=m) hs.st hm.st.n),(s0 m),e,c,mk,F,b]
theorem j9(h:Bi σ n$ wait p 1 m s G L):px [Y n,Cm p 0 m.n] σ=U (ϒ [Y σ.length,Ϛ]) (σ++[ϔ 6 (Lb p 1 s G$ L++[Z m.n]).fs]):=by
 have a:xf (L++[Z m.n])=U2:=by rw[YT,hl];rfl
 have mk:Jl 6 7 Np [Z p,Z 1,s.D,G,ύ [s.D],ύ$ L++[Z m.n]] σ=U _ (σ++[ϔ 6 (Lb p 1 s G _).fs]):=ND (ku (q:=1) (m:=s) hp (ϕ rfl) hg a) σ;have c:ah (Cm p 0 m.n) (ϒ [ϐ "struck",Z p,Si p 0 m.n]) σ=U (ϓ ŝ) σ:=sv$ kS ..;have b:lh (ύ L) (ύ [Z m.n]) σ=U (ύ$ L++[Z m.n]) σ:=Jz (by unfold Uf;simp;lia);have F:=Mw h$ hH (m:=m) (o:=s) hp (ϕ rfl) hg hl;dsimp only[wait]at F;unfold px Ff;simp[(cH hp σ (q:=0) (ϑ rfl) hm.st.n),(s0 m),c,b,mk,F]
end
def oY(h:Bi a n$ xg p 0 m s G L)(o:(xg p 0 m s G L).Ok) X ϋ:Se [Y n,X,ϋ] a=.ex ⟨2⟩ a:=by
 have e:Cc [5,6,7,8,13,14] "side" (Y n) a=U (Z 0) a:=Eu h o;have c:=PJ "offered" "calm" a;rw[show (("offered" : Str) == "calm")=ŝ by decide]at c;have d:∀ x a,tz [x] a=U (ϐ "offered") a:=λx a=>by unfold tz Pf;simp
 have f:∀ b,Pk [(6,cy),(7,tz),(8,rE)] 1 "word" b _ a=(b a).bind _:=λb=>Xp (Tp h) rfl rfl;unfold Se IJ
 simp_all
abbrev Ka:=Nat × Ac
noncomputable def wm(b:Nat)(e:Int):List$ Str × D:=[("hand",Z 1),("every",Z e),("last_look",Z 0),("gave",Z 0),("known",Y (b+1)),("accounts",Y (b+2)),("claims",Y (b+3)),("seen",Y (b+4)),("asked",Y (b+5)),("finishing",Y (b+6))]
noncomputable def yj(K:em):Kv:=K.map λw=>(.inl w,ϓ U2)
noncomputable def AV(a:List Ka):Kv:=a.map λx=>(.inl x.2.p,Y x.1)
noncomputable def CV(a:List Ka):Kv:=a.map λx=>(.inl x.2.p,.gt ["held"])
noncomputable def SV(a:List Ka):Kv:=a.map λx=>(.inl x.2.p,Ϭ [] [])
def As(a:List Ka)(b:Ga):Prop:=∀ x∈a,Bi b x.1 x.2/\x.2.Ok
structure Vs(b:Nat)(e:Int)(K:em)(as:List Ka)(σ:Ga):Prop where
 h0:σ[b]?=SY (ϔ 10 (wm b e))
 h1:σ[b+1]?=SY (Ϗ (yj K))
 h3:σ[b+3]?=SY (Ϗ (CV as))
 h4:σ[b+4]?=SY (Ϗ (SV as))
def Vs.app{K}(h:Vs b e K a c) j:Vs b e K a$ c++j:=⟨bj h.h0,bj h.h1,bj h.h3,bj h.h4⟩
def ue{a:Ga}(n:r≠k)(h:a[k]?=SY o):(a.set r x)[k]?=SY o:=by
 rw[Za n,h]
def Vs.set{K}(h:Vs b e K a c)(d:r=b+2\/b+4<r) x:Vs b e K a$ c.set r x:=⟨ue ⋯ h.h0,ue ⋯ h.h1,ue ⋯ h.h3,ue ⋯ h.h4⟩
def As.app(h:As a c) j:As a$ c++j:=λx b=>⟨(h x b).1.app j,(h x b).2⟩
def As.set(h:As c b)(d:b[r]?=SY (Ϗ f)) o:As c$ b.set r o:=λx a=>⟨ue (λe=>by
 have:=(h x a).1;unfold Bi at this;rw[<-e,d]at this;cases this) (h x a).1,(h x a).2⟩
def aF(h:a[n]?=SY (Ϗ b))(c:Wk b (.inl w)=SY d):gk (Y n) (Z w) a=U d a:=by
 unfold gk Of;simp[Jk,h];simp[c]
theorem pO(c:D):∀ {b:List Ka} {p:Int},(∃ x∈b,x.2.p=p)->Wk (b.map λx=>((.inl x.2.p:Vc),c)) (.inl p)=SY c
 |[],p,h=>by obtain⟨x,a,_⟩:=h;cases a
 |y::b,p,h=>by
  by_cases e:y.2.p=p
  ·simp[Wk,e]
  ·have:=pO c (p:=p) (by
    obtain⟨x,a,ex⟩:=h;rcases Ba.mp a with rfl|a
    ·exact absurd ex e
    ·exact⟨x,a,ex⟩)
   unfold Wk at this ⊢
   simp_all
section
variable{b:Nat}{e:Int}{K:em}{as:List Ka}{σ:Ga}(h:Vs b e K as σ)
include h
theorem yw:di σ (Y b)=SY (10,wm b e):=by unfold di;simp[h.h0]
theorem X6:Cc [9,10] "every" (Y b) σ=U (Z e) σ:=Ph (yw h) rfl rfl
theorem ŋ:Cc [9,10] "last_look" (Y b) σ=U (Z 0) σ:=Ph (yw h) rfl rfl
theorem J7:Cc [9,10] "known" (Y b) σ=U (Y$ b+1) σ:=Ph (yw h) rfl rfl
theorem gw:Cc [10] "accounts" (Y b) σ=U (Y$ b+2) σ:=Ph (yw h) rfl rfl
theorem XR:Cc [10,15] "claims" (Y b) σ=U (Y$ b+3) σ:=Ph (yw h) rfl rfl
theorem WY:Cc [10] "seen" (Y b) σ=U (Y$ b+4) σ:=Ph (yw h) rfl rfl
theorem Ø:Cc [10] "asked" (Y b) σ=U (Y$ b+5) σ:=Ph (yw h) rfl rfl
theorem Ρ:Cc [10] "finishing" (Y b) σ=U (Y$ b+6) σ:=Ph (yw h) rfl rfl
theorem Zo m n a(d:((wm b e).lookup m=ń)⁻¹) c:Pk [(10,a)] n m c (Y b) σ=(c σ).bind (Ai n a$ Y b):=Xp (yw h) rfl d
theorem QW{p}(a:∃ x∈as,x.2.p=p):gk (Y$ b+3) (Z p) σ=U (.gt ["held"]) σ:=aF h.h3$ pO _ a
theorem œ{p}(a:∃ x∈as,x.2.p=p):gk (Y$ b+4) (Z p) σ=U (Ϭ [] []) σ:=aF h.h4$ pO _ a
end
theorem cK:∀ K:em,Cv (yj K)=SY K
 |[]=>rfl
 |w::K=>by
  have a:=cK K;unfold yj at a ⊢;unfold Cv;simp[a]
abbrev ks(K:em):em:=pp K
def FY{K}(h:Vs b e K c a)(g:K.length<=60):jt [Y b] a=U (ύ$ (ks K).map Z) a:=by
 have o:Ws [Y$ b+1] a=U (Y a.length) (a++[ώ$ (ks K).map Z]):=by
  have l:wf a (Y$ b+1)=ń:=by unfold wf Ce;simp[h.h1]
  have d:Of a (Y$ b+1)=SY (yj K):=by unfold Of;simp[h.h1]
  unfold Ws;simp only[l];unfold nB;simp only[d,cK];rw[na ⋯];rfl
 have f:lg a (Ws [Y$ b+1] a)=U (ύ$ (ks K).map Z) a:=by rw[o];exact Ax$ NG _
 unfold jt Pf;simp[(J7 h),f]
def yae(h:Bi b n a)(c:a.Ok):ze [Y n,.gt ["held"]] b=U (ύ$ a.y.map Sn.D) b:=by
 have m:=mE h c;have e:∀ b,Cb (.gt ["held"]) (Z 0) b=U (ϐ "held") b:=λb=>nr rfl;have d:=qD a.y;unfold ze Lc;simp[e,m,d]
def cM{xs}(h:Ce a n=SY xs) j:Ce (a++j) n=SY xs:=by
 unfold Ce;rw[bj$ vH h]
theorem KJ(j:f ρ σ=U (Y n) σ)(g:σ[n]?=SY (Ϗ A))(i:src ρ σ=U nx c)(k:Vp nx e a 1001 0 ρ c=U (Ϙ d) b)(h:b[n]?=SY (ϥ A')):Av f (Up src e a) ρ σ=U (Ϙ d) (b.set n$ Ϗ A'):=by
 show ZH fL _ _ σ=_;unfold ZH;rw[j];dsimp only;rw[g];rw[Az,i,qm];show eF fL _ (Vp nx e a 1001 0 ρ c)=_;rw[k];unfold eF;simp[h];rfl
def MS(b:f ρ a=U (Y n) a)(g:a[n]?=SY (Ϗ A)):Rx f ρ a=U (xr A) (a.set n$ ϥ A):=by
 show Ic _ LH a=_;rw[Ii,b,zd];unfold LH;simp[g]
def YR{a:Ga}(h:a[r]?=SY o):a.set r o=a:=by
 obtain⟨b,c⟩:=aa.mp h;rw[<-c];exact Qq b
theorem oQ c g a b d e f:Jl c 5 g [a,b,d,e] f=Fx f.length (g [Y f.length,a,b,d,e]$ f++[ϔ c []]):=UD rfl
def Ŵ g(K:em) e{ps:List Pv}(B:ps.length<=3)(m:Ce g n=SY (ps.map ff)):gB [Y g.length,Z e,Z 0,ύ$ K.map Z,Y n] (g++[ϔ 9 []])=U Ϛ (g++[ϔ 9 [("every",Z e),("last_look",Z 0),("known",ύ (K.map Z)),("pots",ύ (ps.map ff))]]):=by
 have E:=λ(l:gV) (t:l.contains 9=U2) (f:Str) (w:D) (h:List (Str × D)) (u:h.length<1000)=>SB (ρ:=[SY$ Y g.length,SY$ Z e,SY$ Z 0,SY$ ύ$ K.map Z,SY$ Y n]) (σ:=g) (cs:=l) (f:=f) (d:=w) (c:=9) (fs:=h) t u;have q:∀ h,lg (g++[ϔ 9 h]) (wr [ύ$ K.map Z]$ g++[ϔ 9 h])=U (ύ$ K.map Z) (g++[ϔ 9 h]):=λh=>wB (NG K) _;have x:∀ h,Sh (Ei (Jj$ kg$ ka 4) [] (jc 0) Ej$ yf$ Fa (Sa Cb (ka 0)$ eC$ Z 0)$ Fa (Sh$ Qm wr$ Fa (Sa Cb (ka 0)$ eC$ Z 1) ib)$ Fa (Qm wD$ Fa (Sa Cb (ka 0)$ eC$ Z 2) ib) ib) [SY$ Y g.length,SY$ Z e,SY$ Z 0,SY$ ύ$ K.map Z,SY$ Y n] (g++[ϔ 9 h])=U (ύ$ ps.map ff) (g++[ϔ 9 h]):=λh=>by
  have s1:mx (Y n) (g++[ϔ 9 h])=U (.Ml n) (g++[ϔ 9 h]):=by
   show (match Ce (g++[ϔ 9 h]) n with|some _=>_|none=>_)=_;rw[cM m]
  exact bA (ix:=[]) (src:=kg$ ka 4) (s:=.Ml n) (xs:=ps) (ρ:=[SY$ Y g.length,SY$ Z e,SY$ Z 0,SY$ ύ$ K.map Z,SY$ Y n]) (σ:=g++[ϔ 9 h]) (fe:=yf$ Fa (Sa Cb (ka 0)$ eC$ Z 0)$ Fa (Sh$ Qm wr$ Fa (Sa Cb (ka 0)$ eC$ Z 1) ib)$ Fa (Qm wD$ Fa (Sa Cb (ka 0)$ eC$ Z 2) ib) ib) ff ff (by simp[s1]) (λi j=>by
    show (Ce (g++[ϔ 9 h]++j) n).map _=_;rw[cM$ cM m _,<-dB];rfl) ⋯
   (λv i j=>by
    have p:=wB$ qD v.2;have o:∀ k,wD [Ϭ [] []] k=U (Ϭ [] []) k:=λk=>nr rfl;unfold ff;simp[p,o]) (λv i=>UP v)
 have y:Ih "every" (Z e) ([]:List (Str × D))=([("every",Z e)]:List (Str × D)):=rfl;have z:∀ a b:D,Ih "last_look" b ([("every",a)]:List (Str × D))=([("every",a),("last_look",b)]:List (Str × D)):=λi i=>rfl;have A:∀ a b c:D,Ih "known" c ([("every",a),("last_look",b)]:List (Str × D))=([("every",a),("last_look",b),("known",c)]:List (Str × D)):=λi i i=>rfl;have p4:∀ a b c d:D,Ih "pots" d ([("every",a),("last_look",b),("known",c)]:List (Str × D))=([("every",a),("last_look",b),("known",c),("pots",d)]:List (Str × D)):=λi i i i=>rfl;have r:∀ ρ g,Sh (Qm wr$ Fa (ka 3) ib) ρ g=lg g (Qm wr (Fa (ka 3) ib) ρ g):=λi i=>rfl;unfold gB Ff;simp[E,y,z,A,p4,q,x,r,-bp]
noncomputable def pv(x:Ka):Pv:=(x.2.q,x.2.y)
def xy(e:Int)(K:em)(a:List Ka):D:=fk e (ks K)$ (a.map pv).map ff
def MV e K a:cl (xy e K a)=U2:=ģ _ _$ iQ _
section
variable{b:Nat}{e:Int}{K:em}(hK:K.length<=60){as as':List Ka}{σ:Ga}
include hK
theorem fV(h:Vs b e K as σ)(R:As as' σ)(F:∀ x∈as',∃ y∈as,y.2.p=x.2.p)(T:as'.length<=3){r}(g:σ[r]?=SY (Ϗ$ AV as'))(P:r=b+2\/b+4<r):FB [Y b,Y r] σ=U (xy e K as') σ:=by
 have a:=(aa.mp g).1;have z:=h.set P$ ϥ$ AV as';have t:=R.set g$ ϥ$ AV as';have B:(σ.set r$ ϥ$ AV as').length=σ.length:=si;have c:=bj (j:=[ώ []]) g;obtain⟨a0,a1,G,C,E,rfl,rfl⟩:=mL (tg:=rl 2$ Vf (jc 3)$ Vf (jc 4) cm) (body:=nU) (N:=(AV as').length) (λi ρ o=>∃ C E,ρ=[SY$ Y b,SY$ Y r,SY$ Y σ.length,C,E]/\o=σ.set r (ϥ$ AV as')++[ώ$ ((as'.take i).map pv).map ff]) (λi ρ o u Q=>by
  obtain⟨C,E,rfl,rfl⟩:=Q;have u:i<as'.length:=by simpa [AV]using u
  have A:as'[i]?=SY as'[i]:=aa.mpr ⟨u,rfl⟩;generalize as'[i]=x at *;have w:=ua A;have s:=MF (σ:=σ.set r$ ϥ$ AV as') (xs:=((as'.take i).map pv).map ff) (d:=ff$ pv x) (by simp;omega);rw[B]at s;have V:∀ m,Jr Pg m (Y σ.length) (σ.set r (ϥ$ AV as')++[ώ$ ((as'.take i).map pv).map ff])=(m$ σ.set r (ϥ$ AV as')++[ώ$ ((as'.take i).map pv).map ff]).bind (Pg$ Y σ.length):=λm=>VC (xs:=((as'.take i).map pv).map ff) (by unfold wf Ce;rw[<-B];simp);have v:=z.app [ώ$ ((as'.take i).map pv).map ff];have J:=WY v;have L:=QW v$ F x w;have M:=œ v$ F x w;have k:=(t.app [ώ$ ((as'.take i).map pv).map ff]) x w;have st:=yae k.1 k.2;have sd:=Eu k.1 k.2;have X:ϒ [Z x.2.q,ύ$ x.2.y.map Sn.D,Ϭ [] []]=ff (pv x):=rfl;rw[show ((as'.take i).map pv).map ff++[ff$ pv x]=((as'.take$ i+1).map pv).map ff by rw[RU A];simp]at s;refine⟨ϒ [Z x.2.p,Y x.1],[SY$ Y b,SY$ Y r,SY$ Y σ.length,SY$ Z x.2.p,SY$ Y x.1],[SY$ Y b,SY$ Y r,SY$ Y σ.length,SY$ Z x.2.p,SY$ Y x.1],_,?_,rfl,?_,_,_,rfl,rfl⟩
  ·unfold xr AV;simp only[Ca,A];rfl
  ·generalize σ.set r (ϥ$ AV as')++[ώ$ ((as'.take i).map pv).map ff]=ϋ,σ.set r (ϥ$ AV as')++[ώ$ ((as'.take$ i+1).map pv).map ff]=ϊ at *;simp[(XR v),J,L,M,st,sd,V,X,s]) (λo=>WN (AV as') o) 1001 0 [SY$ Y b,SY$ Y r,SY$ Y σ.length,ń,ń] ((σ++[ώ []]).set r$ ϥ$ AV as') (by simp[AV];lia) ⋯ ⟨ń,ń,rfl,by rw[ur _ _ a];simp⟩
 rw[show (AV as').length=as'.length by simp[AV],Md]at G;have H:=KJ (f:=ka 1) (src:=Rx$ ka 1) (ρ:=[SY$ Y b,SY$ Y r,SY$ Y σ.length,ń,ń]) (σ:=σ++[ώ []]) (n:=r) ⋯ c (MS ⋯ c) G (A':=AV as')$ bj (by rw[Ia a]);rw[ur _ _ (by rw[B];exact a),LC,YR g]at H;have l:=h.app [ώ$ (as'.map pv).map ff];have wd:=FY l hK;have W:=Zo l "words" 1 jt;have O:=X6 l;have ό:=ŋ l;have S:=MV e K as';have mk:lg (σ++[ώ$ (as'.map pv).map ff]) (Jl 9 5 gB [Z e,Z 0,ύ$ (ks K).map Z,Y σ.length]$ σ++[ώ$ (as'.map pv).map ff])=U (xy e K as') (σ++[ώ$ (as'.map pv).map ff]):=by
  rw[oQ,Ŵ _ (ks K) e (n:=σ.length) (ps:=as'.map pv) (by simpa using T) (by unfold Ce;simp),yz,pH (by have:=iQ$ as'.map pv;generalize (as'.map pv).map ff=I at *;simp[this])];rfl
 have fz:lg σ (U (xy e K as')$ σ++[ώ$ (as'.map pv).map ff])=U (xy e K as') σ:=MI S;unfold FB lX Pf;dsimp only;generalize (as'.map pv).map ff=I at *;simp[-Az,H,O,ό,wd,W,mk,fz]
end
set_option genInjectivity false in
structure Kp where
 e:Int
 K:em
 as:List Ka
 F:Kv
structure Th(b:Nat)(k:Kp)(σ:Ga):Prop where
 v:Vs b k.e k.K k.as σ
 h2:σ[b+2]?=SY (Ϗ (AV k.as))
 h5:σ[b+5]?=SY (Ϗ [])
 a:As k.as σ
 d:(k.as.map (·.2.p)).Nodup
 n:k.as.length<=3
 z:k.K.length<=60
 o:Tt (k.as.map pv)
 h6:σ[b+6]?=SY (Ϗ k.F)
def Th.app(h:Th b k c) j:Th b k$ c++j:=⟨h.v.app j,bj h.h2,bj h.h5,h.a.app j,h.d,h.n,h.z,h.o,bj h.h6⟩
section
variable{b:Nat}{k:Kp}{σ:Ga}(h:Th b k σ)
include h
theorem Q1:∃ w:Int,mF [Y b] σ=U (Z w) σ:=by
 have v:=fV h.z h.v h.a (λx d=>⟨x,d,rfl⟩) h.n h.h2$ ϑ rfl;obtain⟨w,e⟩:∃ w:Int,zi [xy k.e k.K k.as] σ=U _ σ:=mS h.o k.e _ σ;have c:=MV k.e k.K k.as;generalize xy k.e k.K k.as=V at *;have f:EF [Y b] σ=U V σ:=by
  unfold EF Pf;simp[(Zo h.v "view_by" 2 FB),(gw h.v),v,c]
 refine⟨w,?_⟩;unfold mF Pf;simp[(Zo h.v "view" 1 EF),f,e]
noncomputable def vj(a:List Ka)(x:Ka):List Ka:=a.map λy=>if y.2.p=x.2.p then x else y
omit h
theorem GR(c:∃ y∈a,y.2.p=x.2.p):Ji (AV a) (.inl x.2.p) (Y x.1)=AV (vj a x):=by
 obtain⟨y,d,b⟩:=c;unfold Ji AV vj;rw[na$ Hc.mpr ⟨_,Xa.mpr ⟨y,d,rfl⟩,by simp[b]⟩];rw[Ec,Ec];refine oj λz f=>?_;by_cases e:z.2.p=x.2.p;all_goals simp_all
theorem OB(h:y∈vj a x):y=x\/y∈a:=by
 obtain⟨z,b,rfl⟩:=Xa.mp h;split;all_goals simp_all
theorem lA a x:(vj a x).map (·.2.p)=a.map (·.2.p):=by
 unfold vj;rw[Ec];refine oj λy b=>?_;simp;split;all_goals simp_all
theorem SN a x:(vj a x).length=a.length:=by unfold vj;simp
structure aH(a:Ac):Prop where
 q:a.q=0\/a.q=1
 f:0<a.y.length/\a.y.length<=2
 d:∀ s∈a.y,(∀ t∈s.ts,t.p≠a.q)/\s.ts.length<=6
theorem TV{b}(h:Tt$ b.map pv)(e:aH x.2):Tt$ (vj b x).map pv:=by
 have i:∀ p∈(vj b x).map pv,p=pv x\/p∈b.map pv:=λp a=>by
  obtain⟨y,g,rfl⟩:=Xa.mp a;rcases OB g with rfl|g
  ·exact ϑ rfl
  ·exact ϕ$ Qc g
 refine⟨by rw[Ha,SN];simpa using h.n,λp a=>?_,λp a=>?_,λp a=>?_⟩<;>rcases i p a with rfl|c
 ·exact e.q
 ·exact h.q p c
 ·exact e.f
 ·exact h.f p c
 ·exact e.d
 ·exact h.d p c
include h
theorem wX{x:Ka}(i:Bi σ x.1 x.2)(j:x.2.Ok)(u:aH x.2)(l:∃ y∈k.as,y.2.p=x.2.p) d:∃ g,Wx [Y b,Y x.1,Z d] σ=U (ϓ g) σ:=by
 have m:cC [Y$ b+2] σ=U (Y σ.length) (σ++[Ϗ$ AV k.as]):=by
  have:Of σ (Y$ b+2)=SY (AV k.as):=by unfold Of;simp[h.h2]
  unfold cC;simp only[this]
 have st:∀ ρ,wo ρ _ (Y σ.length) _ (σ++[Ϗ$ AV k.as])=U (Ϙ ρ) _:=λρ=>by
  rw[nt (kvs:=AV k.as) ⋯ (by have:=h.n;simp[AV];lia),GR l,JD]
 have C:=(aa.mp h.h5).1;have A:As (vj k.as x) σ:=λy c=>by
  rcases OB c with rfl|c
  ·exact⟨i,j⟩
  ·exact h.a y c
 have f:=h.v.app [Ϗ$ AV$ vj k.as x];have v:=fV h.z f (A.app [Ϗ$ AV$ vj k.as x]) (λy c=>by
  rcases OB c with rfl|c
  ·exact l
  ·exact⟨y,c,rfl⟩) (by rw[SN];exact h.n) (r:=σ.length) ⋯$ ϕ ⋯
 obtain⟨w,s⟩:∃ w:Int,zi [xy k.e k.K$ vj k.as x] (σ++[Ϗ$ AV$ vj k.as x])=U (Z w) (σ++[Ϗ$ AV$ vj k.as x]):=mS (TV h.o u) k.e (ks k.K) _;obtain⟨B,q⟩:=Q1 (h.app [Ϗ$ AV$ vj k.as x]);have fz:∀ t,lg σ (U (ϓ t)$ σ++[Ϗ$ AV$ vj k.as x])=U (ϓ t) σ:=λt=>MI ⋯;refine⟨decide$ w ≥ B - d,?_⟩;unfold Wx Pf;simp[(gw h.v),m,st,(aD (i.app [Ϗ$ AV k.as]) j),v,s,q,(Zo f "view_by" 2 FB),(Zo f "worth" 1 mF),fz]
end
theorem II:∀ {a:List Ka},(a.map (·.2.p)).Nodup->∀ x∈a,Wk (AV a) (.inl x.2.p)=SY (Y x.1)
 |[],_,x,h=>by cases h
 |y::a,hd,x,b=>by
  rw[Va,Cd]at hd;unfold AV Wk;rcases Ba.mp b with rfl|b
  ·simp
  ·have c:y.2.p≠x.2.p:=λe=>hd.1$ e ▸ Qc b;have d:=II hd.2 x b;unfold AV Wk at d
   simp_all
def j3 a x:CV (vj a x)=CV a:=by
 have e:∀ a:List Ka,CV a=(a.map (·.2.p)).map λp=>(.inl p,.gt ["held"]):=λa=>by unfold CV;rw[Ec];rfl
 rw[e,lA,<-e]
def P5 a x:SV (vj a x)=SV a:=by
 have e:∀ a:List Ka,SV a=(a.map (·.2.p)).map λp=>(.inl p,Ϭ [] []):=λa=>by unfold SV;rw[Ec];rfl
 rw[e,lA,<-e]
section
variable{b:Nat}{k:Kp}{σ:Ga}(h:Th b k σ)
include h
theorem FU:Of σ (Y$ b+2)=SY (AV k.as):=by unfold Of;simp[h.h2]
theorem eM{x}(a:x∈k.as):Du [Y b,Z x.2.p] σ=U (ϓ U2) σ:=by
 have g:=gw h.v;have c:=XR h.v;have f:=QW h.v ⟨x,a,rfl⟩;have i:Ps (Z x.2.p) (Y$ b+2) σ=U (ϓ U2) σ:=by
  unfold Ps;simp only[Jk,FU h,II h.d x a];rfl
 have e:∀ σ,sB (.gt ["held"]) (.gt ["held"]) σ=U (ϓ U2) σ:=λσ=>nr rfl;unfold Du Pf;simp[g,c,f,i,e]
theorem cB{x}(a:x∈k.as):gk (Y$ b+2) (Z x.2.p) σ=U (Y x.1) σ:=aF h.h2$ II h.d x a
theorem ä{x}(b:x∈k.as):lg σ (U (Y x.1) σ)=U (Y x.1) σ:=by
 unfold lg;dsimp only;rw[na Md];have:fz σ.length σ 6 (Y x.1)=SY (Y x.1):=by
  unfold fz;rw[ya ⋯];dsimp only;rw[na$ (aa.mp (h.a x b).1).1]
 rw[this]
theorem ŉ{x}(a:x∈k.as):Ip [Y b,Z x.2.p] σ=U (Y x.1) σ:=by
 have i:oq (Z x.2.p) (Y$ b+2) σ=U (ϓ ŝ) σ:=by
  unfold oq;simp only[Jk,FU h,II h.d x a];rfl
 unfold Ip Pf;simp[(gw h.v),i,(cB h a),(ä h a)]
theorem iV{x}(g:Bi σ x.1 x.2)(i:x.2.Ok)(l:aH x.2)(j:∃ y∈k.as,y.2.p=x.2.p):(∀ f,wo f (Y x.1) (Y$ b+2) (Z x.2.p) σ=U (Ϙ f) (σ.set (b+2)$ Ϗ$ AV$ vj k.as x))/\Th b { k with as:=vj k.as x } (σ.set (b+2)$ Ϗ$ AV$ vj k.as x):=by
 refine⟨λf=>by rw[nt h.h2 (by have:=h.n;simp[AV];lia),GR j],?_⟩;have c:=h.v.set (ϑ rfl)$ Ϗ$ AV$ vj k.as x;refine⟨⟨c.h0,c.h1,?_,?_⟩,Ia$ (aa.mp h.h2).1,ue ⋯ h.h5,?_,?_,?_,h.z,TV h.o l,ue ⋯ h.h6⟩
 ·show _=SY _;rw[j3];exact c.h3
 ·show _=SY _;rw[P5];exact c.h4
 ·have m:As _ σ:=λy e=>by
   rcases OB e with rfl|e
   ·exact⟨g,i⟩
   ·exact h.a y e
  exact m.set h.h2 _
 ·show ((vj k.as x).map (·.2.p)).Nodup;rw[lA];exact h.d
 ·show (vj k.as x).length<=3;rw[SN];exact h.n
end
section
variable{b:Nat}{k:Kp}{σ:Ga}(h:Th b k σ)
include h
theorem P7:Of σ (Y$ b+5)=SY []:=by unfold Of;simp[h.h5]
theorem V4{X}{kd}{p}(d:∀ σ,Cb X (Z 0) σ=U (ϐ kd) σ)(e:∀ σ,Cb X (Z 1) σ=U (Z p) σ):ZB [Y b,X] σ=U (ϓ ŝ) σ:=by
 have a:=PJ kd "offer" σ;have n:oq (Z p) (Y$ b+5) σ=U (ϓ U2) σ:=by
  unfold oq;simp[P7 h];rfl
 unfold ZB Pf;cases c:(kd == ("offer"))<;>rw[c]at a<;>simp[d,e,(Ø h.v),a,n]
end
def Ð{e fr:Ev->M D}(k:e b a=U x a)(m:fr b a=U y a)(o:di a x=SY (c,h))(p:di a y=SY (d,j))(n:(c,d)∈l):ky l g e fr i f b a=f b a:=by
 unfold ky;rw[Gm,k,qm,Gm,m,qm];unfold WI
 simp_all
theorem S8{f fr:Ev->M D}(j:f d a=U (Y n) a)(k:fr d a=U (Y n) a)(q:di a (Y n)=SY (c,h))(p:(c,c) ∉ l)(o:c∈e)(m:g d a=U (.rt z) b):ky l e f fr g i d a=U (.rt z) b:=by
 unfold ky;rw[Gm,j,qm,Gm,k,qm];unfold WI;simp only[q];rw[ya p,na ⟨trivial,o⟩];unfold OM;simp[m];rfl
structure SO(T q:Int)(s:Sn):Prop where
 ok:s.Ok T
 w:∀ t∈s.ts,t.p=1 - q
inductive AI(T:Int->Int)(N:Nat):Ac->Prop where
 |Lb {p q:Int} {m:Sn} {G:D} {L:i'} (hp:0<=p/\p<=2) (hq:q=0\/q=1) (hm:SO (T p) q m) (hn:m.n<=N) (hg:cl G=U2) (hl:IL L) (hL:L.length<=N):AI T N (Lb p q m G L)
 |xg {p:Int} {m s:Sn} {G:D} {L:i'} (hp:0<=p/\p<=2) (hm:SO (T p) 0 m) (hs:SO (T p) 0 s) (hn:s.n=m.n+1) (hN:s.n<=N) (hg:cl G=U2) (hl:IL L) (hL:L.length<=N):AI T N (xg p 0 m s G L)
 |wait {p:Int} {m s:Sn} {G:D} {L:i'} (hp:0<=p/\p<=2) (hm:SO (T p) 1 m) (hs:SO (T p) 1 s) (hn:s.n=m.n+1) (hN:s.n<=N) (hg:cl G=U2) (hl:IL L) (hL:L.length<=N):AI T N (wait p 1 m s G L)
def AI.up{T}{N M}(h:AI T N a)(k:N<=M):AI T M a:=by
 cases h with
 |Lb b c d f i e g=>exact .Lb b c d ⋯ i e ⋯
 |xg b c d f i e g j=>exact .xg b c d f ⋯ e g ⋯
 |wait b c d f i e g j=>exact .wait b c d f ⋯ e g ⋯
def AI.ok{T}(h:AI T N a):a.Ok:=by
 cases h with
 |Lb b e g i f c d=>exact ku b e f c.cl
 |xg b e g i f c d j=>exact YH b (ϑ rfl) c d.cl
 |wait b e g i f c d j=>exact hH b (ϕ rfl) c d.cl
def AI.so{T}(h:AI T N a):(∀ s∈a.y,SO (T a.p) a.q s)/\0<a.y.length/\a.y.length<=2:=by
 cases h with
 |Lb e d c f g i j=>exact⟨λs b=>by
   rw[Oa.mp$ b];exact c,by simp[Internal.Lb],by simp[Internal.Lb]⟩
 |xg e d c f g i j k=>exact⟨λs b=>by
   rcases Ba.mp (b)with rfl|b
   ·exact d
   ·rw[Oa.mp b];exact c,by simp[Internal.xg],by simp[Internal.xg]⟩
 |wait e d c f g i j k=>exact⟨λs b=>by
   rcases Ba.mp (b)with rfl|b
   ·exact d
   ·rw[Oa.mp b];exact c,by simp[Internal.wait],by simp[Internal.wait]⟩
def AI.eI{T}(h:AI T N a):aH a:=⟨h.ok.q,h.so.2,λs b=>⟨λt c=>by have:=(h.so.1 s b).w t c;lia,(h.so.1 s b).ok.st.l⟩⟩
def Fr(b:Nat)(c a:Ga):Prop:=∀ r o,(r<b\/b+6<r)->c[r]?=SY o->a[r]?=SY o
def Fr.trans(h:Fr b a c)(g:Fr b c d):Fr b a d:=λr o f e=>g r o f$ h r o f e
def Fr.refl b a:Fr b a a:=λc c c e=>e
def Fr.app b a j:Fr b a$ a++j:=λc c c e=>bj e
def Fr.set a(c:b<=i/\i<=b+6) o:Fr b a$ a.set i o:=λr f d e=>ue ⋯ e
section
variable{b:Nat}{k:Kp}{σ:Ga}(h:Th b k σ)
include h
theorem dE{x}(g:x∈k.as)(l:x.2.c∈[6,7,8]){X}(o:Cb X (Z 1) σ=U (Z x.2.p) σ){d}(mk:∀ e,Pk [(6,Iu),(7,Nw),(8,px)] 2 "taken" e (Y x.1) σ=(e σ).bind (Ai 2 d$ Y x.1))(r:d [Y x.1,X] σ=U (ϒ [Y x.1,Ϛ]) σ):Hv [Y b,X] σ=U (ύ []) σ:=by
 have q:=gw h.v;have n:=cB h g;have m:∀ i j f,ky [(8,6),(6,8),(6,7)] [6,7,8] (Sa Cb (ka 3)$ eC$ Z 0) (Sa gk (be (Cc [10] "accounts")$ ka 0)$ ka 2) (Di$ Zi ib) f [SY$ Y b,SY X,SY$ Z x.2.p,SY$ ϒ [Y x.1,Ϛ],i,j] σ=U (.rt$ ύ []) σ:=λi j f=>by
  refine S8 ?_ ?_ (Tp (h.a x g).1) ?_ l ?_;all_goals simp_all
 unfold Hv HH OG XH Ff
 simp_all
end
section
variable{b:Nat}{k:Kp}{σ:Ga}(h:Th b k σ){x:Ka}(hx:x∈k.as)
include h hx
theorem Dz{X d}{kd}{a}(c:Xc [X] σ=U (ϓ U2) σ)(e:∀ σ,Cb X (Z 0) σ=U (ϐ kd) σ)(f:∀ σ,Cb X (Z 1) σ=U (Z x.2.p) σ)(i:(kd == ("word" : Str))=ŝ)(g:(kd == ("ask" : Str))=ŝ)(j:Hv [Y b,X] σ=U d a):uj [Y b,X] σ=U d a:=by
 unfold uj Ff;simp[c,e,f,i,g,(eM h hx),(Zo h.v "holds" 2 Du),(Zo h.v "take_step" 2 Hv),j]
theorem KT{s}(f:Vo s.n s.a s.b s.ts)(e:0<=x.2.p/\x.2.p<=2){d}{c}(j:Aw [Y b,Sk x.2.p s] σ=U d c):uj [Y b,Sk x.2.p s] σ=U d c:=by
 have g:∀ σ,Cb (Sk x.2.p s) (Z 0) σ=U (ϐ "ask") σ:=λσ=>by unfold Sk;simp
 have i:∀ σ,Cb (Sk x.2.p s) (Z 1) σ=U (Z x.2.p) σ:=λσ=>by unfold Sk;simp
 unfold uj Ff;simp[(E3 e σ f),g,i,(eM h hx),(Zo h.v "holds" 2 Du),(Zo h.v "take_ask" 2 Aw),j]
theorem D2{s}(i:∀ X ϋ,Se [Y x.1,X,ϋ] σ=.ex ⟨2⟩ σ):Aw [Y b,Sk x.2.p s] σ=U (ύ []) σ:=by
 have d:∀ σ,Cb (Sk x.2.p s) (Z 1) σ=U (Z x.2.p) σ:=λσ=>by unfold Sk;simp
 have e:∀ σ,Cb (Sk x.2.p s) (Z 2) σ=U (ϒ [Z s.a,Z s.b]) σ:=λσ=>by unfold Sk;simp
 have f:∀ σ,Cb (Sk x.2.p s) (Z 3) σ=U (ϒ$ s.ts.map Ti.D) σ:=λσ=>by unfold Sk;simp
 have c:∀ g ρ σ,Py ρ _ [⟨lx [(1,U2),_],ń,g⟩] σ=hit ⟨lx [(1,U2),(2,U2)],ń,g⟩ ρ ⟨2⟩ σ:=λg ρ σ=>ų rfl;unfold Aw vG lJ KI wI jJ Ff;simp[d,e,f,(gw h.v),(cB h hx),i,c]
end
def Jy(h:Bi b n a)(g:a.c=c)(i:bq l c=SY d)(f:a.fs.lookup m=ń) k e:Pk l k m e (Y n) b=(e b).bind (Ai k d$ Y n):=Xp (Tp h) ⋯ f
def c5:(6:Nat)∈[6,7,8]:=by decide
def c6:(7:Nat)∈[6,7,8]:=by decide
def c7:(8:Nat)∈[6,7,8]:=by decide
def ŧ:((8,6):Nat × Nat)∈[(8,6),(6,8),(6,7)]:=by decide
def ė:((6,8):Nat × Nat)∈[(8,6),(6,8),(6,7)]:=by decide
def fZ:((6,7):Nat × Nat)∈[(8,6),(6,8),(6,7)]:=by decide
def AN p q s a:Cb (En p q s) (Z 0) a=U (ϐ "offer") a:=by unfold En;simp
def KH p q s a:Cb (En p q s) (Z 1) a=U (Z p) a:=by unfold En;simp
def SI p m s a:Cb (Wm p m s) (Z 0) a=U (ϐ "accept") a:=by unfold Wm;simp
def PB p m s a:Cb (Wm p m s) (Z 1) a=U (Z p) a:=by unfold Wm;simp
def RD p q n a:Cb (Cm p q n) (Z 0) a=U (ϐ "struck") a:=by unfold Cm;simp
def UB p q n a:Cb (Cm p q n) (Z 1) a=U (Z p) a:=by unfold Cm;simp
noncomputable def Qh(K:em)(w:Int):em:=if w∈K then K else K++[w]
def t8{K}:v∈Qh K w ↔ v∈K\/v=w:=by
 unfold Qh;split;all_goals simp_all
def GS d(h:∀ p∈a,p.1≠.inl w):Ji a (.inl w) d=a++[(.inl w,d)]:=by
 unfold Ji;rw[ya];intro z;obtain⟨p,b,e⟩:=Hc.mp z;exact h p b ⋯
def ê K w:Ji (yj K) (.inl w) (ϓ U2)=yj (Qh K w):=by
 unfold Qh;by_cases h:w∈K
 ·have a:(yj K).any (λc=>decide$ c.1=.inl w)=U2:=Hc.mpr ⟨_,Xa.mpr ⟨w,h,rfl⟩,by simp⟩;unfold Ji;unfold yj
  simp_all
 ·rw[ya h,GS _ λp b e=>by
   obtain⟨d,a,rfl⟩:=Xa.mp b;have e:d=w:=by simpa using e
   exact h$ e ▸ a]
  unfold yj
  simp_all
def ţ K w:(Qh K w).length<=K.length+1:=by unfold Qh;split<;>simp
def jI(a K:em):(a.foldl Qh K).length<=K.length+a.length:=by
 induction a generalizing K with
 |nil=>simp
 |cons w a b=>have c:=b$ Qh K w;have d:=ţ K w;simp;lia
def vT{K a:em}(n:c[b]?=SY (ϔ 10 h))(p:h.lookup ("known" : Str)=SY (Y$ b+1))(j:c[b+1]?=SY (Ϗ$ yj K))(x:K.length+a.length<900):qt [Y b,ύ$ a.map Z] c=U Ϛ (c.set (b+1)$ Ϗ$ yj$ a.foldl Qh K):=by
 obtain⟨t,u,f,y,rfl,rfl⟩:=Tv (xs:=a.map Z) (tg:=jc 2) (body:=BM) (ρ:=[SY _,SY _,ń]) (σ:=c) (λi ρ m=>∃ y,ρ=[SY _,SY _,y]/\m=c.set _ (Ϗ$ yj$ (a.take i).foldl Qh K)) (by simp;lia) (ϑ rfl) (λi d ρ m k o=>by
  obtain⟨y,rfl,rfl⟩:=o;rw[Ca]at k;obtain⟨w,l,rfl⟩:=Ra.mp k;have v:=(aa.mp l).1;have q:=jI (a.take i) K;rw[We]at q;have e:(a.take$ i+1).foldl Qh K=Qh ((a.take i).foldl Qh K) w:=by rw[jz,l,List.foldl_append];rfl
  rw[e];generalize (a.take i).foldl Qh K=g at *;have s:Cc [9,10] "known" (Y b) _=U _ (c.set (b+1)$ Ϗ$ yj g):=Ph (by unfold di;simp[ue (r:=b+1) _ n];rfl) rfl p;have st:∀ ρ,wo ρ _ (Y _) (Z w) (c.set (b+1)$ Ϗ$ yj g)=U (Ϙ ρ) (c.set (b+1)$ Ϗ$ yj$ Qh g w):=λρ=>by
   rw[nt (Ia$ (aa.mp j).1) (by unfold yj;simp;lia),ê,LC]
  refine⟨_,[SY$ Y b,SY$ ύ$ a.map Z,SY$ Z w],_,rfl,?_,SY$ Z w,rfl,rfl⟩;simp[s,st]) ⟨ń,rfl,(YR j).symm⟩
 rw[Ha,Md]at f;have f:ek (jc 2) BM (a.map Z) [SY$ Y b,SY$ ύ$ a.map Z,ń] c=_:=f;unfold qt SR Ff;simp[f]
noncomputable def Zc(l:List$ Int × Int):List$ Vc × D:=l.map λp=>(.inl p.1,Z p.2)
noncomputable def vl(l:List$ Int × Int)(w:Int):Option Int:=(l.find? λp=>decide$ p.1=w).map (·.2)
theorem pF(w:Int):∀ (l:List$ Int × Int),Wk (Zc l) (.inl w)=(vl l w).map Z
 |[]=>rfl
 |p::l=>by
  have a:=pF w l;unfold Wk Zc vl at *;by_cases e:p.1=w;all_goals simp_all
noncomputable def Nk(l:List$ Int × Int)(w v:Int):List$ Int × Int:=if l.any (λp=>decide$ p.1=w)then l.map λp=>if p.1=w then (p.1,v)else p else l++[(w,v)]
def PH l w v:(Nk l w v).length<=l.length+1:=by unfold Nk;split<;>simp
theorem HJ l w v:Ji (Zc l) (.inl w) (Z v)=Zc (Nk l w v):=by
 have a:((Zc l).any λb=>decide$ b.1=(Sum.inl w))=l.any λp=>decide$ p.1=w:=by
  unfold Zc;rw[KC]
  grind
 unfold Ji Nk;rw[a];split
 ·unfold Zc;rw[Ec,Ec];congr 1;funext p;simp;by_cases e:p.1=w;all_goals simp_all
 ·unfold Zc;rw[List.map_append];rfl
set_option genInjectivity false in
structure Pt where
 (l r u v w:Int)
noncomputable def Pt.D(p:Pt):Lake.D:=ϒ [Z p.l,Z p.r,Z p.u,Z p.v,Z p.w]
def PM(p:Pt):cl p.D=U2:=by unfold Pt.D;simp
def Pt.i(p:Pt) a:Cb p.D (Z 2) a=U (Z p.u) a/\Cb p.D (Z 3) a=U (Z p.v) a/\Cb p.D (Z 4) a=U (Z p.w) a:=by trivial
structure Pt.Ok(p:Pt):Prop where
 u:0<=p.u/\p.u<=1000000000000
 v:0<=p.v/\p.v<=1000000000000
inductive Cl where
 |held
 |laid (s:Int) (x:Sn) (y:Int)
 |taken (s:Int)
def Cl.D(p:Pt):Cl->Lake.D
 | .held=>ϵ 12 ["whole"] [Z$ p.u+p.v]
 | .laid s x y=>ϵ 13 ["whole","side","stand","day","wait"] [Z$ p.u+p.v,Z s,x.D,Z y,Z p.w]
 | .taken s=>ϵ 14 ["whole","side"] [Z$ p.u+p.v,Z s]
def Cl.tl:Cl->Lake.D
 | .held=>ϒ [ϐ "held"]
 | .laid s x y=>ϒ [ϐ "laid",Z s,x.D,Z y]
 | .taken s=>ϒ [ϐ "taken",Z s]
def JY(c:Cl):cl c.tl=U2:=by cases c<;>simp[Cl.tl,cr]
def AH a:Cb Cl.held.tl (Z 0) a=U (ϐ "held") a:=by unfold Cl.tl;simp
def LJ s a:Cb (Cl.taken s).tl (Z 0) a=U (ϐ "taken") a/\Cb (Cl.taken s).tl (Z 1) a=U (Z s) a:=by unfold Cl.tl;simp
def GE s x y a:Cb (Cl.laid s x y).tl (Z 0) a=U (ϐ "laid") a/\Cb (Cl.laid s x y).tl (Z 1) a=U (Z s) a/\Cb (Cl.laid s x y).tl (Z 2) a=U x.D a/\Cb (Cl.laid s x y).tl (Z 3) a=U (Z y) a:=by unfold Cl.tl;simp
def wA:(("held" : Str) == "laid")=ŝ/\(("taken" : Str) == "laid")=ŝ/\(("laid" : Str) == "held")=ŝ/\(("taken" : Str) == "held")=ŝ:=by decide
def bS s x y p a:Cc [5,6,7,8,13,14] "side" ((Cl.laid s x y).D p) a=U (Z s) a/\Cc [13] "stand" ((Cl.laid s x y).D p) a=U x.D a/\Cc [13,15] "day" ((Cl.laid s x y).D p) a=U (Z y) a/\Cc [13] "wait" ((Cl.laid s x y).D p) a=U (Z p.w) a:=⟨Ph (Wp rfl) rfl rfl,Ph (Wp rfl) rfl rfl,Ph (Wp rfl) rfl rfl,Ph (Wp rfl) rfl rfl⟩
set_option genInjectivity false in
structure Bs where
 y:Int
 C:Nat->Cl
 S:Nat->List (Int × Int)
noncomputable def yx(c:Nat)(P:Nat->Pt)(y:Int):List$ Str × D:=[("pots",ύ [(P 0).D,(P 1).D]),("day",Z y),("claims",Y (c+1)),("shown",Y (c+2))]
structure Fh(c:Nat)(P:Nat->Pt)(B:Bs)(σ:Ga):Prop where
 h0:σ[c]?=SY (ϔ 15 (yx c P B.y))
 h1:σ[c+1]?=SY (ώ [(B.C 0).D (P 0),(B.C 1).D (P 1)])
 h2:σ[c+2]?=SY (ώ [Y (c+3),Y (c+4)])
 h3:∀ i,i<2->σ[c+3+i]?=SY (Ϗ (Zc (B.S i)))
def yA{xs}{i:Nat}(h:a[n]?=SY (ώ xs))(b:xs[i]?=SY d):Cb (Y n) (Z i) a=U d a:=by
 have l:Ce a n=SY xs:=by unfold Ce;rw[h]
 unfold Cb;simp[show Nh a (Y n)=SY xs from l,ut b]
def Fb{b:Type}(f:Nat->b)(i:Nat)(a:b):Nat->b:=λj=>if j=i then a else f j
def Wv f i(a:b):Fb f i a i=a:=by simp[Fb]
def ny f(a:b)(h:j≠i):Fb f i a j=f j:=by simp[Fb,h]
section
variable{c:Nat}{P:Nat->Pt}{B:Bs}{σ:Ga}(h:Fh c P B σ)
include h
theorem Fh.app j:Fh c P B$ σ++j:=⟨bj h.h0,bj h.h1,bj h.h2,λi a=>bj$ h.h3 i a⟩
theorem Fh.set{n}(d:n<c\/c+4<n) o:Fh c P B$ σ.set n o:=by
 have e:∀ k,k<=4->(σ.set n o)[c+k]?=σ[c+k]?:=λk b=>by rw[Za ⋯]
 exact⟨by rw[<-h.h0];exact e 0 ⋯,by rw[<-h.h1];exact e 1 ⋯,by rw[<-h.h2];exact e 2 ⋯,λi a=>by rw[<-h.h3 i a,show c+3+i=c+(3+i) by lia];exact e _ ⋯⟩
theorem MN:di σ (Y c)=SY (15,yx c P B.y):=by unfold di;simp[h.h0]
theorem Wl m n a(d:((yx c P B.y).lookup m=ń)⁻¹) b:Pk [(15,a)] n m b (Y c) σ=(b σ).bind (Ai n a$ Y c):=Xp (MN h) rfl d
theorem Ew{i:Nat}(d:i<2):Cc [9,15] "pots" (Y c) σ=U (ύ [(P 0).D,(P 1).D]) σ/\Cc [13,15] "day" (Y c) σ=U (Z B.y) σ/\Cc [10,15] "claims" (Y c) σ=U (Y$ c+1) σ/\Cc [15] "shown" (Y c) σ=U (Y$ c+2) σ/\Cb (Y$ c+1) (Z i) σ=U ((B.C i).D$ P i) σ/\Cb (Y$ c+2) (Z i) σ=U (Y$ c+3+i) σ/\(∀ σ,Cb (ύ [(P 0).D,(P 1).D]) (Z i) σ=U (P i).D σ)/\(∀ a b,Pk [(15,a)] 2 "check_pot" b (Y c) σ=(b σ).bind (Ai 2 a$ Y c))/\∀ a b,Pk [(15,a)] 5 "may_lie" b (Y c) σ=(b σ).bind (Ai 5 a$ Y c):=by
 have e:=MN h;refine⟨Ph e rfl rfl,Ph e rfl rfl,Ph e rfl rfl,Ph e rfl rfl,yA h.h1 ?_,yA h.h2 ?_,λσ=>?_,λa=>Wl h "check_pot" 2 a,λa=>Wl h "may_lie" 5 a⟩<;>rcases(show i=0\/i=1 by lia)with rfl|rfl<;>first|rfl|simp
theorem yB{i:Nat}(d:i<2):QE [Y c,Z i] σ=U Ϛ σ:=by
 unfold QE Pf;simp[(Ew h d),(λσ=>bt (i:=i) (a:=0) (b:=1) ⋯ σ)]
theorem fJ:vt [Y c] σ=U (Z B.y) σ:=by
 unfold vt Pf;simp[(Ew h (i:=0) _)]
theorem Z5:Yy [Y c] σ=U (ύ [(P 0).D,(P 1).D]) σ:=by
 unfold Yy Pf;simp[(Ew h (i:=0) _),(λσ=>wB (xs:=[(P 0).D,(P 1).D]) _ σ),(PM _)]
theorem gC{i:Nat}(d:i<2):Zn [Y c,Z i] σ=U (B.C i).tl σ:=by
 have F:=Ew h d;have ct:=JY$ B.C i;have m:∃ b,(∀ a σ,Pk [(12,SC),(13,WC),(14,bF)] 1 "told" a ((B.C i).D$ P i) σ=(a σ).bind (Ai 1 b$ (B.C i).D$ P i))/\∀ σ,b [(B.C i).D$ P i] σ=U (B.C i).tl σ:=by
  cases B.C i with
  |held=>exact⟨SC,λa σ=>Xp (Wp rfl) rfl rfl,λσ=>by unfold SC Pf;simp[Cl.tl]⟩
  |laid s x y=>
   refine⟨WC,λa σ=>Xp (Wp rfl) rfl rfl,λσ=>?_⟩;have k:=bS s x y$ P i;have e:=cr x;unfold WC Pf;dsimp only;show _=U (ϒ [ϐ "laid",Z s,x.D,Z y]) σ;generalize (Cl.laid s x y).D _=BD,x.D=j at *;simp[k,e]
  |taken s=>
   refine⟨bF,λa σ=>Xp (Wp rfl) rfl rfl,λσ=>?_⟩;have f:∀ σ,Cc [5,6,7,8,13,14] "side" ((Cl.taken s).D$ P i) σ=U _ σ:=λσ=>Ph (Wp rfl) rfl rfl;unfold bF Cl.tl Pf;dsimp only;generalize (Cl.taken s).D _=BD at *;simp[f]
 obtain⟨b,m,t⟩:=m;unfold Zn Pf;dsimp only;generalize (B.C i).D (P i)=BD,(B.C i).tl=g at *;simp[F,(yB h d),m,t,ct]
end
@[simp] theorem zo4 b f d c a e:lV b f d c a e=Yl a (AF a b f d) (c a e):=Gm ..
theorem E6{xs}(h:a[n]?=SY (ώ xs))(b:i<xs.length):Xv ρ d (Y n) (Z i) a=U (Ϙ ρ) (a.set n$ ώ$ xs.set i d):=by
 unfold Xv iA;have l:Ce a n=SY xs:=by unfold Ce;rw[h]
 have e:Yp xs.length i=SY i:=by unfold Yp;rw[na ⋯,na ⋯];simp
 simp_all
def EK(p:Pt) a:Qf [p.D] a=U (Z$ p.u+p.v) a:=by
 have h:=p.i a;unfold Qf Lc;dsimp only
 simp_all
def pR(h:s=0\/s=1) a:Dh [Z s] a=U Ϛ a:=by
 unfold Dh Lc;simp[(NK h a)]
def EO(b:[11,12,13,14].contains c=U2) T a:zx [Y a.length,Z T] (a++[ϔ c []])=U Ϛ (a++[ϔ c [("whole",Z T)]]):=by
 have p:Ih "whole" (Z T) []=([("whole",Z T)]:List (Str × D)):=rfl;unfold zx Ff;simp[(SB (f:="whole") (d:=Z T) (c:=c) (fs:=[]) b _),p]
theorem t5 p a:lg a (Jl 12 2 zx [Z$ p.u+p.v] a)=U (Cl.held.D p) a:=by
 rw[tK,EO rfl,yz,pH ⋯];rfl
theorem y9 p s y x g:lg g (Jl 13 6 xB [Z$ p.u+p.v,Z s,x.D,Z y,Z p.w] g)=U ((Cl.laid s x y).D p) g:=by
 have l:(Cl.laid s x y).D p=ϵ 13 ["whole","side","stand","day","wait"] [Z _,Z s,x.D,Z y,Z p.w]:=rfl;rw[l];generalize p.u+p.v=T,p.w=W;have E:=λ(j:gV) (k:j.contains 13=U2) (f:Str) (w:D) (h:List _) (m:h.length<1000)=>SB (ρ:=[SY$ Y g.length,SY$ Z T,SY$ Z s,SY x.D,SY$ Z y,SY$ Z W]) (σ:=g) (cs:=j) (f:=f) (d:=w) (c:=13) (fs:=h) k m;have n:∀ a b:D,Ih "side" b ([("whole",a)]:List (Str × D))=([("whole",a),_]:List (Str × D)):=λr r=>rfl;have o:∀ a b c:D,Ih "stand" c ([("whole",a),("side",b)]:List (Str × D))=([("whole",a),_,_]:List (Str × D)):=λr r r=>rfl;have q:∀ a b c d:D,Ih "day" d ([("whole",a),("side",b),("stand",c)]:List (Str × D))=([("whole",a),_,_,_]:List (Str × D)):=λr r r r=>rfl;have p4:∀ a b c d e:D,Ih "wait" e ([("whole",a),("side",b),("stand",c),("day",d)]:List (Str × D))=([("whole",a),("side",b),("stand",c),("day",d),("wait",e)]:List (Str × D)):=λr r r r r=>rfl;have i:xB [Y g.length,Z T,Z s,x.D,Z y,Z W] (g++[ϔ 13 []])=U Ϛ (g++[ϔ 13 [("whole",Z T),("side",Z s),("stand",x.D),("day",Z y),("wait",Z W)]]):=by
  unfold xB Ff;dsimp only;generalize x.D=X at *;simp[(EO (c:=13) rfl T g),E,n,o,q,p4]
 rw[ZS,i,yz,pH (by simp[(cr x)])];rfl
theorem K9 p s e:lg e (Jl 14 3 OD [Z$ p.u+p.v,Z s] e)=U ((Cl.taken s).D p) e:=by
 have k:(Cl.taken s).D p=ϵ 14 ["whole","side"] [Z _,Z s]:=rfl;rw[k];generalize p.u+p.v=T;have m:∀ a b:D,Ih "side" b [("whole",a)]=([("whole",a),_]:List (Str × D)):=λn n=>rfl;have i:OD [Y e.length,Z T,Z s] (e++[ϔ 14 []])=U Ϛ (e++[ϔ 14 [("whole",Z T),("side",Z s)]]):=by
  unfold OD Ff;simp[(EO (c:=14) rfl T e),(λ(h:gV) (j:h.contains 14=U2) (f:Str) (w:D) (g:List _) (l:g.length<1000)=>SB (ρ:=[SY$ Y e.length,SY$ Z T,SY$ Z s]) (σ:=e) (cs:=h) (f:=f) (d:=w) (c:=14) (fs:=g) j l),m]
 rw[bR,i,yz,pH ⋯];rfl
section
variable{c:Nat}{P:Nat->Pt}{B:Bs}{σ:Ga}(h:Fh c P B σ){i:Nat}(hi:i<2)
include h hi
theorem dT a:(∀ b,Xv b (a.D$ P i) (Y$ c+1) (Z i) σ=U (Ϙ b) (σ.set (c+1)$ ώ$ [(B.C 0).D$ P 0,(B.C 1).D$ P 1].set i$ a.D$ P i))/\Fh c P { B with C:=Fb B.C i a } (σ.set (c+1)$ ώ$ [(B.C 0).D$ P 0,(B.C 1).D$ P 1].set i$ a.D$ P i):=by
 refine⟨λb=>E6 h.h1 ⋯,⟨by rw[Za ⋯];exact h.h0,?_,by rw[Za ⋯];exact h.h2,λj d=>by rw[Za ⋯];exact h.h3 j d⟩⟩;rw[Ia$ (aa.mp h.h1).1];rcases(show i=0\/i=1 by lia)with rfl|rfl<;>rfl
theorem ŏ l:Fh c P { B with S:=Fb B.S i l }$ σ.set (c+3+i)$ Ϗ$ Zc l:=by
 have b:=(aa.mp$ h.h3 i hi).1;refine⟨by rw[Za ⋯];exact h.h0,by rw[Za ⋯];exact h.h1,by rw[Za ⋯];exact h.h2,λj a=>?_⟩;by_cases e:j=i
 ·subst e;rw[Ia b];show _=SY (Ϗ$ Zc$ Fb B.S j l j);rw[Wv]
 ·rw[Za ⋯];show _=SY (Ϗ$ Zc$ Fb B.S i l j);rw[ny _ _ e];exact h.h3 j a
theorem UK:Of σ (Y$ c+3+i)=SY (Zc$ B.S i):=by unfold Of;simp[h.h3 i hi]
theorem tU{w}(j:0<=w/\w<=59)(g:(B.S i).length<1000):∃ l,l=(if (vl (B.S i) w).isSome then B.S i else Nk (B.S i) w B.y)/\Zx [Y c,Z i,Z w] σ=U Ϛ (σ.set (c+3+i)$ Ϗ$ Zc l)/\Fh c P { B with S:=Fb B.S i l } (σ.set (c+3+i)$ Ϗ$ Zc l):=by
 refine⟨_,rfl,?_,ŏ h hi _⟩;have F:=Ew h hi;have f:=λσ=>YQ j σ;have a:oq (Z w) (Y$ c+3+i) σ=U (ϓ$ !(vl (B.S i) w).isSome) σ:=by
  unfold oq;simp only[Jk,UK h hi,pF]
  simp_all
 have m:σ.set (c+3+i) (Ϗ$ Zc$ B.S i)=σ:=by
  obtain⟨k,e⟩:=aa.mp (h.h3 i hi);rw[<-e];exact Qq k
 unfold Zx Ff;cases b:(vl _ w).isSome with
 |true=>rw[b]at a;rw[na rfl,m];simp[F,(yB h hi),f,a]
 |false=>
  rw[b]at a;rw[ya ⋯,<-HJ];simp[F,(yB h hi),f,a,(λn=>nt (d:=Z B.y) (w:=w) (h.h3 i hi) (by unfold Zc;simpa using g))]
end
section
variable{c:Nat}{P:Nat->Pt}{B:Bs}{σ:Ga}(h:Fh c P B σ)
include h
theorem g8:∃ o,xz [Y c] σ=U Ϛ (σ.set c o)/\Fh c P { B with y:=B.y+1 } (σ.set c o):=by
 refine⟨ϔ 15$ yx c P$ B.y+1,?_,?_⟩
 ·have a:∀ b:Ev,AF b [13,15] "day" (eC$ Z 1) _ σ=U _ (σ.set c$ ϔ 15$ yx c P _):=λb=>by
   have lk:List.lookup ("day" : Str) (yx c P B.y)=SY _:=rfl;unfold AF;rw[(MN h)];simp only[lk];rw[Gm,ZR,qm];unfold nL;simp only[h.h0];rfl
  unfold xz Ff;dsimp only
  simp_all
 ·exact⟨by rw[Ia$ (aa.mp h.h0).1],by rw[Za ⋯];exact h.h1,by rw[Za ⋯];exact h.h2,λj d=>by rw[Za ⋯];exact h.h3 j d⟩
end
def C1(x y:Sn) a:∃ b,Hh x.D y.D a=U (ϓ b) a:=(GO a 8 _ _ (VI 5 x)$ VI 5 y).imp λd h=>uB h
section
variable{c:Nat}{P:Nat->Pt}{B:Bs}{σ:Ga}(h:Fh c P B σ){i:Nat}(hi:i<2){s:Int}(hs:s=0\/s=1){x:Sn}(hx:x.Ok$ (P i).u+(P i).v)
include h hi hs hx
theorem ZW(l:(P i).Ok)(J:B.C i=.held){G}(I:x.D=Pj 0 (P i).u (P i).v []\/G=ag i (1 - s) x.D):∃ o,qe [Y c,Z i,Z s,x.D,G] σ=U Ϛ (σ.set (c+1) o)/\Fh c P { B with C:=Fb B.C i (.laid s x B.y) } (σ.set (c+1) o):=by
 obtain⟨M,g⟩:=dT h hi (.laid s x B.y);refine⟨_,?_,g⟩;have F:=Ew h hi;rw[J]at F;have j:=(P i).i;have N:=λσ=>EK (P i) σ;have r:=λσ=>yK hx.st σ;rw[hx.w]at r;have mk:=λσ=>y9 (P i) s B.y x σ;have m:∀ σ,kD (lx [(6,ŝ),(7,ŝ),(8,ŝ),(9,ŝ),(10,ŝ),(12,U2),(13,ŝ),(14,ŝ),(15,ŝ)]) (Cl.held.D$ P i) σ=U (ϓ U2) σ:=λσ=>L0 (Wp rfl) rfl;have k:=λσ=>wS l.u l.v σ;have K:dD [Y c,Z i,Z s,x.D,G] σ=U (ϓ U2) σ:=by
  have d:(∃ b,Hh x.D (Pj 0 (P i).u (P i).v []) σ=U (ϓ b) σ/\(b=U2\/Vk [Z i,Z s,x.D,G] σ=U (ϓ U2) σ)):=by
   rcases I with e|rfl
   ·exact⟨U2,by rw[e];exact cD (by simp[pla,plb,plc,pld,ple,Pj]),ϑ rfl⟩
   ·obtain⟨b,d⟩:=C1 x ⟨0,(P i).u,(P i).v,[]⟩ σ;refine⟨b,d,ϕ ?_⟩;have t:Oe [ag i (1 - s) x.D] σ=U (ϓ U2) σ:=by
     have E:=eE hx.st σ;have H:=λX=>EH (p:=i) ⋯ σ (q:=1 - s) ⋯ (ϐ "agree") X;unfold Sn.D ag Oe Lc;simp[E,H]
    have L:=aX s σ;have A:Hh (ag i (1 - s) x.D) (ϒ [ϐ "agree",Z i,Z$ 1 - s,x.D]) σ=U (ϓ U2) σ:=cD (x:=ag i (1 - s) x.D)$ zF 4 _ _ _;unfold Vk Lc;dsimp only;generalize ag i (1 - s) x.D=AG,x.D=X at *;simp[t,L,A]
  apply b_;intro z_;obtain⟨b,d,f⟩:=d;apply z_;unfold dD Pf;dsimp only;generalize Cl.held.D (P i)=BD,x.D=X,Pj 0 (P i).u (P i).v []=FS at *;generalize (P i).D=z at *;rcases f with rfl|f
  ·simp[F,m,j,k,d]
  ·cases b<;>simp[F,m,j,k,d,f]
 unfold qe GW;generalize σ.set (c+1) (ώ$ [(B.C 0).D$ P 0,(B.C 1).D$ P 1].set i$ (Cl.laid s x B.y).D$ P i)=O at *;generalize (Cl.laid s x B.y).D (P i)=Q at *;unfold Sn.D at *;generalize Pj x.n x.a x.b x.ts=X,(P i).D=z at *;simp[F,(yB h hi),K,j,N,(λσ=>pR hs σ),r,mk,M,-Lake.ZS]
theorem Q8{y}(z:B.C i=.laid (1 - s) x y)(l:B.y<y+(P i).w):∃ o,QA [Y c,Z i,Z s,Si i (1 - s) x.n] σ=U Ϛ (σ.set (c+1) o)/\Fh c P { B with C:=Fb B.C i (.taken s) } (σ.set (c+1) o):=by
 obtain⟨K,f⟩:=dT h hi _;refine⟨_,?_,f⟩;have F:=Ew h hi;rw[z]at F;have N:=λσ=>EK (P i) σ;have mk:=λσ=>K9 (P i) s σ;have m:∀ e σ,Pk [(13,DB)] 5 "may_strike" e ((Cl.laid (1 - s) x y).D$ P i) σ=(e σ).bind (Ai 5 DB$ (Cl.laid (1 - s) x y).D$ P i):=λe σ=>Xp (Wp rfl) rfl rfl;have E:∀ (g:i'->M D) (x a b c d:D) σ,Ai 5 g x [a,b,c,d] σ=g [x,a,b,c,d] σ:=λg x a b c d σ=>Iy rfl;have H:∀ σ,DB [(Cl.laid (1 - s) x y).D$ P i,Z i,Z s,Z B.y,Si i (1 - s) x.n] σ=U (ϓ U2) σ:=λσ=>by
  have k:=bS (1 - s) x y$ P i;have G:∀ e σ,Pk [(13,VA)] 2 "waits" e ((Cl.laid (1 - s) x y).D$ P i) σ=(e σ).bind (Ai 2 VA$ (Cl.laid (1 - s) x y).D$ P i):=λe σ=>Xp (Wp rfl) rfl rfl;have O:∀ σ,VA [(Cl.laid (1 - s) x y).D$ P i,Z B.y] σ=U (ϓ U2) σ:=λσ=>by
   have b:decide (B.y<y+(P i).w)=U2:=zf l;unfold VA Pf;dsimp only;generalize (Cl.laid (1 - s) x y).D (P i)=j at *;simp[k,l]
  have J:=λσ=>aX (1 - s) σ;have I:∀ σ,ah (Z s) (Z$ 1 - (1 - s)) σ=U (ϓ ŝ) σ:=λσ=>by
   rw[show 1 - (1 - s)=s by omega];exact sv (by simp[pla,plb,plc,pld,ple])
  have L:∀ σ,Oe [Si i (1 - s) x.n] σ=U (ϓ U2) σ:=λσ=>by
   have u:=yO hx.st.n σ;have v:=λX=>EH (p:=i) ⋯ σ (q:=1 - s) ⋯ (ϐ "strike") X;unfold Si Oe Lc;simp[u,v]
  have A:=λσ=>s0 x σ;have t:∀ σ,Hh (Si i (1 - s) x.n) (ϒ [ϐ "strike",Z i,Z$ 1 - s,Z x.n]) σ=U (ϓ U2) σ:=λσ=>cD (x:=Si i (1 - s) x.n) (by simp[pla,plb,plc,pld,ple,Si]);unfold DB Pf;dsimp only;generalize (Cl.laid (1 - s) x y).D (P i)=j,Si i (1 - s) x.n=r,x.D=T at *;simp[k,G,O,J,I,L,A,t]
 unfold QA Ff;dsimp only;generalize σ.set (c+1) (ώ$ [(B.C 0).D$ P 0,(B.C 1).D$ P 1].set i$ (Cl.taken s).D$ P i)=Q at *;generalize (Cl.taken s).D (P i)=S,(Cl.laid (1 - s) x y).D (P i)=j,Si i (1 - s) x.n=r at *;generalize (P i).D=R at *;simp[F,(yB h hi),N,(λσ=>pR hs σ),mk,m,E,H,K,-Lake.bR]
end
def YI{rest}(g:ds[i]?=SY d)(h:c (SY d::ń::rest) a=U y σ1)(f:Pg (Y n) [y] σ1=U Ϛ σ2) :
  Lg (Qg.seq ds).nx n (jc 0) Ej c (k+1) i (o::ń::rest) a=Lg (Qg.seq ds).nx n (jc 0) Ej c k (i+1) (SY d::ń::rest) σ2:=by
 rw[Lg];have e:(Qg.seq ds).nx i a=SY (SY d):=by show SY ds[i]?=_;rw[g]
 have t:jc 0 d (o::ń::rest)=SY (SY d::ń::rest):=rfl;have b:Ej (SY d::ń::rest) a=U U2 a:=rfl;simp only[e,t];rw[Ii,uu b,zd,na rfl,Ii,uu h,zd,Ii,f,zd]
def OR(d:a[i]?=ń):Lg (Qg.seq a).nx n (jc 0) Ej c (k+1) i ρ b=U () b:=by
 rw[Lg];have e:(Qg.seq a).nx i b=SY ń:=by show SY a[i]?=_;rw[d]
 simp[e]
def P6{p:Pt}(h:p.Ok)(k:0<=p.l/\p.l<=3)(n:0<=p.r/\p.r<=3)(m:p.l≠p.r)(o:1<=p.w/\p.w<=100) f:Dd [p.D] f=U (ϓ U2) f:=by
 have g:∀ {i:Int},0<=i/\i<=3->Kn [Z i] f=U (ϓ U2) f:=fun {i} j=>by
  have b:=bt j f;unfold Kn Lc;simp[b]
 have s:ah (Z p.l) (Z p.r) f=U _ f:=wu (b:=ŝ) (by simp[eqa,eqb,eqc,eqd,m]);have q:∀ a b c d e:D,Cb (ϒ [a,b,c,d,e]) _ f=U e f:=λa b c d e=>Ī ..;unfold Dd Pt.D Lc;simp -implicitDefEqProofs[(g k),(g n),(bt h.u f),(bt h.v f),(bt o f),s,q]
def DY(b:∀ a,Dd [A] a=U (ϓ U2) a)(c:∀ a,Dd [C] a=U (ϓ U2) a)(e:cl A=U2)(f:cl C=U2) a:qi [ύ [A,C]] a=U (ύ [A,C]) a:=by
 have st:∀ k (X:D),k=0\/k=1->(∀ a,Dd [X] a=U (ϓ U2) a)->KN [SY$ ύ [A,C],SY$ Z k,SY X] a=U (Ϙ [SY$ ύ [A,C],SY$ Z k,SY X]) a:=λk X d h=>by
  rcases d with rfl|rfl<;>simp[h]
 have m:Vp (Fu$ ύ [A,C]) (rl 2$ Vf (jc 1)$ Vf (jc 2) cm) KN 1001 0 [SY$ ύ [A,C],ń,ń] a=U (Ϙ [SY$ ύ [A,C],SY$ Z 1,SY C]) a:=by
  rw[xx (k:=1000) (dI (xs:=[A,C]) (i:=0) rfl rfl) (ρ1:=[SY _,SY$ Z 0,SY A]) rfl,st 0 A (ϑ rfl) b,zd,Vm];rw[xx (k:=999) (dI (xs:=[A,C]) (i:=1) rfl rfl) (ρ1:=[SY _,SY$ Z 1,SY C]) rfl,st 1 C (ϕ rfl) c,zd,Vm];exact yF (k:=998)$ WP (x:=ύ [A,C]) (xs:=[A,C]) rfl
 have g:∀ a,jA _ a=U (Fu$ ύ [A,C]) a:=λa=>uR (xs:=[A,C]) rfl;have j:∀ (tg:D->Ev->Option Ev) (body:Ev->M Fl) (ρ:Ev) (nx:NX),oJ tg body ρ nx=Vp nx tg body 1001 0 ρ:=λn n n n=>rfl;have l:=wB (xs:=[A,C]) ⋯ a;unfold qi jU Lc;dsimp only
 simp_all
section
variable{M0:Ga}{c:Nat}(h7:M0.length=c)
include h7
theorem cJ ρ b f d a r(i:b.contains 15=U2)(j:a.length<1000):Vr ρ b f d (Y c) (M0++ϔ 15 a::r)=U (Ϙ ρ) (M0++ϔ 15 (Ih f d a)::r):=by
 have e:iw b f d (Y c) (M0++ϔ 15 a::r)=U () (M0++ϔ 15 (Ih f d a)::r):=by
  have g:(M0++ϔ 15 a::r)[c]?=SY (ϔ 15 a):=by rw[Gb ⋯,h7];simp
  have h:(M0++ϔ 15 a::r).set c (ϔ 15$ Ih f d a)=M0++ϔ 15 (Ih f d a)::r:=by rw[Wf _ _ ⋯,h7];simp
  unfold iw;simp only[g];rw[na ⋯,h]
 unfold Vr;rw[e]
theorem ES{b}{xs} a{r d}(h:xs.length<9):Pg (Y$ c+1+r.length) [a] (M0++ϔ 15 b::(r++ώ xs::d))=U Ϛ (M0++ϔ 15 b::(r++ώ (xs++[a])::d)):=by
 have f:(M0++ϔ 15 b::r).length=c+1+r.length:=by simp;lia
 have e:Ce (M0++ϔ 15 b::(r++ώ xs::d)) (c+1+r.length)=SY xs:=by
  unfold Ce;rw[show M0++ϔ 15 b::(r++ώ xs::d)=(M0++ϔ 15 b::r)++ώ xs::d by simp,Gb ⋯,f];simp
 have g:(M0++ϔ 15 b::(r++ώ xs::d)).set (c+1+r.length) (ώ$ xs++[a])=M0++ϔ 15 b::(r++ώ (xs++[a])::d):=by
  rw[show M0++ϔ 15 b::(r++ώ xs::d)=(M0++ϔ 15 b::r)++ώ xs::d by simp,Wf _ _ ⋯,f];simp
 unfold Pg;simp[e];rw[na (by unfold Uf;lia),g]
theorem AQ{A C a b}{fe}{fs}{r r0 r1}(h:fs.lookup ("pots" : Str)=SY (ύ [A,C]))(e:fe [SY A,ń] (M0++ϔ 15 fs::(r++[ώ []]))=U a (M0++ϔ 15 fs::(r++ώ []::r0)))(f:fe [SY C,ń] (M0++ϔ 15 fs::(r++ώ [a]::r0))=U b (M0++ϔ 15 fs::(r++ώ [a]::r1))) :
  Ei (Jj$ kg$ be (Cc [9,15] "pots")$ ka 0) [] (jc 0) Ej fe [SY$ Y c,SY$ ύ [A,C]] (M0++ϔ 15 fs::r)=U (Y$ c+1+r.length) (M0++ϔ 15 fs::(r++ώ [a,b]::r1)):=by
 have g:∀ r,Cc [9,15] "pots" (Y c) _=U _ (M0++ϔ 15 fs::r):=λr=>Ph (c:=15) (fs:=fs) (by unfold di;dsimp only;rw[Gb ⋯,h7];simp) rfl h;have j:kg (be (Cc [9,15] "pots")$ ka 0) [SY$ Y c,SY$ ύ [A,C]] (M0++ϔ 15 fs::r)=U (.seq [A,C]) (M0++ϔ 15 fs::r):=by
  have g:=g r;generalize M0++ϔ 15 fs::r=ϋ at *;simp[g]
 have i:(M0++ϔ 15 fs::r).length=c+1+r.length:=by simp;lia
 show Ic (Ic _ eD) (VU (jc 0) Ej fe$ yC [] _) (M0++ϔ 15 fs::r)=_;rw[Ii,Ii,j,zd];show Ic (Lg (Qg.seq [A,C]).nx (M0++ϔ 15 fs::r).length (jc 0) Ej fe 1001 0 [ń,ń]) (λk=>ret$ Y (M0++ϔ 15 fs::r).length) (M0++ϔ 15 fs::r++[ώ []])=_;rw[i,Ii,show M0++ϔ 15 fs::r++[ώ []]=M0++ϔ 15 fs::(r++[ώ []]) by simp,YI (d:=A) rfl e (show Pg _ _ _=U Ϛ (M0++ϔ 15 fs::(r++ώ [a]::r0))from ES h7 a ⋯),YI (d:=C) rfl f (show Pg _ _ _=U Ϛ (M0++ϔ 15 fs::(r++ώ [a,b]::r1))from ES h7 b ⋯),OR rfl,zd];rfl
theorem zY{P}(m:∀ i,i<2->∀ d,Dd [(P i).D] d=U (ϓ U2) d):∃ J,Jl 15 2 lB [ύ [(P 0).D,(P 1).D]] M0=U (Y c) (M0++J)/\Fh c P ⟨0,λx=>.held,λx=>[]⟩ (M0++J):=by
 refine⟨ϔ 15 (yx c P 0)::[ώ [Cl.held.D$ P 0,Cl.held.D$ P 1],ώ [Y$ c+3,Y$ c+4],Ϗ [],Ϗ []],?_,?_⟩
 ·have n:=λd=>DY (m 0$ by lia) (m 1$ by lia) (PM _) (PM _) d;have e:∀ (p:Pt) (d:Ga),Sh (Dq 12 2 zx$ Fa (Bf 1 Qf []$ Fa (ka 0) ib) ib) [SY p.D,ń] d=U (Cl.held.D p) d:=λp d=>by
   have u:=t5 p d;have v:=λd=>EK p d;generalize Cl.held.D p=O,p.D=P at *;simp[v,u,-tK]
  have f:=AQ h7 (A:=(P 0).D) (C:=(P 1).D) (fe:=Sh$ Dq 12 2 zx$ Fa (Bf 1 Qf []$ Fa (ka 0) ib) ib) (fs:=[("pots",ύ [(P 0).D,(P 1).D]),("day",Z 0)]) (r:=[]) (r0:=[]) (r1:=[]) rfl (e _ _)$ e _ _;have j:=AQ h7 (A:=(P 0).D) (C:=(P 1).D) (fe:=ir) (a:=Y$ c+3) (b:=Y$ c+4) (fs:=[("pots",ύ [(P 0).D,(P 1).D]),("day",Z 0),("claims",Y (c+1))]) (r:=[ώ [Cl.held.D$ P 0,Cl.held.D$ P 1]]) (r0:=[Ϗ []]) (r1:=[Ϗ [],Ϗ []]) rfl (by rw[UR];simp[h7]) (by rw[UR];simp[h7]);rw[tK,h7];have h:lB [Y c,ύ [(P 0).D,(P 1).D]] (M0++[ϔ 15 []])=U Ϛ (M0++ϔ 15 (yx c P 0)::[ώ [Cl.held.D$ P 0,Cl.held.D$ P 1],ώ [Y$ c+3,Y$ c+4],Ϗ [],Ϗ []]):=by
   unfold lB yx Ff
   (try dsimp only);rw[zp,uA]
   show Jp (Sb _ _ [SY$ Y c,SY$ ύ [(P 0).D,(P 1).D]]$ M0++ϔ 15 []::[])=_;generalize ύ [(P 0).D,(P 1).D]=L at *;have o:Ih "pots" L []=([("pots",L)]:List (Str × D)):=rfl;have q:Ih "day" (Z 0) [("pots",L)]=([("pots",L),("day",Z 0)]:List (Str × D)):=rfl;have s:Ih "claims" (Y$ c+1) [("pots",L),("day",Z 0)]=([("pots",L),("day",Z 0),("claims",Y (c+1))]:List (Str × D)):=rfl;have t:Ih "shown" (Y$ c+2) [("pots",L),("day",Z 0),("claims",Y (c+1))]=([("pots",L),("day",Z 0),("claims",Y (c+1)),("shown",Y (c+2))]:List (Str × D)):=rfl;rw[Zf];simp only[vD,WR,hO,VN,Oy,zd,KO,eO,sL,Å,n,qm,NF];rw[cJ h7 _ _ _ _ _ _ rfl ⋯,o,zd,ug,Zf];simp only[vD,ZR,Oy,qm,NF];rw[cJ h7 _ _ _ _ _ _ rfl ⋯,q,zd,ug,Zf];rw[vD,f,qm,NF,Oy,qm];show Jp ((Vr _ _ "claims" (Y$ c+1) (Y c)$ M0++ϔ 15 _::[ώ [Cl.held.D$ P 0,Cl.held.D$ P 1]]).bind _)=_;rw[cJ h7 _ _ _ _ _ _ rfl ⋯,s,zd,ug];rw[vD,j,qm,NF,Oy,qm];show Jp (Vr _ _ "shown" (Y$ c+2) (Y c)$ M0++ϔ 15 _::[ώ [Cl.held.D$ P 0,Cl.held.D$ P 1],ώ [Y$ c+3,Y$ c+4],Ϗ [],Ϗ []])=_;rw[cJ h7 _ _ _ _ _ _ rfl ⋯,t,EM]
  rw[h,yz]
 ·have g:∀ (k:Nat) (l:Ga),(M0++l)[c+k]?=l[k]?:=λk l=>by rw[Gb ⋯,h7];congr 1;lia
  refine⟨?_,?_,?_,λi w=>?_⟩
  ·exact g 0 _
  ·rw[g];rfl
  ·rw[g];rfl
  ·rw[show c+3+i=c+(3+i) by lia,g];rcases(show i=0\/i=1 by lia)with rfl|rfl<;>rfl
end
def bf(l m:List$ Int × Int):List$ Int × Int:=m.foldl (λa p=>Nk a p.1 p.2) l
theorem w8 l m:ZE (Zc l) (Zc m)=Zc (bf l m):=by
 unfold ZE bf;induction m generalizing l with
 |nil=>rfl
 |cons p m a=>show List.foldl _ (Ji _ _ _) (Zc m)=_;rw[HJ,a];rfl
def uz l m:(bf l m).length<=l.length+m.length:=by
 unfold bf;induction m generalizing l with
 |nil=>simp
 |cons p m a=>have b:=a$ Nk l p.1 p.2;have c:=PH l p.1 p.2;simp;lia
theorem IS:∀ l:List$ Int × Int,Cv (Zc l)=SY (l.map (·.1))
 |[]=>rfl
 |p::l=>by show (Cv$ Zc l).map _=_;rw[IS l];rfl
def nk(l:List$ Int × Int):em:=pp (l.map (·.1))
section
variable{c:Nat}{P:Nat->Pt}{B:Bs}{σ:Ga}(h:Fh c P B σ)
include h
theorem ZL{i:Nat}(a:i<2):Yv [Y c,Z i] σ=U (Y σ.length) (σ++[Ϗ$ Zc$ B.S i]):=by
 have b:cC [Y$ c+3+i] σ=U (Y σ.length) (σ++[Ϗ$ Zc$ B.S i]):=by unfold cC;simp[UK h a]
 unfold Yv Ff;simp[(yB h a),(Ew h a),b]
theorem BP(j:(B.S 0).length+(B.S 1).length<64):Vx [Y c] σ=U (ύ$ (nk$ bf (bf []$ B.S 0)$ B.S 1).map Z) σ:=by
 have F:c+4<σ.length:=(aa.mp$ h.h3 1$ by omega).1;have q:∀ l:List$ Int × Int,(σ++[Ϗ$ Zc l])[σ.length]?=SY (Ϗ$ Zc l):=λl=>by simp
 have st:∀ (i:Nat) (l:List$ Int × Int),i<2->l.length+(B.S i).length<64->jy [SY$ Y c,SY$ Y σ.length,SY$ Y$ c+3+i] (σ++[Ϗ$ Zc l])=U (Ϙ [SY$ Y c,SY$ Y σ.length,SY$ Y$ c+3+i]) (σ++[Ϗ$ Zc$ bf l$ B.S i]):=λi l t j=>by
  have g:∀ f,vA Wz f (Y σ.length) (σ++[Ϗ$ Zc l])=(f$ σ++[Ϗ$ Zc l]).bind (Wz$ Y σ.length):=λf=>by
   have:Of (σ++[Ϗ$ Zc l]) (Y σ.length)=SY (Zc l):=by unfold Of;simp
   unfold vA;rw[this];rfl
  have C:Wz (Y σ.length) [Y$ c+3+i] (σ++[Ϗ$ Zc l])=U Ϛ (σ++[Ϗ$ Zc$ bf l$ B.S i]):=by
   have p:=UK (h.app [Ϗ$ Zc l]) t;have w:apart σ.length (Y$ c+3+i)=U2:=by
    have:¬ c+3+i=σ.length:=by omega
    simp[apart,this]
   have u:(Zc l).length+(Zc$ B.S i).length<=Uf:=by unfold Zc Uf;simp;omega
   unfold Wz;simp only[q,p,w];rw[na (by simpa using u),w8];simp
  unfold jy;generalize σ++[Ϗ$ Zc$ bf l$ B.S i]=m at *;generalize σ++[Ϗ$ Zc l]=ϋ at *;simp[g,C]
 have b:∀ l,Ce (σ++[Ϗ$ Zc l]) (c+2)=SY [Y$ c+3,Y$ c+4]:=λl=>by unfold Ce;rw[bj h.h2]
 have v:Ar (jc 2) jy (c+2) 1001 0 [SY$ Y c,SY$ Y σ.length,ń] (σ++[Ϗ$ Zc []])=U (Ϙ [SY$ Y c,SY$ Y σ.length,SY$ Y$ c+4]) (σ++[Ϗ$ Zc$ bf (bf []$ B.S 0)$ B.S 1]):=by
  rw[Ar];simp only[b];show (jy [SY$ Y c,SY$ Y σ.length,SY$ Y$ c+3+0]$ σ++[Ϗ$ Zc []]).bind _=_;rw[st 0 [] ⋯ (by simp;omega),zd,Vm,Ar];simp only[b];show (jy [SY$ Y c,SY$ Y σ.length,SY$ Y$ c+3+1]$ σ++[Ϗ$ Zc$ bf []$ B.S 0]).bind _=_;rw[st 1 _ ⋯ (by have:=uz []$ B.S 0;simp at this;omega),zd,Vm,Ar];simp only[b];rfl
 have z:mx (Y$ c+2) (σ++[Ϗ$ Zc []])=U (.Ml$ c+2) (σ++[Ϗ$ Zc []]):=by
  unfold mx;simp only[b]
 have r:∀ k,UE (jc 2) jy k (.Ml$ c+2)=Ar (jc 2) jy (c+2) 1001 0 k:=λD=>rfl;have x:=(Ew (h.app [Ϗ$ Zc []]) (i:=0)$ by lia).2.2.2.1;have y:∀ l:List$ Int × Int,l.length<64->lg (σ++[Ϗ$ Zc l]) (Ws [Y σ.length]$ σ++[Ϗ$ Zc l])=U (ύ$ (nk l).map Z) (σ++[Ϗ$ Zc l]):=λl j=>by
  have e:wf (σ++[Ϗ$ Zc l]) (Y σ.length)=ń:=by unfold wf Ce;simp
  have d:Of (σ++[Ϗ$ Zc l]) (Y σ.length)=SY (Zc l):=by unfold Of;simp
  have o:Ws [Y σ.length] (σ++[Ϗ$ Zc l])=U (Y (σ++[Ϗ$ Zc l]).length) (σ++[Ϗ$ Zc l]++[ώ$ (nk l).map Z]):=by
   unfold Ws;simp only[e];unfold nB;simp only[d,IS];rw[na (by simpa using j)];rfl
  rw[o];exact Ax (CH λD=>by simp)
 have A:=y (bf (bf []$ B.S 0)$ B.S 1) (by have g:=uz []$ B.S 0;have E:=uz (bf []$ B.S 0)$ B.S 1;simp at g;omega);have n:cl (ύ$ (nk$ bf (bf []$ B.S 0)$ B.S 1).map Z)=U2:=by show xf _=U2;exact CH λD=>by simp
 have fz:=MI (σ:=σ) (a:=Ϗ$ Zc$ bf (bf []$ B.S 0)$ B.S 1) n;have s:(σ++[Ϗ []]:Ga)=σ++[Ϗ$ Zc []]:=rfl;unfold Vx GP Pf;dsimp only;generalize ύ ((nk$ bf (bf []$ B.S 0)$ B.S 1).map Z)=W at *;generalize σ++[Ϗ$ Zc$ bf (bf []$ B.S 0)$ B.S 1]=m at *;generalize σ++[Ϗ$ Zc []]=ϋ at *;simp[s,x,z,r,v,A,fz]
end
@[simp] theorem zvz{e} d x a b c:Ai 4 d x [a,b,c] e=d [x,a,b,c] e:=Iy rfl
noncomputable def cS(u v:Int):Sn:=⟨0,u,v,[]⟩
def z9{a L:Ga} x:(a++L).set a.length x=a++L.set 0 x:=by simp
def e6 q{u v}(a:0<=u/\u<=1000000000000)(b:0<=v/\v<=1000000000000):SO (u+v) q$ cS u v:=⟨⟨⟨by show 0<=0/\0<=1000000;lia,by show 0<=u/\u<=2000000000000;lia,by show 0<=v/\v<=2000000000000;lia,by simp[cS],by simp[cS],by simp[cS]⟩,by simp[cS,yo]⟩,by simp[cS]⟩
def C6{p q u v}(b:0<=p/\p<=2)(c:q=0\/q=1)(d:0<=u/\u<=1000000000000)(e:0<=v/\v<=1000000000000) a:Qd [Z p,Z q,Z u,Z v] a=U (Y a.length) (a++[ϔ 6 (Lb p q (cS u v) Ϛ []).fs]):=by
 have f:Xl [Z u,Z v] a=U (cS u v).D a:=wS d e a;have mk:Jl 6 7 Np [Z p,Z q,(cS u v).D,Ϛ,ύ [(cS u v).D],ύ []] a=U _ (a++[ϔ 6 (Lb p q _ Ϛ []).fs]):=ND (ku (m:=cS u v) b c rfl rfl) a;unfold Qd uU
 simp_all
abbrev K7(e:Int)(K:em)(a:List Ka)(j:Ga):Ga:=ϔ 10 (wm 0 e)::Ϗ (yj K)::Ϗ (AV a)::Ϗ (CV a)::Ϗ (SV a)::Ϗ []::Ϗ []::j
section
variable{e:Int}{r:Ga}
def UJ{a}{f}{d}(b:a.contains 10=U2)(c:(wm 0 e).lookup f=SY d):Cc a f (Y 0) (ϔ 10 (wm 0 e)::r)=U d (ϔ 10 (wm 0 e)::r):=Ph rfl b c
def dQ x n a(c:((wm 0 e).lookup x=ń)⁻¹) b:Pk [(10,a)] n x b (Y 0) (ϔ 10 (wm 0 e)::r)=(b$ ϔ 10 (wm 0 e)::r).bind (Ai n a$ Y 0):=Xp rfl rfl c
end
def ĕ{e}{K}{b}{j}{m}{a}(l:j[m]?=SY (ϔ a.c a.fs))(n:a.Ok)(d:∀ y∈b,y.2.p≠a.p)(w:b.length<=2):mC [Y 0,Y$ m+7,.gt ["held"],Ϭ [] []] (K7 e K b j)=U Ϛ (K7 e K (b++[(m+7,a)]) j):=by
 have f:∀ A B C:Ob,Cc [5,6,7,8] "pot" (Y$ m+7) _=U _ (ϔ 10 (wm 0 e)::Ϗ (yj K)::A::B::C::Ϗ []::Ϗ []::j):=λA B C=>aD (show Bi _ _ a from l) n;have s:∀ F:Ka->D,Ji (b.map λx=>((.inl x.2.p:Vc),F x)) _ (F _)=(b++[(m+7,a)]).map λx=>((.inl x.2.p:Vc),F x):=λF=>by
  rw[GS _ λz q g=>by
   obtain⟨x,o,rfl⟩:=Xa.mp q;exact d x o (by simpa using g),List.map_append];rfl
 have t:∀ (B C:Ob) ρ,wo ρ _ (Y 2) (Z a.p) (ϔ 10 (wm 0 e)::Ϗ _::Ϗ (AV b)::B::C::Ϗ []::Ϗ []::j)=U (Ϙ ρ) (ϔ 10 (wm 0 e)::Ϗ (yj K)::Ϗ (AV$ b++[(m+7,a)])::B::C::Ϗ []::Ϗ []::j):=λB C ρ=>by
  rw[nt (kvs:=AV b) rfl (by simp[AV];lia)];unfold AV;rw[s λx=>Y x.1];rfl
 have u:∀ (A C:Ob) ρ,wo ρ (.gt ["held"]) (Y 3) (Z a.p) (ϔ 10 (wm 0 e)::Ϗ (yj K)::A::Ϗ (CV b)::C::Ϗ []::Ϗ []::j)=U (Ϙ ρ) (ϔ 10 (wm 0 e)::Ϗ (yj K)::A::Ϗ (CV$ b++[(m+7,a)])::C::Ϗ []::Ϗ []::j):=λA C ρ=>by
  rw[nt (kvs:=CV b) rfl (by simp[CV];lia)];unfold CV;rw[s λz=>.gt ["held"]];rfl
 have v:∀ (A B:Ob) ρ,wo ρ (Ϭ [] []) (Y 4) (Z a.p) (ϔ 10 (wm 0 e)::Ϗ (yj K)::A::B::Ϗ (SV b)::Ϗ []::Ϗ []::j)=U (Ϙ ρ) (ϔ 10 (wm 0 e)::Ϗ (yj K)::A::B::Ϗ (SV$ b++[(m+7,a)])::Ϗ []::Ϗ []::j):=λA B ρ=>by
  rw[nt (kvs:=SV b) rfl (by simp[SV];lia)];unfold SV;rw[s λz=>Ϭ [] []];rfl
 have h:∀ r,Cc [10] "accounts" (Y 0) (ϔ 10 (wm 0 e)::r)=U (Y 2) (ϔ 10 (wm 0 e)::r):=λr=>UJ rfl rfl;have i:∀ r,Cc [10,15] "claims" (Y 0) (ϔ 10 (wm 0 e)::r)=U (Y 3) (ϔ 10 (wm 0 e)::r):=λr=>UJ rfl rfl;have k:∀ r,Cc [10] "seen" (Y 0) (ϔ 10 (wm 0 e)::r)=U (Y 4) (ϔ 10 (wm 0 e)::r):=λr=>UJ rfl rfl;unfold mC Ff;simp[f,t,u,v,h,i,k]
noncomputable abbrev sE(a b c:Option D)(p:Int)(P:Pt)(s:Option D):Ev:=[SY$ Y 0,SY$ Z 1,a,b,c,SY$ Z p,SY P.D,s]
section
variable{p:Int}{P:Pt}(A2 A3 A4 x7:Option D)
def AS a:Cb P.D (Z 0) a=U (Z P.l) a:=by unfold Pt.D;simp
def wP a:Cb P.D (Z 1) a=U (Z P.r) a:=by unfold Pt.D;simp
def OQ{a}{s x}(c:Cb P.D (Z s) a=U (Z x) a)(b:x≠1):AD (sE A2 A3 A4 p P$ SY$ Z s) a=U (Ϙ$ sE A2 A3 A4 p P$ SY$ Z s) a:=by
 have b:(x == 1)=ŝ:=by simp[b]
 simp[c,b]
def zV{c a b}(d:AD (sE A2 A3 A4 p P$ SY$ Z 0) c=U (Ϙ$ sE A2 A3 A4 p P$ SY$ Z 0) a)(e:AD (sE A2 A3 A4 p P$ SY$ Z 1) a=U (Ϙ$ sE A2 A3 A4 p P$ SY$ Z 1) b):WA (sE A2 A3 A4 p P x7) c=U (Ϙ$ sE A2 A3 A4 p P$ SY$ Z 1) b:=by
 simp_all
variable{e:Int}{K:em}{as:List Ka}{j:Ga}(hP:P.Ok)(hp:0<=p/\p<=2)(hnew:∀ y∈as,y.2.p≠p)(hn:as.length<=2)
include hP hp hnew hn
theorem XW{q}(b:q=0\/q=1)(f:∀ c,Cb P.D (Z q) c=U (Z 1) c):AD (sE A2 A3 A4 p P$ SY$ Z q) (K7 e K as j)=U (Ϙ$ sE A2 A3 A4 p P$ SY$ Z q) (K7 e K (as++[(j.length+7,Lb p q (cS P.u P.v) Ϛ [])])$ j++[ϔ 6 (Lb p q (cS P.u P.v) Ϛ []).fs]):=by
 have d:=C6 hp b hP.u hP.v$ K7 e K as j;have g:=ĕ (e:=e) (K:=K) (j:=j++[ϔ 6 (Lb p q (cS P.u P.v) Ϛ []).fs]) (m:=j.length) (a:=Lb p q (cS P.u P.v) Ϛ []) (by simp;rfl) (ku hp b rfl rfl) hnew hn;have h:=P.i;simp[f,h,d,(λr=>dQ (e:=e) (r:=r) "hold" 4 mC),g]
theorem ZP{q}(c:(q=0/\P.l=1/\P.r≠1)\/(q=1/\P.l≠1/\P.r=1)):WA (sE A2 A3 A4 p P x7) (K7 e K as j)=U (Ϙ$ sE A2 A3 A4 p P$ SY$ Z 1) (K7 e K (as++[(j.length+7,Lb p q (cS P.u P.v) Ϛ [])])$ j++[ϔ 6 (Lb p q (cS P.u P.v) Ϛ []).fs]):=by
 rcases c with⟨rfl,a,b⟩|⟨rfl,a,b⟩
 ·exact zV _ _ _ _ (XW _ _ _ hP hp hnew hn (ϑ rfl) λd=>by rw[AS,a])$ OQ _ _ _ (wP _) b
 ·exact zV _ _ _ _ (OQ _ _ _ (AS _) a) (XW _ _ _ hP hp hnew hn (ϕ rfl) λd=>by rw[wP,b])
end
def Y0{e}(m:1<=e/\e<=6){A C:Pt}(d:7<=A.w)(f:7<=C.w) c:Eh [Z 1,Z e,ύ [A.D,C.D]] c=U Ϛ c:=by
 have b:=bt (i:=e) (a:=1) (b:=50) ⋯ c;have st:∀ (y:Option D) (p:Pt),7<=p.w->aM [SY$ Z 1,SY$ Z e,SY$ ύ [A.D,C.D],SY p.D] c=U (Ϙ [SY$ Z 1,SY$ Z e,SY$ ύ [A.D,C.D],SY p.D]) c:=λy p n=>by
  have p4:=(p.i c).2.2;have j:mG p.D ń (SY 2) c=U (ϒ [Z p.l,Z p.r]) c:=nr rfl;obtain⟨B,i⟩:∃ B,Ht ŝ (Z 1) (ϒ [Z p.l,Z p.r]) c=U (ϓ B) c:=⟨_,XN (ws:=[p.l,p.r]) rfl⟩
  have h:decide (p.w<e+1)=ŝ:=re ⋯;generalize p.D=k at *;cases B<;>simp[p4,j,i,h]
 have s0:=st ń A d;have s1:=st ń C f;have g:ek (jc 3) aM [A.D,C.D] [SY$ Z 1,SY$ Z e,SY$ ύ [A.D,C.D],ń] c=U (Ϙ [SY$ Z 1,SY$ Z e,SY$ ύ [A.D,C.D],SY C.D]) c:=by
  rw[xW];simp only[Wj,At];rw[s0,zd,Vm,xW];simp only[Wj,At];rw[s1,zd,Vm,VY]
 unfold Eh NS Lc;simp[b,g]
def jr(a b:Nat)(q:Int)(P:Nat->Pt):List Ka:=[(a,Lb 0 q (cS (P 0).u (P 0).v) Ϛ []),(b,Lb 1 (1 - q) (cS (P 1).u (P 1).v) Ϛ [])]
structure BO(q:Int)(P:Nat->Pt):Prop where
 hq:q=0\/q=1
 ok:∀ i,i<2->(P i).Ok/\7<=(P i).w/\(P i).w<=12
 s0:(q=0/\(P 0).l=1/\(P 0).r≠1)\/(q=1/\(P 0).l≠1/\(P 0).r=1)
 s1:(1 - q=0/\(P 1).l=1/\(P 1).r≠1)\/(1 - q=1/\(P 1).l≠1/\(P 1).r=1)
def kX{ρ}{r}{cs}{f}{d}{a}(h:cs.contains 10=U2)(b:Nat.ble (a.length+1) 1000=U2):Vr ρ cs f d (Y 0) (ϔ 10 a::r)=U (Ϙ ρ) (ϔ 10 (Ih f d a)::r):=by
 have e:iw cs f d (Y 0) (ϔ 10 a::r)=U () (ϔ 10 (Ih f d a)::r):=by
  unfold iw;dsimp only[List.getElem?_cons_zero];rw[na (by rw[h];simpa using (show a.length<1000 from Nat.le_of_ble_eq_true b))];rfl
 unfold Vr;rw[e]
def ZA{c}{f}{b}{r}{a}(d:c.contains 10=U2)(e:Nat.ble (b.length+1) 1000=U2):Rp c f ir (ka 0) (SY (Y 0)::r) (ϔ 10 b::a)=U (Ϙ$ SY (Y 0)::r) (ϔ 10 (Ih f (Y$ a.length+1) b)::(a++[Ϗ []])):=by
 exact kX d e
def iG{c}{f}{a}{e}{d}{b}{r}(g:c.contains 10=U2)(h:Nat.ble (a.length+1) 1000=U2)(i:e (SY (Y 0)::r) (ϔ 10 a::b)=U d (ϔ 10 a::b)):Rp c f e (ka 0) (SY (Y 0)::r) (ϔ 10 a::b)=U (Ϙ$ SY (Y 0)::r) (ϔ 10 (Ih f d a)::b):=by
 rw[vD,i,qm,NF,Oy,qm,kX g h]
def ψ{e q}(C:1<=e/\e<=6){P}(c:BO q P){a:em}(Q:a.length<60):∃ I J g,Jl 10 5 Hq [Z 1,Z e,ύ [(P 0).D,(P 1).D],ύ$ a.map Z] []=U (Y 0) g/\Th 0 ⟨e,a.foldl Qh [],jr I J q P,[]⟩ g:=by
 have N:=Y0 C (c.ok 0$ by lia).2.1 (c.ok 1$ by lia).2.1 [ϔ 10 []];have G:qt [Y 0,ύ$ a.map Z] (K7 e [] [] [])=U Ϛ (K7 e (a.foldl Qh []) [] []):=vT (b:=0) rfl rfl rfl (by simp;lia);have l:=dQ (e:=e) (r:=(K7 e [] [] []).tail) "learn" 2 qt;have A:=c.ok 0 ⋯;have B:=c.ok 1 ⋯;have K:WA (sE (SY$ Z e) (SY$ ύ [(P 0).D,(P 1).D]) (SY$ ύ$ a.map Z) 0 (P 0) ń) (K7 e (a.foldl Qh []) [] [])=U (Ϙ$ sE (SY$ Z e) (SY$ ύ [(P 0).D,(P 1).D]) (SY$ ύ$ a.map Z) 0 (P 0)$ SY$ Z 1) (K7 e (a.foldl Qh []) [(7,Lb 0 q (cS (P 0).u (P 0).v) Ϛ [])] [ϔ 6 (Lb 0 q (cS (P 0).u (P 0).v) Ϛ []).fs]):=ZP _ _ _ _ A.1 ⋯ ⋯ ⋯ c.s0;have L:WA (sE (SY$ Z e) (SY$ ύ [(P 0).D,(P 1).D]) (SY$ ύ$ a.map Z) 1 (P 1)$ SY$ Z 1) (K7 e (a.foldl Qh []) [(7,Lb 0 q (cS (P 0).u (P 0).v) Ϛ [])] [ϔ 6 (Lb 0 q (cS (P 0).u (P 0).v) Ϛ []).fs])=U (Ϙ$ sE (SY$ Z e) (SY$ ύ [(P 0).D,(P 1).D]) (SY$ ύ$ a.map Z) 1 (P 1)$ SY$ Z 1) (K7 e (a.foldl Qh []) (jr 7 8 q P) [ϔ 6 (Lb 0 q (cS (P 0).u (P 0).v) Ϛ []).fs,ϔ 6 (Lb 1 (1 - q) (cS (P 1).u (P 1).v) Ϛ []).fs]):=ZP _ _ _ _ B.1 ⋯ (λy F=>by rw[Oa.mp F];show (0:Int)≠1;decide) ⋯ c.s1;have w:∀ m,jA (ύ [(P 0).D,(P 1).D]) m=U (Fu$ ύ [(P 0).D,(P 1).D]) m:=λm=>uR (xs:=[(P 0).D,(P 1).D]) rfl;have H:Vp (Fu$ ύ [(P 0).D,(P 1).D]) (rl 2$ Vf (jc 5)$ Vf (jc 6) cm) WA 1001 0 [SY$ Y 0,SY$ Z 1,SY$ Z e,SY$ ύ [(P 0).D,(P 1).D],SY$ ύ$ a.map Z,ń,ń,ń] (K7 e (a.foldl Qh []) [] [])=U (Ϙ$ sE (SY$ Z e) (SY$ ύ [(P 0).D,(P 1).D]) (SY$ ύ$ a.map Z) 1 (P 1)$ SY$ Z 1) (K7 e (a.foldl Qh []) (jr 7 8 q P) [ϔ 6 (Lb 0 q (cS (P 0).u (P 0).v) Ϛ []).fs,ϔ 6 (Lb 1 (1 - q) (cS (P 1).u (P 1).v) Ϛ []).fs]):=by
  rw[xx (k:=1000) (dI (xs:=[(P 0).D,(P 1).D]) (i:=0) rfl rfl) (ρ1:=sE (SY$ Z e) (SY$ ύ [(P 0).D,(P 1).D]) (SY$ ύ$ a.map Z) 0 (P 0) ń) rfl,K,zd,Vm];rw[xx (k:=999) (dI (xs:=[(P 0).D,(P 1).D]) (i:=1) rfl rfl) (ρ1:=sE (SY$ Z e) (SY$ ύ [(P 0).D,(P 1).D]) (SY$ ύ$ a.map Z) 1 (P 1)$ SY$ Z 1) rfl,L,zd,Vm];exact yF (k:=998)$ WP (x:=ύ [(P 0).D,(P 1).D]) (xs:=[(P 0).D,(P 1).D]) rfl
 have z:∀ (tg:D->Ev->Option Ev) (body:Ev->M Fl) (t:Ev) (nx:NX),oJ tg body t nx=Vp nx tg body 1001 0 t:=λp p p p=>rfl;have j:Hq [Y 0,Z 1,Z e,ύ [(P 0).D,(P 1).D],ύ$ a.map Z] [ϔ 10 []]=U Ϛ (K7 e (a.foldl Qh []) (jr 7 8 q P) [ϔ 6 (Lb 0 q (cS (P 0).u (P 0).v) Ϛ []).fs,ϔ 6 (Lb 1 (1 - q) (cS (P 1).u (P 1).v) Ϛ []).fs]):=by
  unfold Hq yW
  (try dsimp only);rw[zp,uA]
  show Jp (Sb _ _ [SY$ Y 0,SY$ Z 1,SY$ Z e,SY$ ύ [(P 0).D,(P 1).D],SY$ ύ$ a.map Z,ń,ń,ń] [ϔ 10 []])=_;generalize ύ [(P 0).D,(P 1).D]=n at *;rw[Zf];simp -implicitDefEqProofs only[AU,WR,hO,VN,Oy,zd,KO,eO,sL,W4,N,qm,qT,ug];rw[Zf,iG (d:=Z 1) rfl rfl ⋯,zd,ug];rw[Zf,iG (d:=Z e) rfl rfl ⋯,zd,ug];rw[Zf,iG (d:=Z 0) rfl rfl ⋯,zd,ug];rw[Zf,iG (d:=Z 0) rfl rfl ⋯,zd,ug];rw[Zf,ZA rfl rfl,zd,ug];rw[Zf,ZA rfl rfl,zd,ug];rw[Zf,ZA rfl rfl,zd,ug];rw[Zf,ZA rfl rfl,zd,ug];rw[Zf,ZA rfl rfl,zd,ug];rw[Zf,ZA rfl rfl,zd,ug];show Jp (Sb _ _ [SY$ Y 0,SY$ Z 1,SY$ Z e,SY n,SY$ ύ$ a.map Z,ń,ń,ń]$ K7 e [] [] [])=_;rw[Zf];have O:∀ ϋ,Nz (eT$ Sa Ux (ka 4)$ eC Ϛ) (Zi ib) (ka 4) [SY$ Y 0,SY$ Z 1,SY$ Z e,SY n,SY$ ύ$ a.map Z,ń,ń,ń] ϋ=U (ύ$ a.map Z) ϋ:=λϋ=>by simp
  have l:∀ o,Pk [(10,qt)] 2 "learn" o (Y 0) (K7 e [] [] [])=(o$ K7 e [] [] []).bind (Ai 2 qt$ Y 0):=l;simp -implicitDefEqProofs only[AU,F8,Oy,zd,l,hO,O,KO,eO,sL,R8,G,qm,qT,ug];rw[Az];simp -implicitDefEqProofs only[cZ,VN,Oy,zd,w,qm,z];rw[H,EM]
 have s:∀ x∈jr 7 8 q P,x=(7,Lb 0 q (cS (P 0).u (P 0).v) Ϛ [])\/x=(8,Lb 1 (1 - q) (cS (P 1).u (P 1).v) Ϛ []):=λx f=>by simpa [jr]using f
 have E:=c.hq;refine⟨7,8,_,(oQ ..).trans$ (vd (Fx 0) j).trans$ yz ..,⟨⟨rfl,rfl,rfl,rfl⟩,rfl,rfl,λx f=>?_,by simp[jr,Lb],by simp[jr],?_,⟨by simp[jr],λp h=>?_,λp h=>?_,λp h=>?_⟩,rfl⟩⟩
 ·rcases s x f with rfl|rfl
  ·exact⟨rfl,ku ⋯ E rfl rfl⟩
  ·exact⟨rfl,ku ⋯ ⋯ rfl rfl⟩
 ·have:=jI a [];simp at this ⊢;lia
 all_goals
  apply b_;intro z_;obtain⟨x,f,rfl⟩:=Xa.mp h;apply z_;rcases s x f with rfl|rfl<;>simp[pv,Lb,cS]<;>lia
def Pw(b:Nat)(k:Kp)(c:Ga)(f:M D)(R:i')(d:Ac):Prop:=∃ a,Fr b c a/\((f c=U (ύ []) a/\Th b k a)\/(f c=U (ύ R) a/\∃ n,Th b { k with as:=vj k.as (n,d) } a))
section
variable{T:Int->Int}{N b:Nat}{k:Kp}{σ:Ga}(h:Th b k σ){x:Ka}(hx:x∈k.as)
include h hx
theorem oN{a'}(C:a'.p=x.2.p)(l:AI T N a')(K:(a'.c,x.2.c)∈[(8,6),(6,8),(6,7)]){X R}{s}(o:∀ σ,Cb X (Z 1) σ=U (Z x.2.p) σ){kd}(O:∀ σ,Cb X (Z 0) σ=U (ϐ kd) σ){z}(mk:∀ A,Pk [(6,Iu),(7,Nw),(8,px)] 2 "taken" A (Y x.1) σ=(A σ).bind (Ai 2 z$ Y x.1))(H:z [Y x.1,X] σ=U (ϒ [Y σ.length,R]) (σ++[ϔ a'.c a'.fs]))(P:∀ σ,Ux R Ϛ σ=U (ϓ s) σ):Pw b k σ (Hv [Y b,X]) (if s then []else [R]) a':=by
 have i:=gw h.v;have f:=cB h hx;have d:=h.app [ϔ a'.c a'.fs];have q:Bi (σ++[ϔ a'.c a'.fs]) σ.length a':=by unfold Bi;simp
 have e:=Fr.app b σ [ϔ a'.c a'.fs];generalize L:σ++[ϔ a'.c a'.fs]=j at *;have r:=gw d.v;have m:=cB d hx;have w:∀ (t u:Option D) (n:Ev->M Fl),ky [(8,6),_,_] [6,7,8] (Sa Cb (ka 3)$ eC$ Z 0) (Sa gk (be (Cc [10] "accounts")$ ka 0)$ ka 2) (Di$ Zi ib) n [SY _,SY X,SY _,SY _,t,u] j=n [SY$ Y b,SY X,SY$ Z x.2.p,SY$ ϒ [Y σ.length,R],t,u] j:=λt u n=>by
  refine Ð (x:=Y σ.length) (y:=Y x.1) ?_ ?_ (Tp q) (Tp (d.a x hx).1) K
  ·simp
  ·simp[r,m]
 have g:∃ y∈k.as,y.2.p=((σ.length,a'):Ka).2.p:=⟨x,hx,C.symm⟩
 obtain⟨I,B⟩:=wX d (x:=(σ.length,a')) q l.ok l.eI g 0;have F:=Zo d.v "is_good" 3 Wx;have G:=Zo d.v "is_as_asked" 2 ZB;obtain⟨sa,J⟩:=iV d (x:=(σ.length,a')) q l.ok l.eI g;rw[C]at sa;have E:=V4 d O o;cases I
 rotate_left
 ·refine⟨j.set _ _,e.trans$ .set j ⋯ _,ϕ ⟨?_,σ.length,J⟩⟩;unfold Hv HH OG XH SL gM sO DO TM LN Ff;cases s<;>simp[i,f,r,m,o,mk,H,w,B,F,G,E,sa,P]
 ·refine⟨j,e,ϑ ⟨?_,d⟩⟩;unfold Hv HH OG XH SL gM sO DO TM LN Ff;simp[i,f,r,m,o,mk,H,w,B,F,G,E]
theorem iO{X}{kd}{R}{d}(e:Xc [X] σ=U (ϓ U2) σ)(g:∀ σ,Cb X (Z 0) σ=U (ϐ kd) σ)(i:∀ σ,Cb X (Z 1) σ=U (Z x.2.p) σ)(l:(kd == ("word" : Str))=ŝ)(j:(kd == ("ask" : Str))=ŝ)(m:Pw b k σ (Hv [Y b,X]) R d):Pw b k σ (uj [Y b,X]) R d:=by
 obtain⟨c,f,a|a⟩:=m
 ·exact⟨c,f,ϑ ⟨Dz h hx e g i l j a.1,a.2⟩⟩
 ·exact⟨c,f,ϕ ⟨Dz h hx e g i l j a.1,a.2⟩⟩
theorem ü{p}{m s}{G}{L}(e:x.2=Lb p 0 m G L)(r:AI T N$ xg p 0 m s G L):Pw b k σ (uj [Y b,Sk p s]) [En p 0 s]$ xg p 0 m s G L:=by
 have o:x.2.p=p:=by rw[e];rfl
 have c:=r;cases r with
 |xg M hm t K P I J O=>
 have u:∀ σ,Cb (Sk x.2.p s) (Z 1) σ=U (Z x.2.p) σ:=λσ=>by unfold Sk;simp
 have w:∀ σ,Cb (Sk x.2.p s) (Z 2) σ=U (ϒ [Z s.a,Z s.b]) σ:=λσ=>by unfold Sk;simp
 have z:∀ σ,Cb (Sk x.2.p s) (Z 3) σ=U (ϒ$ s.ts.map Ti.D) σ:=λσ=>by unfold Sk;simp
 have l:=gw h.v;have g:=cB h hx;have C:=Ű M hm.ok t.ok K I J.cl (show Bi σ x.1 _ from e ▸ (h.a x hx).1);have i:=h.app [ϔ 7 (xg p 0 m s G L).fs];have A:Bi (σ++[ϔ 7 (xg p 0 m s G L).fs]) σ.length$ xg p 0 m s G L:=by unfold Bi;simp[xg]
 have f:=Fr.app b σ [ϔ 7 (xg p 0 m s G L).fs];generalize σ++[ϔ 7 (xg p 0 m s G L).fs]=n at *;have j:∃ y∈k.as,y.2.p=((σ.length,xg p 0 m s G L):Ka).2.p:=⟨x,hx,o⟩
 apply b_;intro z_;obtain⟨F,q⟩:=wX i (x:=(σ.length,xg p 0 m s G L)) A c.ok c.eI j 0;have B:=Zo i.v "is_good" 3 Wx;obtain⟨sa,H⟩:=iV i (x:=(σ.length,xg p 0 m s G L)) A c.ok c.eI j;have sa:∀ ρ,wo ρ (Y σ.length) (Y$ b+2) (Z x.2.p) n=U (Ϙ ρ) (n.set (b+2)$ Ϗ$ AV$ vj k.as (σ.length,xg p 0 m s G L)):=by rw[o];exact sa
 apply z_;have E:∀ {d σ'},Aw [Y b,Sk x.2.p s] σ=U d σ'->uj [Y b,Sk p s] σ=U d σ':=λst=>by
  have:=KT h hx t.ok.st ⋯ st;rw[o]at this;exact this
 cases F
 rotate_left
 ·refine⟨_,f.trans$ .set n ⋯ _,ϕ ⟨E ?_,σ.length,H⟩⟩;unfold Aw vG lJ KI wI jJ Ff;simp[u,w,z,l,g,(gw i.v),C,q,B,sa]
 ·refine⟨n,f,ϑ ⟨E ?_,i⟩⟩;unfold Aw vG lJ KI wI jJ Ff;simp[u,w,z,l,g,C,q,B]
theorem ybi{p}{m o s}{G}{L}(e:x.2=xg p 0 m o G L)(c:AI T N x.2)(d:s.Ok$ T p):uj [Y b,Sk p s] σ=U (ύ []) σ:=by
 obtain⟨n,a⟩:=x;subst e;exact KT h hx d.st c.ok.p$ D2 h hx$ oY (h.a _ hx).1 c.ok
theorem M8{p}{m s}{G}{L}(e:x.2=xg p 0 m s G L)(i:AI T N x.2)(q:N<=90):Pw b k σ (uj [Y b,Wm p m s]) [Cm p 0 m.n]$ Lb p 0 s (ag p 1 s.D)$ L++[Z m.n]:=by
 apply b_;intro z_;obtain⟨n,a⟩:=x;subst e;have g:=(h.a _ hx).1;apply z_;cases i with
 |xg d hm c r j l f o=>
 exact iO h hx (GH d σ c.ok.st hm.ok.st.n) (SI _ _ _) (PB _ _ _) ⋯ ⋯$ oN h hx (a':=Lb p 0 s _ _) rfl (.Lb (N:=N+1) d (ϑ rfl) c ⋯ (pz$ cr s) (f.add _)$ by simp;lia) fZ (PB _ _ _) (SI _ _ _) (Jy g rfl rfl rfl 2) (G8 d hm.ok c.ok l f.cl ⋯ g) (λσ=>rfl)
theorem B8{p}{m s}{G}{L}(e:x.2=Lb p 1 m G L)(j:AI T N x.2)(f:SO (T p) 1 s)(c:s.n=m.n+1):Pw b k σ (uj [Y b,En p 0 s]) [Wm p m s]$ wait p 1 m s (ag p 0 s.D) L:=by
 obtain⟨n,a⟩:=x;subst e;have i:=(h.a _ hx).1;cases j with
 |Lb d _ hm q l g o=>
 exact iO h hx (kK d σ (ϑ rfl) f.ok.st) (AN _ _ _) (KH _ _ _) ⋯ ⋯$ oN h hx (a':=wait p 1 m s _ L) rfl (.wait (N:=N+1) d hm f c ⋯ (pz$ cr s) g$ by lia) ŧ (KH _ _ _) (AN _ _ _) (Jy i rfl rfl rfl 2) (zd9 d hm.ok f.ok c l g.cl i) (λσ=>rfl)
theorem yi1{p}{m s}{G}{L}(e:x.2=wait p 1 m s G L)(j:AI T N x.2)(q:N<=90):Pw b k σ (uj [Y b,Cm p 0 m.n]) []$ Lb p 1 s G$ L++[Z m.n]:=by
 obtain⟨n,a⟩:=x;subst e;have i:=(h.a _ hx).1;cases j with
 |wait d hm c r l f g o=>
 exact iO h hx (cH d σ (ϑ rfl) hm.ok.st.n) (RD _ _ _) (UB _ _ _) ⋯ ⋯$ oN h hx (a':=Lb p 1 s G _) rfl (.Lb (N:=N+1) d (ϕ rfl) c ⋯ f (g.add _)$ by simp;lia) ė (UB _ _ _) (RD _ _ _) (Jy i rfl rfl rfl 2) (j9 d hm.ok c.ok f g.cl ⋯ i) (λσ=>rfl)
end
def ď{p}{m c} s d(h:c.n≠m.n) a:ah (Wm p c d) (Wm p m s) a=U (ϓ U2) a:=by
 refine wu (b:=ŝ) ?_;obtain⟨j,f⟩:=GO a 7 _ _ (zF 3 p 1 d) (zF 3 p 1 s);have g:Og a 7 (Si p 1 c.n) (Si p 1 m.n)=SY ŝ:=by simp[eqa,eqb,eqc,eqd,yi,Si,h]
 have e:Og a 7 (ϐ "accept") (ϐ "accept")=SY U2:=by simp[eqa,eqb,eqc,eqd]
 have i:Og a 7 (Z p) (Z p)=SY U2:=by simp[eqa,eqb,eqc,eqd]
 show yi _ [ϐ "accept",Z p,ag p 1 d.D,Si p 1 c.n] [ϐ "accept",Z p,ag p 1 s.D,Si p 1 m.n]=_;simp[yi,e,i,f,g]
def Æ{p n a}(h:a≠n) c:ah (Cm p 0 a) (Cm p 0 n) c=U (ϓ U2) c:=by
 refine wu (b:=ŝ) ?_;simp[eqa,eqb,eqc,eqd,yi,Cm,Si,h]
section
variable{T:Int->Int}{N b:Nat}{k:Kp}{σ:Ga}(h:Th b k σ){x:Ka}(hx:x∈k.as)(hA:AI T N x.2)
include h hx hA
theorem ű{p}{m}{G}{L}(e:x.2=Lb p 0 m G L){f g}(o:g.Ok$ T p)(k:f.Ok$ T p):uj [Y b,Wm p f g] σ=U (ύ []) σ:=by
 obtain⟨n,a⟩:=x;subst e;have d:=(h.a _ hx).1;cases hA with
 |Lb c _ l r i j q=>exact Dz h hx (GH c σ o.st k.st.n) (SI _ _ _) (PB _ _ _) ⋯ ⋯$ dE h hx c5 (PB _ _ _ σ) (Jy d rfl rfl rfl 2)$ bZ c i j.cl d _
theorem eY{p}{m o}{G}{L}(e:x.2=xg p 0 m o G L){c i}(t:i.Ok$ T p)(l:c.Ok$ T p)(r:c.n≠m.n):uj [Y b,Wm p c i] σ=U (ύ []) σ:=by
 obtain⟨n,a⟩:=x;subst e;have f:=(h.a _ hx).1;cases hA with
 |xg d q u s w j k v=>
  have g:=GH d σ t.st l.st.n;exact Dz h hx g (SI _ _ _) (PB _ _ _) ⋯ ⋯$ dE h hx c6 (PB _ _ _ σ) (Jy f rfl rfl rfl 2)$ n5 d j k.cl f g$ ď _ _ r σ
theorem X3{p}{m}{G}{L}(e:x.2=Lb p 1 m G L){d}(c:0<=d/\d<=1000000):uj [Y b,Cm p 0 d] σ=U (ύ []) σ:=by
 obtain⟨n,a⟩:=x;subst e;have g:=(h.a _ hx).1;cases hA with
 |Lb f _ l q j k o=>
  have i:=cH f σ (ϑ rfl) c;exact Dz h hx i (RD _ _ _) (UB _ _ _) ⋯ ⋯$ dE h hx c5 (UB _ _ _ σ) (Jy g rfl rfl rfl 2)$ F3 f j k.cl g i (RD _ _ _ σ) ⋯
theorem U3{p}{m s}{G}{L}(e:x.2=wait p 1 m s G L){c}(d:0<=c/\c<=1000000)(o:c≠m.n):uj [Y b,Cm p 0 c] σ=U (ύ []) σ:=by
 obtain⟨n,a⟩:=x;subst e;have g:=(h.a _ hx).1;cases hA with
 |wait f l r q u j k t=>
  have i:=cH f σ (ϑ rfl) d;exact Dz h hx i (RD _ _ _) (UB _ _ _) ⋯ ⋯$ dE h hx c7 (UB _ _ _ σ) (Jy g rfl rfl rfl 2)$ BQ f j k.cl g i$ Æ o σ
theorem JZ{p}{m s}{G}{L}(e:x.2=wait p 1 m s G L){g}(o:g.Ok$ T p):uj [Y b,En p 0 g] σ=U (ύ []) σ:=by
 obtain⟨n,a⟩:=x;subst e;have d:=(h.a _ hx).1;cases hA with
 |wait c k q l t i j r=>
  have f:=kK c σ (ϑ rfl) o.st;exact Dz h hx f (AN _ _ _) (KH _ _ _) ⋯ ⋯$ dE h hx c7 (KH _ _ _ σ) (Jy d rfl rfl rfl 2)$ BQ c i j.cl d f$ V2 ⋯ (oR ..) (kS ..) σ
end
theorem ZU:∀ {xs:em},(∀ x∈xs,0<=x)->0<=xs.sum
 |[],_=>by simp
 |x::xs,h=>by
  have b:=h x va;have c:=ZU λy a=>h y$ ja _ a;rw[List.sum_cons];lia
noncomputable def rm(w:Int)(a:List Ti):List Ti:=a.filter λu=>decide$ u.w≠w
theorem FQ:∀ {d:List Ti} {t:Ti},(d.map Ti.w).Nodup->t∈d->yo (rm t.w d)+t.a=yo d
 |[],t,_,h=>by cases h
 |b::d,t,hd,h=>by
  rw[Va,Cd]at hd;unfold rm;rw[gm];rcases Ba.mp h with rfl|h
  ·have e:d.filter (λu=>decide$ u.w≠t.w)=d:=Ks.mpr λu g=>zf λe=>hd.1$ e ▸ Qc g;simp[yo];lia
  ·have i:b.w≠t.w:=λe=>hd.1$ e ▸ Qc h;have f:=FQ hd.2 h;unfold rm at f;rw[zf i,na rfl];have c:∀ xs:List Ti,yo (b::xs)=b.a+yo xs:=λxs=>by simp[yo]
   rw[c,c,<-f];lia
section
variable{σ:Ga}{xs:i'}
def M5:Hz [Y σ.length] (σ++[ώ xs])=U (ϒ xs) (σ++[ώ xs]):=by
 unfold Hz;simp[Ce,BN]
end
theorem mW:∀ {a:List Ti} {u t:Ti},(a.map Ti.w).Nodup->u∈a->t∈a->u.w=t.w->u=t
 |[],_,_,_,h,_,_=>by cases h
 |b::a,u,t,hd,g,f,e=>by
  rw[Va,Cd]at hd;rcases Ba.mp g with rfl|c<;>rcases Ba.mp f with rfl|d
  ·rfl
  ·exact absurd (e ▸ Qc d) hd.1
  ·exact absurd (e ▸ Qc c) hd.1
  ·exact mW hd.2 c d e
def IY{a:List Ti}(d:(a.map Ti.w).Nodup){u t}(g:u∈a)(f:t∈a) c:ah u.D t.D c=U (ϓ$ decide$ u.w≠t.w) c:=by
 by_cases e:u.w=t.w
 ·obtain rfl:=mW d g f e;rw[sv (by simp[pla,plb,plc,pld,ple,Ti.D])];simp
 ·rw[wu (b:=ŝ) (by simp[eqa,eqb,eqc,eqd,yi,Ti.D,e])];simp[e]
noncomputable def pa(q v a b:Int):Int:=if q=0 then a+v else a
noncomputable def pb(q v a b:Int):Int:=if q=0 then b else b+v
structure Nx(T q:Int)(o s:Sn):Prop where
 so:SO T q s
 n:s.n=o.n+1
 l:s.ts.length<=o.ts.length+1
section
variable{T q:Int}{o:Sn}(h:SO T q o)(hT:T<=2000000000000)(hn:o.n<=100)(hl:o.ts.length<=5)
include h hT hn hl
theorem CB{a b}{c}(k:0<=a)(l:0<=b)(e:a+b+yo c=T)(g:∀ t∈c,t.Ok/\t.p=1 - q)(f:c.length<=o.ts.length+1)(i:(c.map Ti.w).Nodup):Nx T q o ⟨o.n+1,a,b,c⟩:=by
 have m:0<=yo c:=ZU λx j=>by
  obtain⟨t,d,rfl⟩:=Xa.mp j;have:=(g t d).1.a;lia
 have:=h.ok.st.n;exact⟨⟨⟨⟨by dsimp only;lia,by dsimp only;lia,by dsimp only;lia,λt d=>(g t d).1,by dsimp only;lia,i⟩,e⟩,λt d=>(g t d).2⟩,rfl,f⟩
end
abbrev nE(o:Sn)(q y:Int)(S:D)(a:List Ti)(b c:Option D):Ev:=[SY o.D,SY$ Z q,SY$ Z y,SY$ Z o.n,SY S,SY$ ϒ$ a.map Ti.D,b,c]
abbrev R5:Ev->M Fl:=(jh (My (eT$ Sa oLt (Sa jj (ka 2)$ eC$ Z 3)$ eC$ Z 2)$ eT$ Sa oLt (Sa Cb (ka 4)$ Sa kl (eC$ Z 1)$ ka 1)$ eC$ Z 1) (Sb (Vv (Sa lh (Sa Cb (ka 4)$ ka 1)$ Sa Nm (Sa Cb (ka 4)$ Sa kl (eC$ Z 1)$ ka 1)$ eC$ Z 3) (ka 4)$ ka 1)$ Vv (Sa kl (Sa Cb (ka 4)$ Sa kl (eC$ Z 1)$ ka 1)$ Sa Nm (Sa Cb (ka 4)$ Sa kl (eC$ Z 1)$ ka 1)$ eC$ Z 3) (ka 4)$ Sa kl (eC$ Z 1)$ ka 1)$ Sb (de 7$ Sa jj (Sa Nm (ka 2)$ eC$ Z 9)$ eC$ Z 8)$ jh (eT$ Sa (Ht U2) (ka 7)$ Sh$ Ei (Jj$ kg$ ka 5) [] (jc 0) Ej$ Sa Cb (ka 0)$ eC$ Z 2) (Sb (de 5$ Sa lh (ka 5)$ yf$ Fa (yf$ Fa (Sa kl (eC$ Z 1)$ ka 1)$ Fa (eC$ Z 1)$ Fa (ka 7)$ Fa (Sa jj (Sa Nm (ka 2)$ eC$ Z 81)$ eC$ Z 24) ib) ib)$ Vv (Sa kl (Sa Cb (ka 4)$ Sa kl (eC$ Z 1)$ ka 1)$ eC$ Z 1) (ka 4)$ Sa kl (eC$ Z 1)$ ka 1) Xh)
section
variable{T q:Int}{o:Sn}(h:SO T q o)(hT:T<=2000000000000)(hn:o.n<=100)(hl:o.ts.length<=5){y:Int}(hq:q=0\/q=1)(σ:Ga)
theorem ö a b:Cb (Y σ.length) (Z 0) (σ++[ώ [a,b]])=U a (σ++[ώ [a,b]]):=yA (xs:=[a,b]) ⋯ rfl
theorem Q2 a b:Cb (Y σ.length) (Z 1) (σ++[ώ [a,b]])=U b (σ++[ώ [a,b]]):=yA (xs:=[a,b]) ⋯ rfl
include h hT hn hl hq
theorem i7:∃ a b V z6 z7,Nx T q o ⟨o.n+1,a,b,V⟩/\uN (nE o q y (Y σ.length) o.ts ń ń) (σ++[ώ [Z o.a,Z o.b]])=U (Ϙ$ nE o q y (Y σ.length) V z6 z7) (σ++[ώ [Z a,Z b]]):=by
 have W:=h.ok.st.a;have J:=h.ok.st.b;have hw:=h.ok.w;have r:=λa b=>ö σ a b;have v:=λa b=>Q2 σ a b;have lt:Dn [ϒ$ o.ts.map Ti.D] (σ++[ώ [Z o.a,Z o.b]])=U (Z o.ts.length) (σ++[ώ [Z o.a,Z o.b]]):=by rw[tM];simp
 have K:ah (ϒ$ o.ts.map Ti.D) (ϒ []) (σ++[ώ [Z o.a,Z o.b]])=U (ϓ$ !o.ts.isEmpty) (σ++[ώ [Z o.a,Z o.b]]):=by
  refine wu (b:=o.ts.isEmpty) ?_;cases o.ts<;>simp[eqa,eqb,eqc,eqd,yi]
 by_cases H:y % 3=0/\o.ts≠[]
 ·obtain⟨H,A⟩:=H;have n1:(!o.ts.isEmpty)=U2:=by cases e:o.ts with
   |nil=>exact absurd e A
   |cons=>rfl
  rw[n1]at K;have a0:0<o.ts.length:=Ls.mpr A;have hk:(y / 3 % (o.ts.length:Int)).toNat<o.ts.length:=by
   have h1:=Zu (y / 3) (show (0:Int)<o.ts.length by lia);have h2:=kn (y / 3) (show (o.ts.length:Int)≠0 by omega);omega
  obtain⟨t,f⟩:∃ t,o.ts[(y / 3 % (o.ts.length:Int)).toNat]?=SY t:=⟨_,xb hk⟩
  have R:=ua f;have G:=h.ok.st.t t R;have md:∀ σ,jj (Z$ y / 3) (Z o.ts.length) σ=U (Z$ y / 3 % (o.ts.length:Int)) σ:=λσ=>bM _ _ ⋯;have ix:∀ σ,Cb (ϒ$ o.ts.map Ti.D) (Z$ y / 3 % (o.ts.length:Int)) σ=U t.D σ:=λσ=>by
   have e:(y / 3 % (o.ts.length:Int))=(((y / 3 % (o.ts.length:Int)).toNat:Nat):Int):=by
    have h2:=kn (y / 3) (show (o.ts.length:Int)≠0 by omega);omega
   rw[e];exact IB$ ut (by rw[Ca,f];rfl)
  have t1:∀ σ,Cb t.D (Z 1) σ=U (Z t.a) σ:=λσ=>by unfold Ti.D;simp
  have tr:=FQ h.ok.st.d R;have l:∀ (S:D) (c:Ga),Sh (Ei (Jj$ kg$ ka 5) [6] (jc 0) (eT$ Sa ah (ka 0)$ ka 2)$ ka 0) (nE o q y S o.ts (SY t.D) ń) c=U (ύ$ (rm t.w o.ts).map Ti.D) c:=λS c=>by
   refine Xz (s:=.seq$ o.ts.map Ti.D) (xs:=o.ts) Ti.D Ti.D (λu=>decide$ u.w≠t.w) ⋯ (λi j=>by show SY ((o.ts.map Ti.D)[i]?)=_;rw[Ca]) ⋯ (λu P j=>?_) (λu _ _=>UG u);have e:=IY h.ok.st.d P R$ c++j;generalize u.D=ό at *;exact⟨by simp[e],λ_=>by simp⟩
  have tu:∀ c,Hz [ύ$ (rm t.w o.ts).map Ti.D] c=U (ϒ$ (rm t.w o.ts).map Ti.D) c:=λc=>by simp
  have L:(y % 3 == 0)=U2:=by simp[H]
  have Q:Nx T q o ⟨o.n+1,pa q t.a o.a o.b,pb q t.a o.a o.b,rm t.w o.ts⟩:=by
   refine CB h hT hn hl ?_ ?_ ?_ (λu P=>?_) ?_ ?_
   ·unfold pa;split<;>have:=G.a<;>omega
   ·unfold pb;split<;>have:=G.a<;>omega
   ·unfold pa pb;split<;>omega
   ·have:=(yg.mp P).1;exact⟨h.ok.st.t u this,h.w u this⟩
   ·have:=Bc (λu=>decide$ u.w≠t.w) o.ts;unfold rm;omega
   ·exact(Hs.map _).nodup h.ok.st.d
  refine⟨_,_,_,SY t.D,ń,Q,?_⟩;simp only[nE]at l ⊢;generalize o.D=B,t.D=TD,(rm t.w o.ts).map Ti.D=TS,o.ts.map Ti.D=TO at *;rcases hq with rfl|rfl<;>simp[L,K,lt,md,ix,t1,l,tu,r,v,pa,pb,-bp]
 ·have L:y % 3=0->(!o.ts.isEmpty)=ŝ:=λe=>by
   cases g:o.ts with
   |nil=>rfl
   |cons t V=>exact absurd ⟨e,by rw[g];simp⟩ H
  have ϊ:uN (nE o q y (Y σ.length) o.ts ń ń) (σ++[ώ [Z o.a,Z o.b]])=R5 (nE o q y (Y σ.length) o.ts ń ń) (σ++[ώ [Z o.a,Z o.b]]):=by
   simp only[nE];generalize o.D=B,o.ts.map Ti.D=TO at *;by_cases e:y % 3=0
   ·rw[L e]at K;simp[e,K,-Zf]
   ·have b:(y % 3 == 0)=ŝ:=by simp[e]
    simp[b,-Zf]
  rw[ϊ];by_cases A:y % 3<2\/(if q=0 then o.b else o.a)<1
  ·have b2:∀ (k:Int),(y % 3<2->k=1)->True:=λ_ _=>trivial;rcases hq with rfl|rfl
   ·refine⟨o.a+o.b / 3,o.b - o.b / 3,o.ts,ń,ń,CB h hT hn hl ⋯ ⋯ ⋯ (λt f=>⟨h.ok.st.t t f,h.w t f⟩) ⋯ h.ok.st.d,?_⟩;simp only[nE];generalize o.D=B,o.ts.map Ti.D=TO at *;by_cases e:y % 3<2
    ·simp[e,r,v]
    ·have M:o.b<1:=by simpa [e]using A
     simp[e,M,r,v]
   ·refine⟨o.a - o.a / 3,o.b+o.a / 3,o.ts,ń,ń,CB h hT hn hl ⋯ ⋯ ⋯ (λt f=>⟨h.ok.st.t t f,h.w t f⟩) ⋯ h.ok.st.d,?_⟩;simp only[nE];generalize o.D=B,o.ts.map Ti.D=TO at *;by_cases e:y % 3<2
    ·simp[e,r,v]
    ·have M:o.a<1:=by simpa [e]using A
     simp[e,M,r,v]
  ·have I:¬ y % 3<2:=λz=>A$ ϑ z;have g:¬ (if q=0 then o.b else o.a)<1:=λz=>A$ ϕ z;have hW:0<=y / 9 % 8/\y / 9 % 8<8:=by omega
   have hY:0<=y / 81 % 24/\y / 81 % 24<24:=by omega
   have l:∀ (S:D) (z:Option D) (c:Ga),Sh (Ei (Jj$ kg$ ka 5) [] (jc 0) Ej$ Sa Cb (ka 0)$ eC$ Z 2) (nE o q y S o.ts ń z) c=U (ύ$ (o.ts.map Ti.w).map Z) c:=λS z c=>by
    rw[bA (s:=.seq$ o.ts.map Ti.D) (xs:=o.ts) Ti.D (λt=>Z t.w) ⋯ (λi j=>by show SY ((o.ts.map Ti.D)[i]?)=_;rw[Ca]) ⋯ (λu _ j=>by
     have:∀ σ,Cb u.D (Z 2) σ=U (Z u.w) σ:=λσ=>by unfold Ti.D;simp
     simp[this]) (λ_ _=>rfl),Ec];rfl
   have E:∀ c,Ht U2 (Z$ y / 9 % 8) (ύ$ (o.ts.map Ti.w).map Z) c=U (ϓ (!((o.ts.map Ti.w).any (·== y / 9 % 8)))) c:=λc=>XN (neg:=U2) ⋯;have C:∀ c,lh (ϒ$ o.ts.map Ti.D) (ϒ [ϒ [Z$ 1 - q,Z 1,Z$ y / 9 % 8,Z$ y / 81 % 24]]) c=U (ϒ$ (o.ts++[Ti.mk (1 - q) 1 (y / 9 % 8)$ y / 81 % 24]).map Ti.D) c:=λc=>by rw[ï (by simp[Uf];omega),List.map_append];rfl
   generalize x:y / 9 % 8=Wd at *;generalize F:y / 81 % 24=m at *;cases J:(o.ts.map Ti.w).any (·== Wd)with
   |true=>
    rw[J]at E;refine⟨o.a,o.b,o.ts,ń,SY$ Z Wd,CB h hT hn hl ⋯ ⋯ hw (λt f=>⟨h.ok.st.t t f,h.w t f⟩) ⋯ h.ok.st.d,?_⟩;simp only[nE]at l ⊢;generalize o.D=B,(o.ts.map Ti.w).map Z=WS,o.ts.map Ti.D=TO at *;rcases hq with rfl|rfl
    ·have g:¬ o.b<1:=by simpa using g
     simp[I,g,r,v,x,l,E,-bp]
    ·have g:¬ o.a<1:=by simpa using g
     simp[I,g,r,v,x,l,E,-bp]
   |false=>
    rw[J]at E;have O:Wd ∉ o.ts.map Ti.w:=λhm=>by
     have:(o.ts.map Ti.w).any (·== Wd)=U2:=Hc.mpr ⟨Wd,hm,by simp⟩;rw[J]at this;cases this
    have ϋ:∀ t∈o.ts++[Ti.mk (1 - q) 1 Wd m],t.Ok/\t.p=1 - q:=λt f=>by
     rcases jb.mp f with f|f
     ·exact⟨h.ok.st.t t f,h.w t f⟩
     ·rw[Oa.mp f];exact⟨⟨by dsimp only;omega,by dsimp only;omega,by dsimp only;omega,by dsimp only;omega⟩,rfl⟩
    have tt:yo (o.ts++[Ti.mk (1 - q) 1 Wd m])=yo o.ts+1:=by simp[yo]
    have X:((o.ts++[Ti.mk (1 - q) 1 Wd m]).map Ti.w).Nodup:=by
     rw[List.map_append,Yk];exact⟨h.ok.st.d,by simp,λa W b N e=>O (by rw[Oa.mp N]at e;have e:a=Wd:=e;exact e ▸ W)⟩
    rcases hq with rfl|rfl
    ·have g:¬ o.b<1:=by simpa using g
     refine⟨o.a,o.b - 1,o.ts++[Ti.mk (1 - 0) 1 Wd m],ń,SY$ Z Wd,CB h hT hn hl ⋯ ⋯ ⋯ ϋ ⋯ X,?_⟩;simp only[nE]at l ⊢;generalize (o.ts++[Ti.mk (1 - 0) 1 Wd m]).map Ti.D=TS at *;generalize o.D=B,(o.ts.map Ti.w).map Z=WS,o.ts.map Ti.D=TO at *;have C:∀ c,lh (ϒ TO) (ϒ [ϒ [Z 1,Z 1,Z Wd,Z m]]) c=U (ϒ TS) c:=C;simp[I,g,r,v,x,F,l,E,C,-bp]
    ·have g:¬ o.a<1:=by simpa using g
     refine⟨o.a - 1,o.b,o.ts++[Ti.mk (1 - 1) 1 Wd m],ń,SY$ Z Wd,CB h hT hn hl ⋯ ⋯ ⋯ ϋ ⋯ X,?_⟩;simp only[nE]at l ⊢;generalize (o.ts++[Ti.mk (1 - 1) 1 Wd m]).map Ti.D=TS at *;generalize o.D=B,(o.ts.map Ti.w).map Z=WS,o.ts.map Ti.D=TO at *;have C:∀ c,lh (ϒ TO) (ϒ [ϒ [Z 0,Z 1,Z Wd,Z m]]) c=U (ϒ TS) c:=C;simp[I,g,r,v,x,F,l,E,C,-bp]
theorem AO:∃ s,Nx T q o s/\Tg [o.D,Z q,Z y] σ=U s.D σ:=by
 obtain⟨a,b,c,i,j,nx,f⟩:=i7 h hT hn hl hq σ;refine⟨_,nx,?_⟩;have d:nK [SY o.D,SY$ Z q,SY$ Z y,ń,ń,ń,ń,ń] σ=U (Ϙ$ nE o q y (ϒ [Z o.a,Z o.b]) o.ts ń ń) σ:=by
  unfold Sn.D Pj;simp[nE];rfl
 have e:FP (nE o q y (ϒ [Z o.a,Z o.b]) o.ts ń ń) σ=U (Ϙ$ nE o q y (Y σ.length) o.ts ń ń) (σ++[ώ [Z o.a,Z o.b]]):=by
  simp[nE];rfl
 have g:pV (nE o q y (Y σ.length) c i j) (σ++[ώ [Z a,Z b]])=U (.rt (Sn.mk (o.n+1) a b c).D) (σ++[ώ [Z a,Z b]]):=by
  simp[nE,(M5 (σ:=σ) (xs:=[Z a,Z b]))];rfl
 unfold Tg aS Lc
 (try dsimp only);rw[zp]
 show lg σ (Jp$ Sb nK _ [SY o.D,SY$ Z q,SY$ Z y,ń,ń,ń,ń,ń] σ)=_;rw[Zf,d,zd,ug,Zf,e,zd,ug,Zf,f,zd,ug,g,pT,(MI (σ:=σ) (a:=ώ [Z a,Z b])$ cr ⟨o.n+1,a,b,c⟩)]
end
def Th.YC{b}{k}{f}(h:Th b k f){r}{xs}(g:f[r]?=SY (ώ xs))(i:b+6<r) o:Th b k$ f.set r o:=⟨h.v.set (ϕ$ by lia) o,ue ⋯ h.h2,ue ⋯ h.h5,λx c=>⟨ue (λe=>by
  have:=(h.a x c).1;unfold Bi at this;rw[<-e,g]at this;cases this) (h.a x c).1,(h.a x c).2⟩,h.d,h.n,h.z,h.o,ue ⋯ h.h6⟩
def LI{b}{r}{xs}(c:b[r]?=SY (ώ xs))(d:xs.length<900) a:Pg (Y r) [a] b=U Ϛ (b.set r$ ώ$ xs++[a]):=by
 have e:Ce b r=SY xs:=by unfold Ce;rw[c]
 unfold Pg;simp only[e];rw[na (by unfold Uf;lia)]
def zz{σ}{r}{xs}(b:σ[r]?=SY (ώ xs)) a:Jr Pg a (Y r) σ=(a σ).bind (Pg$ Y r):=by
 have e:Ce σ r=SY xs:=by unfold Ce;rw[b]
 unfold Jr wf
 simp_all
abbrev fE(b:Nat)(p q y:Int)(r:Nat)(o s:Sn)(z:Option D):Ev:=[SY$ Y b,SY$ Z p,SY$ Z q,SY$ Z y,SY$ Y r,SY o.D,SY s.D,z]
def Ó R a:ah (ύ R) (ύ []) a=U (ϓ$ !R.isEmpty) a:=wu (by cases R<;>simp[eqa,eqb,eqc,eqd,yi])
def X1(p q:Int)(s:Sn):D:=if q=0 then Sk p s else En p 0 s
def X2(p q:Int)(o s:Sn):D:=if q=0 then Wm p o s else Cm p 0 o.n
def uC{b}{k F}{e f g w}(h:Th b k e)(C:Th b F g){p q y}{r}{o s}{t}(B:q=0\/q=1)(d:uj [Y b,X1 p q s] e=U (ύ t) f)(x:(t=[]/\g=f)\/(t≠[]/\Pg (Y r) [s.D] f=U Ϛ g/\∀ A,Jr Pg A (Y r) f=(A f).bind (Pg$ Y r)))(a:(0<y % 8/\∃ R2,uj [Y b,X2 p q o s] g=U (ύ R2) w)\/(¬ 0<y % 8/\w=g)):oG (fE b p q y r o s ń) e=U (Ϙ$ fE b p q y r o s$ SY$ ύ t) w:=by
 have m:=Zo h.v "take" 2 uj;have n:=Zo C.v "take" 2 uj;have u:=λe=>s1 s e;have l:=λe=>s2 s e;have j:=λe=>s0 o e;have i:=λe=>Ó t e;unfold X1 Sk En ag at d;unfold X2 Wm Cm ag Si at a;rcases x with⟨rfl,rfl⟩|⟨G,x,z⟩
 ·rcases a with⟨c,R2,a⟩|⟨c,rfl⟩<;>rcases B with rfl|rfl<;>simp at d
  ·simp at a;simp[m,n,u,l,j,i,d,a,c]
  ·simp at a;simp[m,n,l,j,i,d,a,c]
  ·simp[m,n,u,l,j,i,d,c]
  ·simp[m,n,u,l,j,i,d,c]
 ·have E:t.isEmpty=ŝ:=by cases t with
   |nil=>simp_all
   |cons=>rfl
  rw[E]at i;rcases a with⟨c,R2,a⟩|⟨c,rfl⟩<;>rcases B with rfl|rfl<;>simp at d
  ·simp at a;simp[m,n,u,l,j,i,d,a,c,x,z]
  ·simp at a;simp[m,n,u,l,j,i,d,a,c,x,z]
  ·simp[m,n,u,l,j,i,d,c,x,z]
  ·simp[m,n,u,l,j,i,d,c,x,z]
structure AG(T:Int->Int)(F:Int->Sn)(N:Nat)(a:Ac):Prop where
 i:AI T N a
 g:a.m=F a.p\/a.G=ag a.p (1 - a.q) a.m.D
 l:∀ s∈a.y,s.ts.length<=N
def k9{a}{x z}(b:x∈a)(e:x.2.p=z.2.p):z∈vj a z:=Xa.mpr ⟨x,b,by simp[e]⟩
structure Fw(T:Int->Int)(F:Int->Sn)(N b:Nat)(p q:Int)(r:Nat)(k:Kp)(σ:Ga)(A:List Sn)(as':List Ka)(σ':Ga)(A':List Sn):Prop where
 L6:Th b { k with as:=as' } σ'
 a:∀ y∈as',y∈k.as\/(AG T F (N+1) y.2/\y.2.p=p/\y.2.q=q)
 ps:as'.map (·.2.p)=k.as.map (·.2.p)
 A:σ'[r]?=SY (ώ (A'.map Sn.D))/\(A'=A\/∃ s,s.Ok (T p)/\A'=A++[s])
 f:∀ r' o,r'≠r->(r'<b\/b+6<r')->σ[r']?=SY o->σ'[r']?=SY o
section
variable{T:Int->Int}{F:Int->Sn}{N b:Nat}{k:Kp}{σ:Ga}(h:Th b k σ){r:Nat}{A:List Sn}(hr:σ[r]?=SY (ώ$ A.map Sn.D))(hrb:b+6<r)(hAl:A.length<100)(hN:N<=5){y:Int}
include h
theorem kL{x}(i:x∈k.as)(f:AI T N x.2){o s}(d:x.2.y.getLast?=SY o){c}{z}(t:Tg [o.D,Z x.2.q,Z$ y / 8] σ=U s.D σ)(e:oG (fE b x.2.p x.2.q y r o s ń) σ=U (Ϙ$ fE b x.2.p x.2.q y r o s z) c):cc [Y b,Z x.2.p,Z x.2.q,Z y,Y r] σ=U Ϛ c:=by
 have l:=ŉ h i;have u:=Zo h.v "account" 2 Ip;have w:Cc [5,6,7,8] "may" (Y x.1) σ=U _ σ:=mE (h.a x i).1 f.ok;have n:Cb (ύ$ x.2.y.map Sn.D) (Z$ -1) σ=U o.D σ:=by
  have g:=f.so.2;generalize x.2.y=ϋ at *
  match ϋ,d,g with
  |[m],d,_=>obtain rfl:m=o:=⋯;rfl
  |[m,j],d,_=>obtain rfl:j=o:=⋯;rfl
  |_::_::_::_,_,g=>simp_all
 unfold cc tQ
 simp_all
end
section
variable{T:Int->Int}{F:Int->Sn}{N b:Nat}{k:Kp}{σ:Ga}(h:Th b k σ){r:Nat}{A:List Sn}(hr:σ[r]?=SY (ώ$ A.map Sn.D))(hrb:b+6<r)(hAl:A.length<100)(hN:N<=5){y:Int}
include h hr hrb hN
theorem YL{a}{p q}(c:Th b k a)(f:Fr b σ a):Fw T F N b p q r k σ A k.as a A:=⟨c,λy g=>ϑ g,rfl,⟨f r _ (ϕ hrb) hr,ϑ rfl⟩,λh o i d e=>f h o d e⟩
include hAl
theorem fwc{n0}{p q}{m}{G}{L}(J:(n0,Lb p q m G L)∈k.as)(C:AG T F N$ Lb p q m G L)(hT:T p<=2000000000000):∃ a0 S A',cc [Y b,Z p,Z q,Z y,Y r] σ=U Ϛ S/\Fw T F N b p q r k σ A a0 S A':=by
 have hA:=C.i;have ml:m.ts.length<=N:=C.l m (by simp[Lb]);cases hA with
 |Lb ϋ I hm hn hG X a4=>
 obtain⟨s,nx,ln⟩:=AO hm hT ⋯ ⋯ I (y:=y / 8) σ;have g0:∀ t∈[m,s],t.ts.length<=N+1:=λt P=>by
  rcases Ba.mp P with rfl|P
  ·lia
  ·rw[Oa.mp P];have:=nx.l;lia
 have V:∀ t∈[s],t.ts.length<=N+1:=λt P=>g0 t$ ja _ P;obtain⟨w,M,ϊ,R2,hR,p1,p2,q1,q2,g1,V,e1,e2,e3⟩:∃ w M ϊ R2,ϊ≠[]/\w.p=p/\M.p=p/\w.q=q/\M.q=q/\AG T F _ w/\AG T F (N+1) M/\Pw b k σ (uj [Y b,X1 p q s]) ϊ w/\(∀ {k':Kp} {K:Ga} {n:Nat},Th b k' K->(n,w)∈k'.as->Pw b k' K (uj [Y b,X2 p q m s]) R2 M)/\∀ {K:Ga},Th b k K->uj [Y b,X2 p q m s] K=U (ύ []) K:=by
  rcases I with rfl|rfl
  ·have a:AI T (N+1)$ xg p 0 m s G L:=.xg ϋ hm nx.so nx.n (by rw[nx.n];lia) hG X ⋯;exact⟨xg p 0 m s G L,Lb p 0 s (ag p 1 s.D)$ L++[Z m.n],[En p 0 s],[Cm p 0 m.n],by simp,rfl,rfl,rfl,rfl,⟨a,C.g,g0⟩,⟨.Lb ϋ (ϑ rfl) nx.so (by rw[nx.n];omega) (pz$ cr s) (X.add _) (by simp;omega),ϕ rfl,V⟩,ü h J rfl a,λh' H=>M8 h' H rfl a ⋯,λu=>ű u J C.i rfl nx.so.ok hm.ok⟩
  ·have a:AI T (N+1)$ wait p 1 m s (ag p 0 s.D) L:=.wait ϋ hm nx.so nx.n (by rw[nx.n];lia) (pz$ cr s) X ⋯;exact⟨wait p 1 m s (ag p 0 s.D) L,Lb p 1 s (ag p 0 s.D)$ L++[Z m.n],[Wm p m s],[],by simp,rfl,rfl,rfl,rfl,⟨a,ϕ rfl,g0⟩,⟨.Lb ϋ (ϕ rfl) nx.so (by rw[nx.n];omega) (pz$ cr s) (X.add _) (by simp;omega),ϕ rfl,V⟩,B8 h J rfl C.i nx.so nx.n,λh' H=>yi1 h' H rfl a ⋯,λu=>X3 u J C.i rfl hm.ok.st.n⟩
 have W:∀ {f z},oG (fE b p q y r m s ń) σ=U (Ϙ$ fE b p q y r m s z) f->cc [Y b,Z p,Z q,Z y,Y r] σ=U Ϛ f:=λe=>kL h J C.i (o:=m) (s:=s) rfl ln e;obtain⟨v,f1,⟨R,u⟩|⟨R,n,u⟩⟩:=e1
 ·refine⟨k.as,v,A,W$ uC h u I R (ϑ ⟨rfl,rfl⟩) ?_,YL h hr hrb hN u f1⟩;by_cases c:0<y % 8
  ·exact ϑ ⟨c,[],e3 u⟩
  ·exact ϕ ⟨c,rfl⟩
 ·have j:=f1 r _ (ϕ hrb) hr;have Q:=u.YC j hrb$ ώ$ A.map Sn.D++[s.D];have E:(v.set r$ ώ$ A.map Sn.D++[s.D])[r]?=SY (ώ$ (A++[s]).map Sn.D):=by
   rw[Ia (aa.mp j).1,List.map_append];rfl
  have ap:=LI j (by rw[Ha];omega) s.D;have am:=λfs=>zz j fs;have x:∀ d o,d≠r->(d<b\/b+6<d)->σ[d]?=SY o->(v.set r$ ώ$ A.map Sn.D++[s.D])[d]?=SY o:=λd o O B e=>by rw[Za (λz=>O z.symm)];exact f1 d o B e
  generalize v.set r (ώ$ A.map Sn.D++[s.D])=a3 at *;have me:∀ y∈vj k.as (n,w),y∈k.as\/(AG T F (N+1) y.2/\y.2.p=p/\y.2.q=q):=λy hy=>by
   rcases OB hy with rfl|hy
   ·exact ϕ ⟨g1,p1,q1⟩
   ·exact ϑ hy
  by_cases c:0<y % 8
  ·obtain⟨f,ό,⟨t2,k3⟩|⟨t2,n2,k3⟩⟩:=e2 Q (k9 J p1.symm)
   ·exact⟨_,f,A++[s],W$ uC h Q I R (ϕ ⟨hR,ap,am⟩)$ ϑ ⟨c,[],t2⟩,k3,me,lA _ _,⟨ό r _ (ϕ hrb) E,ϕ ⟨s,nx.so.ok,rfl⟩⟩,λd o O B e=>ό d o B$ x d o O B e⟩
   ·refine⟨_,f,A++[s],W$ uC h Q I R (ϕ ⟨hR,ap,am⟩)$ ϑ ⟨c,_,t2⟩,k3,λz hz=>?_,(lA _ _).trans$ lA _ _,⟨ό r _ (ϕ hrb) E,ϕ ⟨s,nx.so.ok,rfl⟩⟩,λd o O B e=>ό d o B$ x d o O B e⟩;rcases OB hz with rfl|hz
    ·exact ϕ ⟨V,p2,q2⟩
    ·exact me z hz
  ·exact⟨_,a3,A++[s],W$ uC h Q I R (ϕ ⟨hR,ap,am⟩)$ ϕ ⟨c,rfl⟩,Q,me,lA _ _,⟨E,ϕ ⟨s,nx.so.ok,rfl⟩⟩,x⟩
theorem V1{x}{p}{m o}{G}{L}(f:(x,xg p 0 m o G L)∈k.as)(a:AG T F N$ xg p 0 m o G L)(u:T p<=2000000000000):∃ e d j,cc [Y b,Z p,Z 0,Z y,Y r] σ=U Ϛ d/\Fw T F N b p 0 r k σ A e d j:=by
 have n:=a.i;have E:=a.l o (by simp[xg]);cases n with
 |xg C hm g v t z B q=>
 obtain⟨s,nx,w⟩:=AO g u ⋯ ⋯ (ϑ rfl) σ;refine⟨k.as,σ,A,kL h f a.i (o:=o) rfl w$ uC h h (ϑ rfl) (ybi h f rfl a.i nx.so.ok) (ϑ ⟨rfl,rfl⟩) ?_,YL h hr hrb hN h$ .refl b σ⟩;by_cases c:0<y % 8
 ·exact ϑ ⟨c,[],eY h f a.i rfl nx.so.ok g.ok ⋯⟩
 simp_all
theorem Ş{z}{p}{m o}{G}{L}(f:(z,wait p 1 m o G L)∈k.as)(a:AG T F N$ wait p 1 m o G L)(v:T p<=2000000000000):∃ e d j,cc [Y b,Z p,Z 1,Z y,Y r] σ=U Ϛ d/\Fw T F N b p 1 r k σ A e d j:=by
 have q:=a.i;have H:=a.l o (by simp[wait]);cases q with
 |wait E hm g w u B C t=>
 obtain⟨s,nx,x⟩:=AO g v ⋯ ⋯ (ϕ rfl) σ;refine⟨k.as,σ,A,kL h f a.i (o:=o) rfl x$ uC h h (ϕ rfl) (JZ h f a.i rfl nx.so.ok) (ϑ ⟨rfl,rfl⟩) ?_,YL h hr hrb hN h$ .refl b σ⟩;by_cases c:0<y % 8
 ·exact ϑ ⟨c,[],U3 h f a.i rfl g.ok.st.n ⋯⟩
 simp_all
theorem ĉ{x}(m:x∈k.as)(e:AG T F N x.2)(j:T x.2.p<=2000000000000):∃ f d u,cc [Y b,Z x.2.p,Z x.2.q,Z y,Y r] σ=U Ϛ d/\Fw T F N b x.2.p x.2.q r k σ A f d u:=by
 obtain⟨n,a⟩:=x;have v:=e.i;cases v with
 |Lb t B hm z o s c=>exact fwc h hr hrb hAl hN m e j
 |xg t hm w l g o s c=>exact V1 h hr hrb hAl hN m e j
 |wait t hm w l g o s c=>exact Ş h hr hrb hAl hN m e j
end
noncomputable def ro(a:em)(k:Nat):Int:=a.getD k 0
def dH a k(c:0<=k) b:lc [.Vi a,Z k] b=U (Z$ ro a k.toNat) b:=by
 unfold lc ro Lc;by_cases h:k<a.length
 ·simp[h,W1 c h]
 ·have e:a.length<=k.toNat:=by lia
  simp[h,List.getElem?_eq_none e]
def zO a:Ft (Z 10) (Z 20) a=U (Z 100000000000000000000) a:=Yz (by simp[Rv])
def OL a:Ft (Z 5040) (Z 6) a=U (Z 16390160963076096000000) a:=Yz (by simp[Rv])
def XQ c k:∃ v:Int,∀ a,Ue [Z c,Z k] a=U (Z v) a:=by
 have d:∀ z y:Int,Gu (z % 2147483647) y=U2:=λz y=>DU ⋯ ⋯;have e:∀ z:Int,Gu z 48271=U2:=λz=>RW ⋯ ⋯;have b3:Gu 7919 k=U2:=DU ⋯ ⋯;have f:∀ z y:Int,Gu y (z % 2147483629)=U2:=λz y=>RW ⋯ ⋯;have b:=λ(z:Int) (a:Ga)=>bM (σ:=a) z (10 ^ 40) ⋯;by_cases h:c % 2=1
 ·exact⟨_,λa=>by unfold Ue Lc;simp[h,RM,d,e,b3,f,b,zO,OL];rfl⟩
 ·have g:(c % 2 == 1)=ŝ:=by simpa using h
  cases i:decide (100000000000000000000<=c / 2 % 10000000000000000000000000000000000000000)with
  |true=>exact⟨_,λa=>by unfold Ue Lc;simp[g,i,RM,d,e,b3,f,b,zO,OL];rfl⟩
  |false=>exact⟨_,λa=>by unfold Ue Lc;simp[g,i,RM,d,e,b3,f,b,zO,OL];rfl⟩
def Tc(a b:Ga):Prop:=∀ (r:Nat) (o:Ob),a[r]?=SY o->b[r]?=SY o
def Tc.set{a b}(h:Tc a b){n}(c:a.length<=n) o:Tc a$ b.set n o:=λr x e=>by
 have:=(aa.mp e).1;exact ue ⋯$ h r x e
def Tc.app a j:Tc a$ a++j:=λb b e=>bj e
noncomputable def sd(q:Int)(j:Nat):Int:=if j=0 then q else 1 - q
def yV{q}(a:q=0\/q=1) j:sd q j=0\/sd q j=1:=by unfold sd;split<;>omega
structure BI(T:Int->Int)(q:Int)(i:Nat)(B:Bs):Prop where
 y:0<=B.y/\B.y<=i
 s:∀ j,j<2->(B.S j).length<=i
 c:∀ j,j<2->B.C j=.held\/∃ x y,B.C j=.laid (1 - sd q j) x y/\x.Ok (T j)/\0<=y/\y<=B.y
structure OA(T:Int->Int)(ra:Nat)(rr:Nat->Nat)(A:Nat->List Sn)(σ:Ga):Prop where
 h:σ[ra]?=SY (ώ [Y (rr 0),Y (rr 1)])
 a:∀ j,j<2->σ[rr j]?=SY (ώ ((A j).map Sn.D))/\A j≠[]/\(A j).length<=100/\∀ s∈A j,s.Ok (T j)
def OA.ext{T}{d}{f}{A}{b g}(h:OA T d f A b)(e:Tc b g):OA T d f A g:=⟨e _ _ h.h,λj c=>⟨e _ _ (h.a j c).1,(h.a j c).2⟩⟩
noncomputable abbrev bE(c b:Nat)(q:Int)(a:em)(k v p:Option D)(o:Option D):Ev:=[SY$ Y c,SY$ Y b,SY$ ύ [Z q,Z$ 1 - q],SY$ ύ$ a.map Z,k,v,p,o]
section
variable{T:Int->Int}{P:Nat->Pt}{c ra i:Nat}{rr:Nat->Nat}{A:Nat->List Sn}{B:Bs}{q:Int}{σ0 σ:Ga}(h:Fh c P B σ)(hc:σ0.length=c)(hE:Tc σ0 σ)(hI:BI T q i B)(hG0:OA T ra rr A σ0)(hq:q=0\/q=1)(hi:i<=100)(hP:∀ j,j<2->(P j).Ok/\(P j).u+(P j).v=T j)
include h hc hE hI hG0 hq hi hP
theorem U9 J k v o:∃ o' r d,PL (bE c ra q J k (SY$ Z v) (SY$ Z$ v / 8 % 2) o) σ=U (Ϙ$ bE c ra q J k (SY$ Z v) (SY$ Z$ v / 8 % 2) o') d/\Fh c P r d/\Tc σ0 d/\BI T q (i+1) r:=by
 obtain⟨j,p,X⟩:∃ j:Nat,j<2/\v / 8 % 2=(j:Int):=⟨(v / 8 % 2).toNat,by lia,by lia⟩
 rw[X];have M:=hG0.ext hE;have ms:=Wl h "show" 3 Zx;have ό:=Wl h "told" 2 Zn;have ml:=Wl h "lay" 5 qe;have R:=Wl h "next_day" 1 xz;have z:=gC h p;by_cases I:v % 8<3
 ·have hw:0<=v / 16 % 8/\v / 16 % 8<=59:=by lia
  obtain⟨l,ϋ,sh,f⟩:=tU h p hw (by have:=hI.s j p;lia);have hl:l.length<=i+1:=by
   have:=hI.s j p;have:=PH (B.S j) (v / 16 % 8) B.y;rw[ϋ];split<;>omega
  have W:=hE.set (n:=c+3+j) ⋯$ Ϗ$ Zc l;refine⟨o,_,_,?_,f,W,⟨by have:=hI.y;dsimp only;omega,λm g=>?_,hI.c⟩⟩
  ·simp only[bE];generalize σ.set (c+3+j) (Ϗ$ Zc l)=F at *;simp[I,ms,sh]
  ·show (Fb B.S j l m).length<=i+1;by_cases e:m=j
   ·rw[e,Wv];exact hl
   ·rw[ny _ _ e];have:=hI.s m g;omega
 ·have nx:∃ r d,xz [Y c] σ=U Ϛ d/\Fh c P r d/\Tc σ0 d/\BI T q (i+1) r:=by
   obtain⟨w,e,f⟩:=g8 h;refine⟨_,_,e,f,hE.set ⋯ w,⟨by have:=hI.y;dsimp only;omega,λm g=>by have:=hI.s m g;dsimp only;omega,λm g=>?_⟩⟩
   ·rcases hI.c m g with e|⟨x,y,e,h1,h2,h3⟩
    ·exact ϑ e
    ·exact ϕ ⟨x,y,e,h1,h2,by dsimp only;omega⟩
  obtain⟨H,t,K,rest⟩:=nx;by_cases E:v % 8=3
  ·rcases hI.c j p with u|⟨x,y,u,_⟩
   ·rw[u]at z;obtain⟨L,gn,gl,gs⟩:=M.a j p;have a0:0<(A j).length:=Ls.mpr gn;have i1:Cb (Y ra) (Z j) σ=U (Y$ rr j) σ:=yA M.h (by rcases(show j=0\/j=1 by omega)with rfl|rfl<;>rfl);have la:Ce σ (rr j)=SY ((A j).map Sn.D):=by unfold Ce;rw[L]
    have ln:Dn [Y$ rr j] σ=U (Z (A j).length) σ:=by unfold Dn;simp[Nh,la]
    have Q:jj (Z$ v / 16) (Z (A j).length) σ=U (Z$ v / 16 % ((A j).length:Int)) σ:=bM _ _ ⋯;have n0:=kn (v / 16) (show ((A j).length:Int)≠0 by omega);have n1:=Zu (v / 16) (show (0:Int)<(A j).length by omega);obtain⟨m,g,ϊ⟩:∃ m:Nat,m<(A j).length/\v / 16 % ((A j).length:Int)=(m:Int):=⟨(v / 16 % ((A j).length:Int)).toNat,by omega,by omega⟩
    obtain⟨x,N⟩:∃ x,(A j)[m]?=SY x:=⟨_,xb g⟩
    have xs:=gs x$ ua N;rw[ϊ]at Q;have i2:Cb (Y$ rr j) (Z m) σ=U x.D σ:=yA L (by rw[Ca,N];rfl);have i3:∀ σ,Cb (ύ [Z q,Z$ 1 - q]) (Z j) σ=U (Z$ sd q j) σ:=λσ=>by
     rcases(show j=0\/j=1 by omega)with rfl|rfl<;>simp[sd]
    have eq:∀ σ,Hh Cl.held.tl (ϒ [ϐ "held"]) σ=U (ϓ U2) σ:=λσ=>cD (by simp[pla,plb,plc,pld,ple,Cl.tl]);have so:=yV hq j;obtain⟨w,O,f⟩:=ZW h p (s:=1 - sd q j) ⋯ (x:=x) (by rw[(hP j p).2];exact xs) (hP j p).1 u (G:=ag j (sd q j) x.D) (ϕ$ by rw[show 1 - (1 - sd q j)=sd q j by omega]);unfold ag at O;refine⟨SY x.D,_,_,?_,f,hE.set ⋯ w,⟨by have:=hI.y;dsimp only;omega,λm g=>by have:=hI.s m g;dsimp only;omega,λm g=>?_⟩⟩
    ·simp only[bE];generalize σ.set (c+1) w=F at *;generalize Cl.held.tl=V,x.D=XD at *;simp[E,ό,z,eq,i1,ln,Q,i2,i3,ml,O]
    ·show Fb B.C j _ m=_\/∃ x y,Fb B.C j _ m=_/\_;by_cases e:m=j
     ·rw[e,Wv];exact ϕ ⟨x,B.y,rfl,xs,hI.y.1,Int.le_refl _⟩
     ·rw[ny _ _ e];exact hI.c m g
   ·rw[u]at z;have ne:∀ σ,Hh (Cl.laid (1 - sd q j) x y).tl (ϒ [ϐ "held"]) σ=U (ϓ ŝ) σ:=λσ=>uB (by simp[Cl.tl,eqa,eqb,eqc,eqd,yi]);refine⟨o,H,t,?_,rest⟩;simp only[bE];generalize (Cl.laid (1 - sd q j) x y).tl=V at *;simp[E,ό,z,ne,R,K]
  ·refine⟨o,H,t,?_,rest⟩;simp only[bE];have b:(v % 8 == 3)=ŝ:=by simp[E]
   simp[I,b,R,K]
end
section
variable{T:Int->Int}{P:Nat->Pt}{c ra:Nat}{rr:Nat->Nat}{A:Nat->List Sn}{B:Bs}{q:Int}{σ0 σ:Ga}(h:Fh c P B σ)(hc:σ0.length=c)(hE:Tc σ0 σ)(hI:BI T q 0 B)(hG0:OA T ra rr A σ0)(hq:q=0\/q=1)(hP:∀ j,j<2->(P j).Ok/\(P j).u+(P j).v=T j)
include h hc hE hI hG0 hq hP
theorem ľ{a:em}(ϋ:a.length<=18):∃ l b,lf [Y c,Y ra,ύ [Z q,Z$ 1 - q],ύ$ a.map Z] σ=U Ϛ b/\Fh c P l b/\Tc σ0 b/\BI T q 18 l:=by
 obtain⟨X,b,R,ϊ,v',p',o',l,rfl,r,z,g⟩:=Tv (xs:=(List.range a.length).map λ(i:Nat)=>Z i) (tg:=jc 4) (body:=Sb vK$ Sb tN PL) (λi ρ f=>∃ k v p o B,ρ=bE c ra q a k v p o/\Fh c P B f/\Tc σ0 f/\BI T q i B) (by simp;lia) (ϑ rfl) (λi d ρ f C K=>by
  obtain⟨k,v,p,o,B,rfl,r,z,g⟩:=K;rw[Ca]at C;obtain⟨m,N,rfl⟩:=Ra.mp C;obtain⟨L,rfl⟩:i<a.length/\m=i:=by
   obtain⟨I,J⟩:=aa.mp N;exact⟨by simpa using I,by simpa using J.symm⟩
  obtain⟨n,x⟩:∃ n,a[m]?=SY n:=⟨_,xb L⟩
  obtain⟨w,S⟩:=XQ n m;have O:∀ f,Cb _ _ f=U (Z n) f:=λf=>xI$ ut (by rw[Ca,x];rfl);obtain⟨ό,E,σ2,e,t,A,u⟩:=U9 r hc z g hG0 hq ⋯ hP a (SY$ Z m) w o;refine⟨bE c ra q a (SY _) v p o,_,σ2,rfl,?_,SY$ Z m,SY$ Z w,SY$ Z$ w / 8 % 2,ό,E,rfl,t,A,u⟩;have G:vK (bE c ra q a (SY$ Z m) v p o) f=U (Ϙ$ bE c ra q a (SY$ Z m) (SY$ Z w) p o) f:=by
   simp only[bE];generalize ύ (a.map Z)=F at *;simp[O,S]
  have H:tN (bE c ra q a (SY$ Z m) (SY$ Z w) p o) f=U (Ϙ$ bE c ra q a (SY$ Z m) (SY$ Z w) (SY$ Z$ w / 8 % 2) o) f:=by
   simp[bE]
  rw[Zf,G,zd,ug,Zf,H,zd,ug,e]) (ρ:=bE c ra q a ń ń ń ń) (σ:=σ) ⟨ń,ń,ń,ń,B,rfl,h,hE,hI⟩
 refine⟨l,b,?_,r,z,⟨?_,λj M=>?_,g.c⟩⟩
 ·have Q:Dn [ύ$ a.map Z] σ=U (Z a.length) σ:=by unfold Dn;simp[Nh]
  have V:ot (Z a.length) σ=U (.seq$ (List.range a.length).map λ(i:Nat)=>Z i) σ:=by
   unfold ot;dsimp only;rw[na (by simp[zu];lia)];rfl
  unfold lf DS
  (try dsimp only);rw[zp,uA]
  show Jp (Fk _ _ _ (bE c ra q a ń ń ń ń) σ)=_;rw[dw];have W:io (Qm Dn$ Fa (ka 3) ib) (bE c ra q a ń ń ń ń) σ=U (.seq$ (List.range a.length).map λ(i:Nat)=>Z i) σ:=by
   simp only[bE];generalize ύ (a.map Z)=F at *;simp[Q,V]
  rw[W,qm,R,EM]
 ·have:=g.y;simp at this;lia
 ·have:=g.s j M;simp at this;omega
end
def AG.up{T}{F}{N M}{a}(h:AG T F N a)(b:N<=M):AG T F M a:=⟨h.i.up b,h.g,λs c=>by have:=h.l s c;lia⟩
structure LF(T:Int->Int)(F:Int->Sn)(q:Int)(b ra:Nat)(rr:Nat->Nat)(k0:Kp)(i:Nat)(as:List Ka)(A:Nat->List Sn)(σ:Ga):Prop where
 h:Th b { k0 with as:=as } σ
 a:∀ x∈as,AG T F ((i+1 - x.2.p.toNat) / 2) x.2/\x.2.q=sd q x.2.p.toNat
 ps:as.map (·.2.p)=[0,1]
 g:OA T ra rr A σ
 l:∀ j,j<2->(A j).length<=1+i
def LF.up{T}{F}{q}{b f}{k}{e}{i}{c}{A}{m}(h:LF T F q b f k e i c A m):LF T F q b f k e (i+1) c A m:=⟨h.h,λx d=>⟨(h.a x d).1.up ⋯,(h.a x d).2⟩,h.ps,h.g,λj n=>by have:=h.l j n;lia⟩
section
variable{T:Int->Int}{F:Int->Sn}{q:Int}{b ra:Nat}{rr:Nat->Nat}{k0:Kp}{i:Nat}{as:List Ka}{A:Nat->List Sn}{σ:Ga}(h:LF T F q b ra rr k0 i as A σ)(hi:i<8)(hT:∀ p,T p<=2000000000000)(hra:b+6<ra/\b+6<rr 0/\b+6<rr 1/\ra≠rr 0/\ra≠rr 1/\rr 0≠rr 1)
include h hi hT hra
theorem LF.fwd y:∃ k G d,cc [Y b,Z ((i % 2:Nat):Int),Z$ sd q$ i % 2,Z y,Y$ rr$ i % 2] σ=U Ϛ d/\LF T F q b ra rr k0 (i+1) k G d:=by
 have r:i % 2<2:=Xu _ ⋯;have N:((i % 2:Nat):Int)∈as.map (·.2.p):=by
  rw[h.ps];rcases(show i % 2=0\/i % 2=1 by lia)with e|e<;>rw[e]<;>simp
 obtain⟨x,E,ex⟩:=Xa.mp N;obtain⟨C,w⟩:=h.a x E;have O:x.2.p.toNat=i % 2:=by lia
 rw[O]at C w;obtain⟨K,M,L,B⟩:=h.g.a _ r;have v:b+6<rr (i % 2):=by rcases(show i % 2=0\/i % 2=1 by omega)with e|e<;>rw[e]<;>lia
 apply b_;intro z_;obtain⟨k,d,H,e,c⟩:=ĉ h.h K v (by have:=h.l _ r;omega) ⋯ (y:=y) E C (hT _);rw[ex,w]at e;rw[ex,w]at c;apply z_;refine⟨k,Fb A (i % 2) H,d,e,⟨c.L6,λz u=>?_,c.ps.trans h.ps,⟨?_,λj m=>?_⟩,λj m=>?_⟩⟩
 ·rcases c.a z u with u|⟨g,p,P⟩
  ·exact⟨(h.a z u).1.up ⋯,(h.a z u).2⟩
  ·have Q:z.2.p.toNat=i % 2:=by omega
   rw[Q];exact⟨g.up ⋯,P⟩
 ·exact c.f ra _ (by rcases(show i % 2=0\/i % 2=1 by omega)with e|e<;>rw[e]<;>omega) (ϕ hra.1) h.g.h
 ·by_cases n:j=i % 2
  ·rw[n,Wv];refine⟨c.A.1,?_⟩;rcases c.A.2 with rfl|⟨s,D,rfl⟩
   ·exact⟨M,L,B⟩
   ·refine⟨by simp,by have:=h.l _ r;simp;omega,λt o=>?_⟩;rcases jb.mp o with o|o
    ·exact B t o
    ·rw[Oa.mp o];exact D
  ·rw[ny _ _ n];obtain⟨I,J⟩:=h.g.a j m;refine⟨c.f (rr j) _ ?_ ?_ I,J⟩
   ·rcases(show j=0\/j=1 by omega)with rfl|rfl<;>rcases(show i % 2=0\/i % 2=1 by omega)with e|e<;>rw[e]<;>omega
   ·rcases(show j=0\/j=1 by omega)with rfl|rfl<;>omega
 ·by_cases n:j=i % 2
  ·rw[n,Wv];have:=h.l _ r;rcases c.A.2 with rfl|⟨s,D,rfl⟩
   ·omega
   ·simp;omega
  ·rw[ny _ _ n];have:=h.l j m;omega
end
noncomputable def gE(a:em)(d e:D)(q:Int)(f g h:D)(b c:Nat)(z:Ev):Ev:=SY (.Vi a)::SY d::SY e::SY (ύ [Z q,Z$ 1 - q])::SY f::SY g::SY h::SY (Y b)::SY (Y c)::z
section
variable{T:Int->Int}{F:Int->Sn}{q:Int}{b ra:Nat}{rr:Nat->Nat}{k0:Kp}{as:List Ka}{A:Nat->List Sn}{σ:Ga}(h:LF T F q b ra rr k0 0 as A σ)(hT:∀ p,T p<=2000000000000)(hra:b+6<ra/\b+6<rr 0/\b+6<rr 1/\ra≠rr 0/\ra≠rr 1/\rr 0≠rr 1)(ns:em)(x1 x2 x4 x5 x6:D)(z:Ev)
include h hT hra
theorem ĝ:∃ r j o A' n,rF (gE ns x1 x2 q x4 x5 x6 b ra$ ń::ń::z) σ=U (Ϙ$ gE ns x1 x2 q x4 x5 x6 b ra$ r::j::z) n/\LF T F q b ra rr k0 8 o A' n:=by
 obtain⟨S,n,O,r,j,o,A',rfl,t⟩:=Tv (xs:=Zs 4 8) (tg:=jc 9) (body:=kI) (λi ρ l=>∃ r j as A,ρ=gE ns x1 x2 q x4 x5 x6 b ra (r::j::z)/\LF T F q b ra rr k0 i as A l) (by simp[Zs]) (ϑ rfl) (λi d ρ l v H=>by
  obtain⟨r,j,as,A,rfl,t⟩:=H;obtain⟨I,rfl⟩:i<8/\d=Z (4+i):=by
   apply b_;intro z_;unfold Zs at v;rw[Ca]at v;obtain⟨m,K,rfl⟩:=Ra.mp v;obtain⟨E,G⟩:=aa.mp K;have e:m=i:=by simpa using G.symm
   apply z_;exact⟨by simpa using E,by rw[e]⟩
  obtain⟨w,P⟩:=XQ (ro ns (4+(i:Int)).toNat) (4+i);have u:XM (gE ns x1 x2 q x4 x5 x6 b ra$ SY (Z$ 4+i)::j::z) l=U (Ϙ$ gE ns x1 x2 q x4 x5 x6 b ra$ SY (Z$ 4+i)::SY (Z w)::z) l:=by
   unfold gE;simp[(λl=>dH ns (4+i) ⋯ l),P]
  have C:(4+(i:Int)) % 2=((i % 2:Nat):Int):=by lia
  have L:∀ σ,Cb (ύ [Z q,Z$ 1 - q]) (Z ((i % 2:Nat):Int)) σ=U (Z$ sd q$ i % 2) σ:=λσ=>by
   rcases(show i % 2=0\/i % 2=1 by lia)with e|e<;>rw[e]<;>simp[sd]
  have N:Cb _ (Z ((i % 2:Nat):Int)) l=U (Y$ rr$ i % 2) l:=yA t.g.h (by rcases(show i % 2=0\/i % 2=1 by lia)with e|e<;>rw[e]<;>rfl);have x:∃ k s σ2,IN (gE ns x1 x2 q x4 x5 x6 b ra$ SY (Z$ 4+i)::SY (Z w)::z) l=U (Ϙ$ gE ns x1 x2 q x4 x5 x6 b ra$ SY (Z$ 4+i)::SY (Z w)::z) σ2/\LF T F q b ra rr k0 (i+1) k s σ2:=by
   by_cases c:0<w % 3
   ·apply b_;intro z_;obtain⟨k,s,σ2,e,p⟩:=t.fwd I hT hra (w / 3);apply z_;refine⟨k,s,σ2,?_,p⟩;unfold gE;generalize ((i % 2:Nat):Int)=J at *;simp[c,C,L,N,e]
   ·refine⟨as,A,l,?_,t.up⟩;unfold gE;simp[c]
  obtain⟨k,s,σ2,B,p⟩:=x;refine⟨gE ns x1 x2 q x4 x5 x6 b ra$ SY (Z$ 4+i)::j::z,_,σ2,rfl,?_,SY$ Z$ 4+i,SY$ Z w,k,s,rfl,p⟩;rw[show kI=Sb XM IN from rfl,Zf,u,zd,ug,B]) (ρ:=gE ns x1 x2 q x4 x5 x6 b ra$ ń::ń::z) (σ:=σ) ⟨ń,ń,as,A,rfl,h⟩
 refine⟨r,j,o,A',n,?_,by simpa [Zs]using t⟩;rw[show rF=Fk (oD (eC$ Z 4)$ eC$ Z 12) (jc 9) kI from rfl,dw];have R:oD (eC$ Z 4) (eC$ Z 12) (gE ns x1 x2 q x4 x5 x6 b ra$ ń::ń::z) σ=U (.seq$ Zs 4 8) σ:=by
  have Q:∀ σ,cE (Z 4) (Z 12) σ=U (.seq$ Zs 4 8) σ:=λσ=>by
   unfold cE;dsimp only;rw[na (by simp only[zu,zp,Da,Gc];lia)];rfl
  have e:∀ (f g:Ev->M D) ρ σ,oD f g ρ σ=(f ρ σ).bind (uO$ g ρ):=λf g ρ σ=>Ii ..;have u:∀ (y:M D) a σ,uO y a σ=(y σ).bind (cE a):=λy a σ=>Ii ..;simp[e,u,Q]
 rw[R,qm,O]
end
noncomputable def LD(b:Nat)(e y:Int):List$ Str × D:=[("hand",Z 1),("every",Z e),("last_look",Z y),("gave",Z 0),("known",Y (b+1)),("accounts",Y (b+2)),("claims",Y (b+3)),("seen",Y (b+4)),("asked",Y (b+5)),("finishing",Y (b+6))]
set_option genInjectivity false in
structure Lk where
 (e y:Int)
 K:em
 n:Nat->Nat
 a:Nat->Ac
 C:Nat->D
 E:Nat->D
 F:Kv
noncomputable def Lk.A(l:Lk):Kv:=[(.inl 0,Y (l.n 0)),(.inl 1,Y (l.n 1))]
structure KL(b:Nat)(l:Lk)(o:Ob)(σ:Ga):Prop where
 h0:σ[b]?=SY (ϔ 10 (LD b l.e l.y))
 h1:σ[b+1]?=SY (Ϗ (yj l.K))
 h2:σ[b+2]?=SY o
 h3:σ[b+3]?=SY (Ϗ [(.inl 0,l.C 0),(.inl 1,l.C 1)])
 h4:σ[b+4]?=SY (Ϗ [(.inl 0,l.E 0),(.inl 1,l.E 1)])
 h6:σ[b+6]?=SY (Ϗ l.F)
 a:∀ j,j<2->Bi σ (l.n j) (l.a j)/\(l.a j).Ok
def Q3{b}{k}{i}(h:Th b k i)(c:k.as.map (·.2.p)=[0,1]):∃ l:Lk,KL b l (Ϗ l.A) i/\l.e=k.e/\l.y=0/\l.K=k.K/\l.F=k.F/\(∀ j,j<2->(l.n j,l.a j)∈k.as/\(l.a j).p=j/\l.C j=.gt ["held"]/\l.E j=Ϭ [] []):=by
 match e:k.as,c with
 |[x0,d],c=>
  have f:x0.2.p=0:=by simpa using (Im c).1
  have g:d.2.p=1:=by simpa using (Im (Im c).2).1
  refine⟨⟨k.e,0,k.K,λj=>if j=0 then x0.1 else d.1,λj=>if j=0 then x0.2 else d.2,λq=>.gt ["held"],λq=>Ϭ [] [],k.F⟩,⟨h.v.h0,h.v.h1,?_,?_,?_,h.h6,λj m=>?_⟩,rfl,rfl,rfl,rfl,λj m=>?_⟩
  ·have:=h.h2;rw[e]at this;rw[this];simp[AV,Lk.A,f,g]
  ·have:=h.v.h3;rw[e]at this;rw[this];simp[CV,f,g]
  ·have:=h.v.h4;rw[e]at this;rw[this];simp[SV,f,g]
  ·rcases(show j=0\/j=1 by lia)with rfl|rfl
   ·exact h.a x0 ⋯
   ·exact h.a d (by rw[e];simp)
  ·rcases(show j=0\/j=1 by lia)with rfl|rfl;all_goals simp_all
 |[],c=>cases c
 |[_],c=>simp_all
 |_::_::_::_,c=>simp_all
section
variable{b:Nat}{l:Lk}{o:Ob}{σ:Ga}(h:KL b l o σ)
include h
theorem KL.app j:KL b l o$ σ++j:=⟨bj h.h0,bj h.h1,bj h.h2,bj h.h3,bj h.h4,bj h.h6,λi c=>⟨(h.a i c).1.app j,(h.a i c).2⟩⟩
theorem KL.set{r}(f:r<b\/b+6<r\/r=b+5)(d:∀ j,j<2->l.n j≠r) x:KL b l o$ σ.set r x:=⟨ue ⋯ h.h0,ue ⋯ h.h1,ue ⋯ h.h2,ue ⋯ h.h3,ue ⋯ h.h4,ue ⋯ h.h6,λj c=>⟨ue (λe=>d j c e.symm) (h.a j c).1,(h.a j c).2⟩⟩
theorem Dy:di σ (Y b)=SY (10,LD b l.e l.y):=by unfold di;simp[h.h0]
theorem P4:Cc [9,10] "every" (Y b) σ=U (Z l.e) σ:=Ph (Dy h) rfl rfl
theorem DE:Cc [9,10] "last_look" (Y b) σ=U (Z l.y) σ:=Ph (Dy h) rfl rfl
theorem CP:Cc [9,10] "known" (Y b) σ=U (Y$ b+1) σ:=Ph (Dy h) rfl rfl
theorem bN:Cc [10] "accounts" (Y b) σ=U (Y$ b+2) σ:=Ph (Dy h) rfl rfl
theorem fC:Cc [10,15] "claims" (Y b) σ=U (Y$ b+3) σ:=Ph (Dy h) rfl rfl
theorem QL:Cc [10] "seen" (Y b) σ=U (Y$ b+4) σ:=Ph (Dy h) rfl rfl
theorem K4:Cc [10] "finishing" (Y b) σ=U (Y$ b+6) σ:=Ph (Dy h) rfl rfl
theorem lq m n a(d:((LD b l.e l.y).lookup m=ń)⁻¹) c:Pk [(10,a)] n m c (Y b) σ=(c σ).bind (Ai n a$ Y b):=Xp (Dy h) rfl d
theorem HR{c:Nat->D}{n}(a:σ[n]?=SY (Ϗ [(.inl 0,c 0),(.inl 1,c 1)])){j:Nat}(b:j<2):gk (Y n) (Z j) σ=U (c j) σ:=aF a (by rcases(show j=0\/j=1 by lia)with rfl|rfl<;>rfl)
theorem oK{j:Nat}(a:j<2):gk (Y$ b+3) (Z j) σ=U (l.C j) σ:=HR h h.h3 a
theorem NQ{j:Nat}(a:j<2):gk (Y$ b+4) (Z j) σ=U (l.E j) σ:=HR h h.h4 a
theorem nW{c}{n}(a:σ[n]?=SY (Ϗ [(.inl 0,c 0),(.inl 1,c 1)])){j:Nat}(b:j<2) d ρ:wo ρ d (Y n) (Z j) σ=U (Ϙ ρ) (σ.set n$ Ϗ [(.inl 0,Fb c j d 0),(.inl 1,Fb c j d 1)]):=by
 rw[nt a ⋯];rcases(show j=0\/j=1 by lia)with rfl|rfl<;>rfl
theorem eX{j:Nat}(c:j<2) d(g:∀ j,j<2->l.n j≠b+3):∃ x,(∀ f,wo f d (Y$ b+3) (Z j) σ=U (Ϙ f) (σ.set (b+3) x))/\KL b { l with C:=Fb l.C j d } o (σ.set (b+3) x):=
 ⟨_,nW h h.h3 c d,⟨ue ⋯ h.h0,ue ⋯ h.h1,ue ⋯ h.h2,Ia (aa.mp h.h3).1,ue ⋯ h.h4,ue ⋯ h.h6,λj c=>⟨ue (λe=>g j c e.symm) (h.a j c).1,(h.a j c).2⟩⟩⟩
theorem W5{j:Nat}(c:j<2) d(g:∀ j,j<2->l.n j≠b+4):∃ x,(∀ f,wo f d (Y$ b+4) (Z j) σ=U (Ϙ f) (σ.set (b+4) x))/\KL b { l with E:=Fb l.E j d } o (σ.set (b+4) x):=
 ⟨_,nW h h.h4 c d,⟨ue ⋯ h.h0,ue ⋯ h.h1,ue ⋯ h.h2,ue ⋯ h.h3,Ia (aa.mp h.h4).1,ue ⋯ h.h6,λj c=>⟨ue (λe=>g j c e.symm) (h.a j c).1,(h.a j c).2⟩⟩⟩
end
def B2{a}{n c}{b}(h:a[n]?=SY (ϔ c b)){cs}(g:cs.contains c=U2)(i:b.length<1000) ρ f d:Vr ρ cs f d (Y n) a=U (Ϙ ρ) (a.set n$ ϔ c$ Ih f d b):=by
 have e:iw cs f d (Y n) a=U () (a.set n$ ϔ c$ Ih f d b):=by
  unfold iw;simp only[h];rw[na ⋯]
 unfold Vr;rw[e]
section
variable{b:Nat}{l:Lk}{o:Ob}{σ:Ga}(h:KL b l o σ)
include h
theorem oE{j}(g:j<2):l.n j≠b/\l.n j≠b+1/\l.n j≠b+3/\l.n j≠b+4/\l.n j≠b+6:=by
 obtain⟨d,ok⟩:=h.a j g;unfold Bi at d;refine⟨λe=>?_,λe=>?_,λe=>?_,λe=>?_,λe=>?_⟩
 ·have f:=h.h0;rw[e,f]at d;injection (Ub d)with e2 _;have:=ok.c;rw[<-e2]at this;simp at this
 ·have f:=h.h1;rw[e,f]at d;cases d
 ·have f:=h.h3;rw[e,f]at d;cases d
 ·have f:=h.h4;rw[e,f]at d;cases d
 ·have f:=h.h6;rw[e,f]at d;cases d
theorem JJ{A A':Kv}(g:o=Ϗ A\/o=ϥ A) c:KL b l c$ σ.set (b+2) c:=⟨ue ⋯ h.h0,ue ⋯ h.h1,Ia (aa.mp h.h2).1,ue ⋯ h.h3,ue ⋯ h.h4,ue ⋯ h.h6,λj d=>⟨ue (λe=>by
 have f:=(h.a j d).1;unfold Bi at f;rw[<-e,h.h2]at f;rcases g with rfl|rfl<;>cases f) (h.a j d).1,(h.a j d).2⟩⟩
theorem N4{c}{P}{B}(v:Fh c P B σ)(k:b+6<c) i:∃ f,JN [SY$ Y b,SY$ Y c,i] σ=U (Ϙ [SY$ Y b,SY$ Y c,i]) (σ.set b f)/\KL b { l with y:=B.y } o (σ.set b f)/\Fh c P B (σ.set b f):=by
 refine⟨ϔ 10 _,?_,⟨Ia (aa.mp h.h0).1,ue ⋯ h.h1,ue ⋯ h.h2,ue ⋯ h.h3,ue ⋯ h.h4,ue ⋯ h.h6,λj d=>⟨ue (λe=>(oE h d).1 e.symm) (h.a j d).1,(h.a j d).2⟩⟩,v.set (ϑ$ by lia) _⟩;have g:=λρ=>B2 h.h0 (cs:=[9,10]) rfl (by simp[LD]) ρ "last_look"$ Z B.y;rw[show Ih "last_look" (Z B.y) _=LD b l.e B.y from rfl]at g;simp[(fJ v),(Wl v "today" 1 vt),g]
theorem UV{c}{P}{B}(v:Fh c P B σ)(F:b+6<c){j:Nat}(g:j<2):∃ a,yN [SY$ Y b,SY$ Y c,SY$ Z j] σ=U (Ϙ [SY$ Y b,SY$ Y c,SY$ Z j]) a/\KL b { l with C:=Fb l.C j (B.C j).tl,E:=Fb l.E j (Y σ.length) } o a/\Fh c P B a/\a.length=σ.length+1/\a[σ.length]?=SY (Ϗ$ Zc$ B.S j)/\∀ r,b+4<r->∀ x,σ[r]?=SY x->a[r]?=SY x:=by
 obtain⟨x,s1,G⟩:=eX h g (B.C j).tl (λm k=>(oE h k).2.2.1);have L:=gC v g;have J:=Wl v "told" 2 Zn;have s:=v.set (n:=b+3) (ϑ$ by lia) x;have f:(σ.set (b+3) x).length=σ.length:=si;have w:∀ r,b+4<r->∀ z,σ[r]?=SY z->(σ.set (b+3) x)[r]?=SY z:=λr i z e=>ue ⋯ e;generalize σ.set (b+3) x=d at *;have u:=ZL s g;have I:=Wl s "shown_for" 2 Yv;have p:=G.app [Ϗ$ Zc$ B.S j];have M:=s.app [Ϗ$ Zc$ B.S j];have q:(d++[Ϗ$ Zc$ B.S j]).length=σ.length+1:=by simp[f]
 have D:(d++[Ϗ$ Zc$ B.S j])[σ.length]?=SY (Ϗ$ Zc$ B.S j):=by rw[<-f];simp
 have A:∀ r,b+4<r->∀ x,σ[r]?=SY x->(d++[Ϗ$ Zc$ B.S j])[r]?=SY x:=λr i x e=>bj$ w r i x e;rw[f]at u;generalize d++[Ϗ$ Zc$ B.S j]=t at *;obtain⟨y,K,H⟩:=W5 p g (Y σ.length) (λm k=>(oE p k).2.2.2.1);have bl:b+4<σ.length:=by have:=(aa.mp v.h0).1;lia
 refine⟨_,?_,H,M.set (ϑ$ by lia) _,by rw[si,q],ue ⋯ D,λr i x e=>ue ⋯$ A r i x e⟩;generalize t.set (b+4) y=N at *;generalize (B.C j).tl=O at *;simp[L,J,(fC h),s1,u,I,(QL p),K]
end
section
variable{b:Nat}{l:Lk}{σ σ1 σ2:Ga}(h:KL b l (Ϗ l.A) σ){tg:D->Ev->Option Ev}{body:Ev->M Fl}{r:Ev}{ρ1 ρ2 ρ3 ρ4:Ev}
include h
theorem WW:be (Cc [10] "accounts") (ka 0) (SY (Y b)::r) σ=U (Y$ b+2) σ:=by
 have:=bN h
 simp_all
theorem ā(g:tg (Z 0) (SY (Y b)::r)=SY ρ1)(d:body ρ1 (σ.set (b+2)$ ϥ l.A)=U (Ϙ ρ2) σ1)(i:tg (Z 1) ρ2=SY ρ3)(e:body ρ3 σ1=U (Ϙ ρ4) σ2)(c:σ2[b+2]?=SY (ϥ l.A)):Av (be (Cc [10] "accounts")$ ka 0) (Up (jG$ be (Cc [10] "accounts")$ ka 0) tg body) (SY (Y b)::r) σ=U (Ϙ ρ4) (σ2.set (b+2)$ Ϗ l.A):=by
 have a:=WW h (r:=r);have f:jG (be (Cc [10] "accounts")$ ka 0) (SY (Y b)::r) σ=U (CD l.A) (σ.set (b+2)$ ϥ l.A):=by
  show Ic _ gJ _=_;rw[Ii,a,zd];unfold gJ;simp[h.h2]
 refine KJ a h.h2 f ?_ c;rw[xx rfl g,d,zd,Vm,xx rfl i,e,zd,Vm];exact yF rfl
theorem bK(f:tg (ϒ [Z 0,Y$ l.n 0]) (SY (Y b)::r)=SY ρ1)(d:body ρ1 (σ.set (b+2)$ ϥ l.A)=U (Ϙ ρ2) σ1)(g:tg (ϒ [Z 1,Y$ l.n 1]) ρ2=SY ρ3)(e:body ρ3 σ1=U (Ϙ ρ4) σ2)(c:σ2[b+2]?=SY (ϥ l.A)):Av (be (Cc [10] "accounts")$ ka 0) (Up (Rx$ be (Cc [10] "accounts")$ ka 0) tg body) (SY (Y b)::r) σ=U (Ϙ ρ4) (σ2.set (b+2)$ Ϗ l.A):=by
 have a:=WW h (r:=r);refine KJ a h.h2 (MS a h.h2) ?_ c;rw[xx rfl f,d,zd,Vm,xx rfl g,e,zd,Vm];exact yF$ WN l.A _
theorem ð{c}{P}{B}(v:Fh c P B σ)(f:b+6<c):∃ N d,vL [SY$ Y b,SY$ Y c,ń] σ=U (Ϙ [SY$ Y b,SY$ Y c,SY$ Z 1]) d/\KL b { l with C:=λj=>(B.C j).tl,E:=λj=>Y$ N+j } (Ϗ l.A) d/\Fh c P B d/\c+4<N/\∀ j,j<2->d[N+j]?=SY (Ϗ$ Zc$ B.S j):=by
 apply b_;intro z_;have t:=JJ h (A:=l.A) (A':=l.A) (ϑ rfl)$ ϥ l.A;have z:=v.set (n:=b+2) (ϑ$ by lia)$ ϥ l.A;have w:(σ.set (b+2)$ ϥ l.A).length=σ.length:=si;obtain⟨σ1,p,m,x,o,i,F⟩:=UV t z f (j:=0) ⋯;obtain⟨σ2,q,g,y,u,k,s⟩:=UV m x f (j:=1) ⋯;have cl:c+4<σ.length:=(aa.mp$ v.h3 1$ by omega).1;rw[w]at o i m g;rw[o]at u k g;have e:=JJ g (A:=l.A) (A':=l.A) (ϕ rfl)$ Ϗ l.A;apply z_;refine⟨σ.length,σ2.set (b+2)$ Ϗ l.A,?_,?_,y.set (ϑ$ by omega) _,cl,λj G=>?_⟩
 ·exact ā h (r:=[SY$ Y c,ń]) (tg:=jc 2) (body:=yN) rfl p rfl q g.h2
 ·have D:Fb (Fb l.C 0 (B.C 0).tl) 1 (B.C 1).tl 0=(B.C 0).tl/\Fb (Fb l.C 0 (B.C 0).tl) 1 (B.C 1).tl 1=(B.C 1).tl:=⟨rfl,rfl⟩
  exact⟨e.h0,e.h1,e.h2,e.h3,e.h4,e.h6,e.a⟩
 ·rcases(show j=0\/j=1 by omega)with rfl|rfl
  ·exact ue ⋯$ s _ ⋯ _ i
  ·exact ue ⋯ k
end
structure KB(b c:Nat)(P:Nat->Pt)(B:Bs)(l:Lk)(N:Nat)(S:Nat->List (Int × Int))(o:Ob)(σ:Ga):Prop where
 k:KL b l o σ
 v:Fh c P B σ
 bc:b+6<c
 cn:c+4<N
 e:∀ j,j<2->l.E j=Y (N+j)
 s:∀ j,j<2->σ[N+j]?=SY (Ϗ (Zc (S j)))
 n:∀ j,j<2->l.n j<c
section
variable{b c:Nat}{P:Nat->Pt}{B:Bs}{l:Lk}{N:Nat}{S:Nat->List (Int × Int)}{o:Ob}{σ:Ga}(h:KB b c P B l N S o σ)
include h
theorem KB.app j:KB b c P B l N S o$ σ++j:=⟨h.k.app j,h.v.app j,h.bc,h.cn,h.e,λi a=>bj$ h.s i a,h.n⟩
theorem KB.swap{A}(f:o=Ϗ A\/o=ϥ A) a:KB b c P B l N S a$ σ.set (b+2) a:=by
 have:=h.bc;have:=h.cn;exact⟨JJ h.k (A':=A) f a,h.v.set (ϑ$ by lia) a,h.bc,h.cn,h.e,λi d=>ue ⋯$ h.s i d,h.n⟩
theorem KB.setC{j:Nat}(g:j<2) d:∃ x,(∀ a,wo a d (Y$ b+3) (Z j) σ=U (Ϙ a) (σ.set (b+3) x))/\KB b c P B { l with C:=Fb l.C j d } N S o (σ.set (b+3) x):=by
 obtain⟨x,s1,q⟩:=eX h.k g d (λm p=>(oE h.k p).2.2.1);have:=h.bc;have:=h.cn;exact⟨x,s1,q,h.v.set (ϑ$ by lia) _,h.bc,h.cn,h.e,λi f=>ue ⋯$ h.s i f,h.n⟩
theorem KB.Vt f:KB b c P B { l with K:=f } N S o$ σ.set (b+1)$ Ϗ$ yj f:=by
 have:=h.bc;have:=h.cn;exact⟨⟨ue ⋯ h.k.h0,Ia (aa.mp h.k.h1).1,ue ⋯ h.k.h2,ue ⋯ h.k.h3,ue ⋯ h.k.h4,ue ⋯ h.k.h6,λj d=>⟨ue (λe=>(oE h.k d).2.1 e.symm) (h.k.a j d).1,(h.k.a j d).2⟩⟩,h.v.set (ϑ$ by lia) _,h.bc,h.cn,h.e,λi g=>ue ⋯$ h.s i g,h.n⟩
theorem KB.book{r}(g:c<=r/\r<=c+4){x}{a}(v:Fh c P a$ σ.set r x):KB b c P a l N S o$ σ.set r x:=by
 have:=h.bc;have:=h.cn;exact⟨h.k.set (ϕ$ ϑ$ by lia) (λj f=>by have:=h.n j f;lia) x,v,h.bc,h.cn,h.e,λi d=>ue ⋯$ h.s i d,h.n⟩
theorem KB.seen{j}(d:j<2) s:KB b c P B l N (Fb S j s) o$ σ.set (N+j)$ Ϗ$ Zc s:=by
 have:=h.bc;have:=h.cn;refine⟨h.k.set (ϕ$ ϑ$ by lia) (λj d=>by have:=h.n j d;lia) _,h.v.set (ϕ$ by lia) _,h.bc,h.cn,h.e,λi a=>?_,h.n⟩;by_cases e:i=j
 ·subst e;rw[Ia (aa.mp$ h.s i a).1,Wv]
 ·rw[Za ⋯,ny _ _ e];exact h.s i a
theorem ū{ws:em}(d:l.K.length+ws.length<900):∃ a,qt [Y b,ύ$ ws.map Z] σ=U Ϛ a/\KB b c P B { l with K:=ws.foldl Qh l.K } N S o a:=⟨_,vT h.k.h0 rfl h.k.h1 d,h.Vt _⟩
theorem D3(j:(B.S 0).length+(B.S 1).length<64)(n:l.K.length<=300) d:∃ a,UM [SY$ Y b,SY$ Y c,d] σ=U (Ϙ [SY$ Y b,SY$ Y c,d]) a/\KB b c P B { l with K:=(nk$ bf (bf []$ B.S 0)$ B.S 1).foldl Qh l.K } N S o a:=by
 have f:=BP h.v j;have p:(nk$ bf (bf []$ B.S 0)$ B.S 1).length<64:=by
  have g:=uz []$ B.S 0;have m:=uz (bf []$ B.S 0)$ B.S 1;unfold nk;rw[(Uq _).length_eq,Ha];simp at g;lia
 obtain⟨a,e,i⟩:=ū h (ws:=nk$ bf (bf []$ B.S 0)$ B.S 1) ⋯;refine⟨a,?_,i⟩;generalize ύ _=W at *;simp[f,(Wl h.v "all_shown" 1 Vx),(lq h.k "learn" 2 qt),e]
end
theorem jV(b:Ga)(n:Int):∀ a:em,Gp b (Z n) (a.map Z)=SY (a.map λm=>m == n)
 |[]=>rfl
 |m::a=>by
  simp[Va];unfold Gp;rw[(jV b n a)];simp[eqa,eqb,eqc,eqd]
def NW b n(a:em):Xq ŝ (Z n) (ύ$ a.map Z) b=U (ϓ$ (a.map λm=>m == n).any id) b:=cW (iW _)$ jV b n a
noncomputable def Cl.gu(q:Int)(a:em):Cl->Bool
 | .laid s x _=>decide (s≠q) && (a.map λm=>m == x.n).any id
 |_=>ŝ
def g6{b}{n}{a}(h:Bi b n a)(o:a.Ok){f}(e:a.L=f.map Z)(c:Cl):Zg [Y n,c.tl] b=U (ϓ$ c.gu a.q f) b:=by
 have sd:=Eu h o;have st:=TJ h o;rw[e]at st;have j:=λn=>NW b n f;unfold Zg Lc;cases c with
 |held=>
  have d:=AH;generalize Cl.held.tl=g at *;simp[d,wA,Cl.gu]
 |taken s=>
  have d:=LJ s;generalize (Cl.taken s).tl=g at *;simp[d,wA,Cl.gu]
 |laid s x y=>
  have d:=GE s x y;have k:=λb=>s0 x b;have i:=λb=>nD s a.q b;generalize (Cl.laid s x y).tl=g,x.D=m,ύ _=l at *;by_cases e:s=a.q
  ·subst e;simp[d,sd,i,Cl.gu]
  ·simp[d,k,sd,st,i,j,Cl.gu,e]
structure KD(b c:Nat)(P:Nat->Pt)(B:Bs)(l:Lk)(N:Nat)(S:Nat->List (Int × Int))(o:Ob)(d:Nat)(ds:i')(σ:Ga):Prop where
 kb:KB b c P B l N S o σ
 hd:N+1<d
 g:σ[d]?=SY (ώ ds)
 s:∀ j,j<2->l.C j=(B.C j).tl
 y:l.y=B.y
noncomputable def Cl.day:Cl->Int
 | .laid _ _ y=>y
 |_=>0
def ip(q:Int)(a:em)(y w:Int)(c:Cl):Bool:=c.gu q a && decide (y<c.day+w)
def VS f g j(c:Cl)(h:∀ j,j<2->f j=(g j).tl):∀ m,m<2->Fb f j c.tl m=(Fb g j c m).tl:=λm a=>by
 by_cases e:m=j
 ·rw[e,Wv,Wv]
 ·rw[ny _ _ e,ny _ _ e,h m a]
section
variable{b c:Nat}{P:Nat->Pt}{B:Bs}{l:Lk}{N:Nat}{S:Nat->List (Int × Int)}{o:Ob}{d:Nat}{ds:i'}{σ:Ga}(h:KD b c P B l N S o d ds σ)(hl:ds.length<100){j:Nat}(hj:j<2)
include h hl
theorem KD.add x:Pg (Y d) [x] σ=U Ϛ (σ.set d$ ώ$ ds++[x])/\KD b c P B l N S o d (ds++[x]) (σ.set d$ ώ$ ds++[x]):=by
 have:=h.kb.bc;have:=h.kb.cn;have:=h.hd;refine⟨LI h.g ⋯ x,⟨⟨h.kb.k.set (ϕ$ ϑ$ by lia) (λj hj=>by have:=h.kb.n j hj;lia) _,h.kb.v.set (ϕ$ by lia) _,h.kb.bc,h.kb.cn,h.kb.e,λi a=>ue ⋯$ h.kb.s i a,h.kb.n⟩,h.hd,Ia (aa.mp h.g).1,h.s,h.y⟩⟩
include hj
theorem XV{m}(eL:(l.a j).L=m.map Z)(ep:(l.a j).p=j)(I:∀ s x y,B.C j=.laid s x y->s≠(l.a j).q->s=1 - (l.a j).q/\x.Ok ((P j).u+(P j).v)){A E}(hw:∀ σ,Cb (ύ [Z A,Z E]) (Z j) σ=U (Z (P j).w) σ) z:∃ B' C' J z',OJ [SY$ Y b,SY$ Y c,SY$ Y d,SY$ ύ [Z A,Z E],SY$ Z j,SY$ Y$ l.n j,z] σ=U (Ϙ [SY$ Y b,SY$ Y c,SY$ Y d,SY$ ύ [Z A,Z E],SY$ Z j,SY$ Y$ l.n j,z']) J/\KD b c P B' { l with C:=C' } N S o d (ds++if ip (l.a j).q m B.y (P j).w (B.C j)then [ϒ [ϐ "strike",Z j]]else []) J/\B'=(if ip (l.a j).q m B.y (P j).w (B.C j)then { B with C:=Fb B.C j (.taken (l.a j).q) } else B):=by
 apply b_;intro z_;obtain⟨R,ok⟩:=h.kb.k.a j hj;have kc:=fC h.kb.k;have O:=oK h.kb.k hj;rw[h.s j hj]at O;have ϋ:=DE h.kb.k;rw[h.y]at ϋ;have H:=g6 R ok eL$ B.C j;apply z_;cases f:(B.C j).gu (l.a j).q m with
 |false=>
  have e:ip (l.a j).q m B.y (P j).w (B.C j)=ŝ:=by unfold ip;rw[f];rfl
  rw[f]at H;refine⟨B,l.C,σ,SY (B.C j).tl,?_,by rw[e];simpa using h,by rw[e];rfl⟩;generalize (B.C j).tl=TD,ύ [Z A,Z E]=WD at *;simp[kc,O,H]
 |true=>
  rw[f]at H;obtain⟨x,y,I,V⟩:∃ x y,B.C j=.laid (1 - (l.a j).q) x y/\x.Ok ((P j).u+(P j).v):=by
   cases Q:B.C j with
   |held=>rw[Q]at f;cases f
   |taken s=>rw[Q]at f;cases f
   |laid s x y=>
    rw[Q]at f;unfold Cl.gu at f;simp only[Da,Gc]at f;obtain⟨e,V⟩:=I s x y Q f.1;exact⟨x,y,by rw[e],V⟩
  ·have W:=GE (1 - (l.a j).q) x y;rw[<-I]at W;have ey:(B.C j).day=y:=by rw[I];rfl
   by_cases F:B.y<y+(P j).w
   ·have e:ip (l.a j).q m B.y (P j).w (B.C j)=U2:=by unfold ip;rw[f,ey,zf F];rfl
    rw[e];obtain⟨ob,st,T⟩:=Q8 h.kb.v hj (s:=(l.a j).q) ok.q V I F;have mk:∀ G,Pk [(5,Qj),(6,Qj),(7,Qj),(8,Qj)] 3 "strike_of" G (Y$ l.n j) σ=(G σ).bind (Ai 3 Qj$ Y$ l.n j):=λG=>by
     refine Xp (Tp R) ?_ rfl;have:=ok.c;simp at this;rcases this with e|e|e|e<;>rw[e]<;>rfl
    have so:=kQ R ok (1 - (l.a j).q) x;rw[ep]at so;have m4:∀ (ό:i'->M D) (x a b c:D) σ,Ai 4 ό x [a,b,c] σ=ό [x,a,b,c] σ:=λό x a b c σ=>Iy rfl;have t:=h.kb.book (r:=c+1) ⋯ (x:=ob) T;have g1:(σ.set (c+1) ob)[d]?=SY (ώ ds):=by have:=h.hd;have:=h.kb.cn;exact ue ⋯ h.g
    generalize σ.set (c+1) ob=i at *;have a2:=Eu (t.k.a j hj).1 ok;have a0:=fC t.k;obtain⟨X,sC,ϊ⟩:=t.setC hj (Cl.taken (l.a j).q).tl;have g2:(i.set (b+3) X)[d]?=SY (ώ ds):=by have:=h.hd;have:=h.kb.cn;have:=h.kb.bc;exact ue ⋯ g1
    have sC:∀ ρ,wo ρ (ϒ [ϐ "taken",Z (l.a j).q]) (Y$ b+3) (Z j) i=U (Ϙ ρ) (i.set (b+3) X):=sC;generalize i.set (b+3) X=K at *;have kd:KD b c P { B with C:=Fb B.C j (.taken (l.a j).q) } { l with C:=Fb l.C j (Cl.taken (l.a j).q).tl } N S o d ds K:=⟨ϊ,h.hd,g2,VS _ _ j _ h.s,h.y⟩
    obtain⟨ad,a1⟩:=kd.add hl (ϒ [ϐ "strike",Z j]);have am:=λG=>zz g2 G;refine⟨_,_,_,SY (B.C j).tl,?_,a1,rfl⟩;generalize K.set d (ώ$ ds++[ϒ [ϐ "strike",Z j]])=a3 at *;generalize (B.C j).tl=TD,ύ [Z A,Z E]=WD,x.D=XD,Si j (1 - (l.a j).q) x.n=SK at *;simp[kc,O,H,ϋ,W,hw,F,(Eu R ok),(Wl h.kb.v "strike" 4 QA),mk,so,m4,st,a2,a0,sC,am,ad]
   ·have e:ip (l.a j).q m B.y (P j).w (B.C j)=ŝ:=by unfold ip;rw[f,ey,re F];rfl
    refine⟨B,l.C,σ,SY (B.C j).tl,?_,by rw[e];simpa using h,by rw[e];rfl⟩;generalize (B.C j).tl=TD,ύ [Z A,Z E]=WD at *;simp[kc,O,H,ϋ,W,hw,F]
end
def Hi(l:Lk)(P:Nat->Pt)(L:Nat->em)(B:Bs)(j:Nat):Bool:=ip (l.a j).q (L j) B.y (P j).w$ B.C j
def dr(l:Lk)(P:Nat->Pt)(L:Nat->em)(B:Bs)(j:Nat):Bs:=if Hi l P L B j then { B with C:=Fb B.C j (.taken (l.a j).q) } else B
def ye(l:Lk)(P:Nat->Pt)(L:Nat->em)(B:Bs)(j:Nat):i':=if Hi l P L B j then [ϒ [ϐ "strike",Z j]]else []
section
variable{b c:Nat}{P:Nat->Pt}{B:Bs}{l:Lk}{N:Nat}{S:Nat->List (Int × Int)}{σ:Ga}(h:KB b c P B l N S (Ϗ l.A) σ)(hs:∀ j,j<2->l.C j=(B.C j).tl)(hy:l.y=B.y){L:Nat->em}(eL:∀ j,j<2->(l.a j).L=(L j).map Z)(ep:∀ j,j<2->(l.a j).p=j)(hc:∀ j,j<2->∀ s x y,B.C j=.laid s x y->s≠(l.a j).q->s=1 - (l.a j).q/\x.Ok ((P j).u+(P j).v))
include h hs hy eL ep hc
theorem A0:∃ J o,RA [Y b,Y c] σ=U (Y σ.length) o/\KD b c P (dr l P L (dr l P L B 0) 1) { l with C:=J } N S (Ϗ l.A) σ.length (ye l P L B 0++ye l P L B 1) o:=by
 have I:N+1<σ.length:=(aa.mp$ h.s 1$ by lia).1;have t:=h.app [ώ []];have ϊ:=Z5 t.v;have mm:=Wl t.v "made_of" 1 Yy;have V:(σ++[ώ []])[σ.length]?=SY (ώ []):=by simp
 have fE:=t.swap (A:=l.A) (ϑ rfl)$ ϥ l.A;have W:((σ++[ώ []]).set (b+2)$ ϥ l.A)[σ.length]?=SY (ώ []):=by have:=h.bc;have:=h.cn;exact ue ⋯ V
 have z:KD b c P B l N S (ϥ l.A) σ.length []$ (σ++[ώ []]).set (b+2)$ ϥ l.A:=⟨fE,I,W,hs,hy⟩
 have H:∀ j:Nat,j<2->∀ σ,Cb (ύ [Z (P 0).w,Z (P 1).w]) (Z j) σ=U (Z (P j).w) σ:=λj hj σ=>by
  rcases(show j=0\/j=1 by lia)with rfl|rfl<;>simp
 obtain⟨d,K,E,z1,R,u,e⟩:=XV z ⋯ (j:=0) ⋯ (eL 0$ by omega) (ep 0$ by omega) (hc 0$ by omega) (H 0$ by omega) ń;have e:d=dr l P L B 0:=e;have u:KD b c P d { l with C:=K } N S (ϥ l.A) σ.length ([]++ye l P L B 0) E:=u;rw[uf]at u;have x:d.C 1=B.C 1/\d.y=B.y:=by
  rw[e];unfold dr;split
  ·exact⟨rfl,rfl⟩
  ·exact⟨rfl,rfl⟩
 have Q:(ye l P L B 0).length<100:=by unfold ye;split<;>simp
 apply b_;intro z_;obtain⟨F,G,n,z2,T,m,f⟩:=XV u Q (j:=1) ⋯ (eL 1$ by omega) (ep 1$ by omega) (by rw[x.1];exact hc 1 ⋯) (H 1$ by omega) z1;have sc:ip (l.a 1).q (L 1) d.y (P 1).w (d.C 1)=Hi l P L B 1:=by unfold Hi;rw[x.1,x.2]
 apply z_;have f:F=dr l P L d 1:=f;have ό:(if ip (l.a 1).q (L 1) d.y (P 1).w (d.C 1)then [ϒ [ϐ "strike",Z 1]]else [])=ye l P L B 1:=by rw[sc];rfl
 have m:KD b c P F { l with C:=G } N S (ϥ l.A) σ.length (ye l P L B 0++if ip (l.a 1).q (L 1) d.y (P 1).w (d.C 1)then [ϒ [ϐ "strike",Z 1]]else []) n:=m;rw[ό]at m;rw[e]at f;rw[f]at m;have Df:=m.kb.swap (A:=l.A) (ϕ rfl)$ Ϗ l.A;have X:(n.set (b+2)$ Ϗ l.A)[σ.length]?=SY (ώ$ ye l P L B 0++ye l P L B 1):=by have:=h.bc;have:=h.cn;exact ue ⋯ m.g
 refine⟨G,n.set (b+2)$ Ϗ l.A,?_,⟨Df,I,X,m.s,m.y⟩⟩;have th:=bK t.k (r:=[SY$ Y c,SY$ Y σ.length,SY$ ύ [Z (P 0).w,Z (P 1).w],ń,ń,ń]) (tg:=rl 2$ Vf (jc 4)$ Vf (jc 5) cm) (body:=OJ) rfl R rfl T m.kb.k.h2;have ϋ:Sh (Ei (Jj$ kg$ Ye [(15,Yy)] 1 "made_of" (ka 1) ib) [] (jc 0) Ej$ Sa Cb (ka 0)$ eC$ Z 4) [SY$ Y b,SY$ Y c,SY$ Y σ.length,ń,ń,ń,ń] (σ++[ώ []])=U (ύ [Z (P 0).w,Z (P 1).w]) (σ++[ώ []]):=by
  refine bA (s:=.seq [(P 0).D,(P 1).D]) (xs:=[P 0,P 1]) Pt.D (λp=>Z p.w) (by
   simp[ϊ,mm]) (λi j=>by rcases i with _|_|i<;>rfl) ⋯ (λp _ j=>by
   have:=λσ=>(p.i σ).2.2;generalize p.D=PD at *;simp[this]) (λ_ _=>rfl)
 unfold RA JV Ff
 (try dsimp only);rw[zp,uA]
 show Jp (Sb _ _ [SY$ Y b,SY$ Y c,ń,ń,ń,ń,ń] σ)=_;have M:de 2 (No ib) [SY$ Y b,SY$ Y c,ń,ń,ń,ń,ń] σ=U (Ϙ [SY$ Y b,SY$ Y c,SY$ Y σ.length,ń,ń,ń,ń]) (σ++[ώ []]):=by simp
 have O:de 3 (Sh$ Ei (Jj$ kg$ Ye [(15,Yy)] 1 "made_of" (ka 1) ib) [] (jc 0) Ej$ Sa Cb (ka 0)$ eC$ Z 4) [SY$ Y b,SY$ Y c,SY$ Y σ.length,ń,ń,ń,ń] (σ++[ώ []])=U (Ϙ [SY$ Y b,SY$ Y c,SY$ Y σ.length,SY$ ύ [Z (P 0).w,Z (P 1).w],ń,ń,ń]) (σ++[ώ []]):=by
  simp[ϋ,-bp]
 rw[Zf,M,zd,ug,Zf,O,zd,ug,Zf,th,zd,ug];simp
end
noncomputable def sa(q d a:Int):Int:=if q=0 then a+d else a
noncomputable def sb(q d b:Int):Int:=if q=0 then b else b+d
def i8{q}(e:q=0\/q=1) a b d c:Kk [ϒ [Z a,Z b],Z q,Z d] c=U (ϒ [Z$ sa q d a,Z$ sb q d b]) c:=by
 unfold Kk sa sb Lc;rcases e with rfl|rfl<;>simp
def Cl.st(a:Ac):Cl->List Sn
 | .held=>a.y
 | .laid _ x _=>[x]
 | .taken s=>[⟨0,sa s (a.m.a+a.m.b+yo a.m.ts) 0,sb s (a.m.a+a.m.b+yo a.m.ts) 0,[]⟩]
def Cl.Ok:Cl->Prop
 | .taken s=>s=0\/s=1
 |_=>True
def R1{d}{n}{a}(h:Bi d n a)(f:a.Ok)(l:a.m.ts.length<=6){c:Cl}(k:c.Ok):ze [Y n,c.tl] d=U (ύ$ (c.st a).map Sn.D) d:=by
 have g:=vB h f;unfold ze Lc;cases c with
 |held=>
  have e:=AH;show _=U (ύ$ a.y.map Sn.D) d;simp[e,(mE h f),(qD a.y)]
 |laid s x y=>
  have e:=GE s x y;have i:=cr x;show _=U (ύ [x.D]) d;simp[e,wA,i]
 |taken s=>
  have e:=LJ s;have j:=λd=>xH a.m.n a.m.a a.m.b l d;show _=U (ύ [ϒ [Z 0,ϒ [Z _,Z _],ϒ []]]) d;unfold Sn.D at g;simp[e,wA,g,j,(λd=>i8 (k) 0 0 (a.m.a+a.m.b+yo a.m.ts) d)]
def Cl.tt(a:Ac)(c:Cl):List Ti:=(c.st a).flatMap λs=>s.ts.filter λt=>decide$ t.p≠a.q
def Τ{b}{n}{a}(h:Bi b n a)(v:a.Ok)(H:a.m.ts.length<=6){c:Cl}(G:c.Ok)(hn:(c.st a).length<=3)(x:∀ s∈c.st a,s.ts.length<=6):jk [Y n,c.tl] b=U (ύ$ (c.tt a).map Ti.D) b:=by
 have st:=R1 (h.app [ώ []]) v H G;have B:∀ (f:List Sn),(∀ s∈f,s.ts.length<=6)->(f.flatMap λs=>s.ts.filter λt=>decide$ t.p≠a.q).length<=6 * f.length:=λf=>by
  induction f with
  |nil=>simp
  |cons s f I=>
   intro u;have ό:=I λz o=>u z$ ja _ o;have V:=u s va;have W:=Bc (λt=>decide$ t.p≠a.q) s.ts;rw[Re,db,Ab];lia
 obtain⟨N,O,g,z,rfl,rfl⟩:=Tv (S:=.seq$ (c.st a).map Sn.D) (xs:=(c.st a).map Sn.D) (tg:=jc 3) (body:=uM) (λi ρ y=>∃ z,ρ=[SY$ Y n,SY c.tl,SY$ Y b.length,z]/\y=b++[ώ$ (((c.st a).take i).flatMap λs=>s.ts.filter λt=>decide$ t.p≠a.q).map Ti.D]) (by simp;lia) (ϑ rfl) (λi d ρ y w E=>by
  apply b_;intro z_;obtain⟨z,rfl,rfl⟩:=E;rw[Ca]at w;obtain⟨s,k,rfl⟩:=Ra.mp w;have X:=(aa.mp k).1;have sl:=x s$ ua k;have M:=B ((c.st a).take i) λz o=>x z$ List.mem_of_mem_take o;rw[We]at M;generalize F:((c.st a).take i).flatMap (λs=>s.ts.filter λt=>decide$ t.p≠a.q)=ϋ at *;have e:((c.st a).take$ i+1).flatMap (λs=>s.ts.filter λt=>decide$ t.p≠a.q)=ϋ++s.ts.filter λt=>decide$ t.p≠a.q:=by rw[jz,k,List.flatMap_append,F];simp
  apply z_;rw[e];have C:=Bc (λt=>decide$ t.p≠a.q) s.ts;have ex:=sQ (σ:=b) (ys:=ϋ.map Ti.D) (zs:=(s.ts.filter λt=>decide$ t.p≠a.q).map Ti.D) (by rw[Ha,Ha];lia);rw[<-List.map_append]at ex;have K:∀ m,Jr wv m (Y b.length) (b++[ώ$ ϋ.map Ti.D])=(m$ b++[ώ$ ϋ.map Ti.D]).bind (wv$ Y b.length):=λm=>VC (xs:=ϋ.map Ti.D) (by unfold wf Ce;simp);have J:=λb=>s2 s b;have l:Sh (Ei (Jj$ kg$ Sa Cb (ka 3)$ eC$ Z 2) [0] (jc 0) (eT$ Sa ah (Sa Cb (ka 0)$ eC$ Z 0)$ be (Cc [5,6,7,8,13,14] "side")$ ka 2)$ ka 0) [SY$ Y n,SY c.tl,SY$ Y b.length,SY s.D] (b++[ώ$ ϋ.map Ti.D])=U (ύ$ (s.ts.filter λt=>decide$ t.p≠a.q).map Ti.D) (b++[ώ$ ϋ.map Ti.D]):=by
   refine Xz (s:=.seq$ s.ts.map Ti.D) (xs:=s.ts) Ti.D Ti.D (λt=>decide$ t.p≠a.q) ?_ (λi j=>by show SY ((s.ts.map Ti.D)[i]?)=_;rw[Ca]) ⋯ (λt _ j=>?_) (λt _ _=>UG t)
   ·generalize s.D=A,c.tl=r at *;simp[J]
   ·have sd:=Eu ((h.app [ώ$ ϋ.map Ti.D]).app j) v;have L:∀ b,Cb t.D (Z 0) b=U (Z t.p) b:=λb=>by unfold Ti.D;simp
    generalize b++[ώ$ ϋ.map Ti.D]++j=Q at *;generalize t.D=TT at *;exact⟨by simp[sd,L,(λb=>nD t.p a.q b)],λ_=>by simp⟩
  refine⟨_,[SY$ Y n,SY c.tl,SY$ Y b.length,SY s.D],_,rfl,?_,SY s.D,rfl,rfl⟩;generalize b++[ώ$ (ϋ++s.ts.filter λt=>decide$ t.p≠a.q).map Ti.D]=ϊ at *;generalize (s.ts.filter λt=>decide$ t.p≠a.q).map Ti.D=P at *;generalize b++[ώ$ ϋ.map Ti.D]=T at *;generalize s.D=A,c.tl=r at *;simp[K,l,ex,-bp]) (ρ:=[SY$ Y n,SY c.tl,SY$ Y b.length,ń]) (σ:=b++[ώ []]) ⟨ń,rfl,rfl⟩
 rw[Ha,Md]at g;have g:ek (jc 3) uM ((c.st a).map Sn.D) [SY$ Y n,SY c.tl,SY$ Y b.length,ń] (b++[ώ []])=U (Ϙ [SY$ Y n,SY c.tl,SY$ Y b.length,z]) (b++[ώ$ (c.tt a).map Ti.D]):=g;have ct:xf ((c.tt a).map Ti.D)=U2:=CH λt=>UG t;unfold jk uV Lc;dsimp only;generalize (c.tt a).map Ti.D=TT,(c.st a).map Sn.D=R,c.tl=r at *;simp[st,g,(Ax (σ:=b) ct)]
theorem NU(w:Int):∀ K:em,Wk (yj K) (.inl w)=if w∈K then SY (ϓ U2)else ń
 |[]=>rfl
 |v::K=>by
  unfold Wk yj at *;rw[Va,Xd];by_cases e:v=w
  ·simp[e]
  ·have a:¬ (Sum.inl v:Vc)=Sum.inl w:=λz=>e$ Sum.inl.inj z;have b:¬ w=v:=λz=>e z.symm;simp only[a,Ba,b,false_or];exact(NU w K)
def xl(l:Lk)(S:List$ Int × Int)(t:Ti):Bool:=decide (t.w∈l.K) && (!(vl S t.w).isSome && (decide (l.y<t.y) && decide (t.y<=l.y+l.e)))
section
variable{b c:Nat}{P:Nat->Pt}{B:Bs}{l:Lk}{N:Nat}{S:Nat->List (Int × Int)}{o:Ob}{d:Nat}{ds:i'}{σ:Ga}(h:KD b c P B l N S o d ds σ){j:Nat}(hj:j<2)(t:Ti)
include h hj
theorem ġ:MB [Y b,Z j,t.D] σ=U (ϓ$ xl l (S j) t) σ:=by
 have o:=CP h.kb.k;have ks:=QL h.kb.k;have c:=NQ h.kb.k hj;rw[h.kb.e j hj]at c;have m:∀ σ,Cb t.D (Z 2) σ=U (Z t.w) σ:=λσ=>by unfold Ti.D;simp
 have n:∀ σ,Cb t.D (Z 3) σ=U (Z t.y) σ:=λσ=>by unfold Ti.D;simp
 have p:oq (Z t.w) (Y$ b+1) σ=U (ϓ$ !decide (t.w∈l.K)) σ:=by
  have a:Of σ (Y$ b+1)=SY (yj l.K):=by unfold Of;simp[h.kb.k.h1]
  unfold oq;simp[Jk,a,NU]
  grind
 have d:Ps (Z t.w) (Y$ N+j) σ=U (ϓ (vl (S j) t.w).isSome) σ:=by
  have a:Of σ (Y$ N+j)=SY (Zc$ S j):=by unfold Of;simp[h.kb.s j hj]
  unfold Ps;simp only[Jk,a,pF]
  simp_all
 unfold MB xl Pf;dsimp only;generalize t.D=q at *;by_cases f:t.w∈l.K
 ·cases g:(vl _ t.w).isSome with
  |true=>simp_all
  |false=>
   rw[g]at d;by_cases i:l.y<t.y<;>simp[o,ks,(DE h.kb.k),(P4 h.kb.k),c,m,n,p,d,f,i]
 simp_all
end
noncomputable def ci(j:Nat)(w:Int):D:=ϒ [ϐ "show",Z j,Z w]
def lj(l:Lk)(j:Nat):List Ti->List (Int × Int)->i' × List (Int × Int)
 |[],S=>([],S)
 |t::a,S=>if xl l S t then (ci j t.w::(lj l j a$ Nk S t.w l.y).1,(lj l j a$ Nk S t.w l.y).2)else lj l j a S
def Fz(N d:Nat)(b a:Ga):Prop:=∀ (r:Nat) (x:Ob),N+1<r->r≠d->b[r]?=SY x->a[r]?=SY x
def Fz.refl N d a:Fz N d a a:=λb b b b e=>e
def Fz.trans{N d}{a e f}(h:Fz N d a e)(g:Fz N d e f):Fz N d a f:=λr x b c z=>g r x b c$ h r x b c z
def Fz.set{N d} a{i}(f:i<=N+1\/i=d) o:Fz N d a$ a.set i o:=λr g b c e=>ue ⋯ e
structure KS(b c:Nat)(P:Nat->Pt)(B:Bs)(l:Lk)(N:Nat)(S:Nat->List (Int × Int))(o:Ob)(d:Nat)(ds:i')(σ:Ga):Prop where
 kd:KD b c P { B with S:=S } l N S o d ds σ
section
variable{b c:Nat}{P:Nat->Pt}{B:Bs}{l:Lk}{N:Nat}{o:Ob}{d:Nat}
def PY{S}{ds}{f}(h:KS b c P B l N S o d ds f){j}(u:j<2){t}(R:0<=t.w/\t.w<=59)(Q:ds.length<100)(ϊ:(S j).length<900) n:∃ p,LO [SY$ Y b,SY$ Y c,SY$ Y d,SY$ Z j,SY$ Y n,SY t.D] f=U (Ϙ [SY$ Y b,SY$ Y c,SY$ Y d,SY$ Z j,SY$ Y n,SY t.D]) p/\KS b c P B l N (if xl l (S j) t then Fb S j (Nk (S j) t.w l.y)else S) o d (if xl l (S j) t then ds++[ci j t.w]else ds) p/\Fz N d f p:=by
 have A:=ġ h.kd u t;have K:=lq h.kd.kb.k "is_to_show" 3 MB;cases e:xl l (S j) t with
 |false=>
  rw[e]at A;refine⟨f,?_,h,.refl _ _ _⟩;generalize t.D=L at *;simp[K,A]
 |true=>
  rw[e]at A;have ό:(vl (S j) t.w).isSome=ŝ:=by
   unfold xl at e;simp only[Da]at e;simpa using e.2.1
  obtain⟨s,z,V,C⟩:=tU h.kd.kb.v u R (show (S j).length<1000 by lia);have z:s=Nk (S j) t.w l.y:=by rw[h.kd.y];rw[z];simp[ό]
  have a:=h.kd.kb.book (r:=c+3+j) ⋯ C;have O:(f.set (c+3+j)$ Ϗ$ Zc s)[d]?=SY (ώ ds):=by have:=h.kd.hd;have:=h.kd.kb.cn;exact ue ⋯ h.kd.g
  have W:Fz N d f$ f.set (c+3+j)$ Ϗ$ Zc s:=.set f (by have:=h.kd.kb.cn;lia) _;generalize f.set _ (Ϗ$ Zc s)=m at *;have H:=QL a.k;have x:=NQ a.k u;rw[a.e j u]at x;have st:∀ ρ,wo ρ (Z l.y) (Y$ N+j) (Z t.w) m=U (Ϙ ρ) (m.set (N+j)$ Ϗ$ Zc s):=λρ=>by
   rw[nt (a.s j u) (by unfold Zc;simp;lia),HJ,z]
  have E:=a.seen u s;have J:(m.set (N+j)$ Ϗ$ Zc s)[d]?=SY (ώ ds):=by have:=h.kd.hd;exact ue ⋯ O
  have X:=W.trans$ .set m (i:=N+j) ⋯$ Ϗ$ Zc s;generalize m.set (N+j) (Ϗ$ Zc s)=q at *;have F:KD b c P { B with S:=Fb S j s } l N (Fb S j s) o d ds q:=⟨E,h.kd.hd,J,h.kd.s,h.kd.y⟩
  apply b_;intro z_;obtain⟨I,G⟩:=F.add Q (ci j t.w);have T:∀ f,Cb t.D (Z 2) f=U (Z t.w) f:=λf=>by unfold Ti.D;simp
  apply z_;refine⟨_,?_,⟨by rw[<-z];exact G⟩,X.trans$ .set q (ϕ rfl) _⟩;unfold ci at I ⊢;generalize q.set d (ώ$ ds++[ϒ [ϐ "show",Z j,Z t.w]])=ϋ at *;generalize t.D=L at *;simp[K,A,(Wl h.kd.kb.v "show" 3 Zx),T,V,(DE a.k),H,x,st,(λM=>zz J M),I]
def zz5{j}(G:j<2) n:∀ f {S} {ds} {g} x,KS b c P B l N S o d ds g->(∀ t∈f,0<=t.w/\t.w<=59)->ds.length+f.length<100->(S j).length+f.length<900->∃ q a,ek (jc 5) LO (f.map Ti.D) [SY$ Y b,SY$ Y c,SY$ Y d,SY$ Z j,SY$ Y n,x] g=U (Ϙ [SY$ Y b,SY$ Y c,SY$ Y d,SY$ Z j,SY$ Y n,q]) a/\KS b c P B l N (Fb S j (lj l j f$ S j).2) o d (ds++(lj l j f$ S j).1) a/\Fz N d g a:=by
 intro f;induction f with
 |nil=>
  intro S ds g x h _ _ _;refine⟨x,g,by simp,?_,.refl _ _ _⟩;have e:Fb S j (S j)=S:=by funext m;unfold Fb;split<;>simp[*]
  show KS b c P B l N (Fb S j$ S j) o d (ds++[]) g;rw[e,He];exact h
 |cons t f C=>
  intro S ds g x h A H I;rw[Ab]at H I;obtain⟨v,z,i,E⟩:=PY h G (A t va) ⋯ ⋯ n;have k:∀ u∈f,0<=u.w/\u.w<=59:=λu J=>A u$ ja _ J;have tg:jc 5 t.D [SY$ Y b,SY _,SY$ Y d,SY$ Z j,SY$ Y n,x]=SY [SY$ Y b,SY$ Y c,SY$ Y d,SY$ Z j,SY _,SY t.D]:=rfl;cases e:xl l (S j) t with
  |false=>
   apply b_;intro z_;rw[e]at i;obtain⟨q,a,r,p,s⟩:=C (SY t.D) i k (show ds.length+f.length<100 by lia) (show (S j).length+f.length<900 by omega);apply z_;refine⟨q,a,by rw[Va,Ay tg,z,zd,Vm,r],?_,E.trans s⟩;unfold lj;rw[e];exact p
  |true=>
   rw[e]at i;have i:KS b c P B l N (Fb S j$ Nk (S j) t.w l.y) o d (ds++[ci j t.w]) v:=i;have pl:=PH (S j) t.w l.y;obtain⟨q,a,r,p,s⟩:=C (SY t.D) i k (by simp;omega) (by rw[Wv];omega);refine⟨q,a,by rw[Va,Ay tg,z,zd,Vm,r],?_,E.trans s⟩;rw[Wv]at p;have F:Fb (Fb S j$ Nk (S j) t.w l.y) j (lj l j f$ Nk (S j) t.w l.y).2=Fb S j (lj l j f$ Nk (S j) t.w l.y).2:=by funext m;unfold Fb;split<;>rfl
   rw[F,Lf]at p;unfold lj;rw[e];exact p
end
structure Tk(l:Lk)(B:Bs)(j:Nat):Prop where
 m:(l.a j).m.ts.length<=6
 c:(B.C j).Ok
 n:((B.C j).st (l.a j)).length<=3
 t:∀ s∈(B.C j).st (l.a j),s.ts.length<=6/\∀ t∈s.ts,0<=t.w/\t.w<=59
def VH{l}{B}{j}(h:Tk l B j):((B.C j).tt$ l.a j).length<=18/\∀ t∈(B.C j).tt (l.a j),0<=t.w/\t.w<=59:=by
 have u:=h.n;have f:=h.t;unfold Cl.tt;generalize (B.C j).st (l.a j)=b at *;constructor
 ·have g:∀ (b:List Sn),(∀ s∈b,s.ts.length<=6)->(b.flatMap λs=>s.ts.filter λt=>decide$ t.p≠(l.a j).q).length<=6 * b.length:=λb=>by
   induction b with
   |nil=>simp
   |cons s b k=>
    intro e;have m:=k λz i=>e z$ ja _ i;have o:=e s va;have r:=Bc (λt=>decide$ t.p≠(l.a j).q) s.ts;rw[Re,db,Ab];omega
  have:=g b λs d=>(f s d).1;omega
 ·intro t c;apply b_;intro z_;obtain⟨s,d,c⟩:=jm.mp c;apply z_;exact(f s d).2 t (yg.mp c).1
theorem pD(l:Lk)(j:Nat):∀ (a:List Ti) (S:List$ Int × Int),(lj l j a S).1.length<=a.length
 |[],S=>by simp[lj]
 |t::a,S=>by
  have b:=pD l j a S;have c:=pD l j a$ Nk S t.w l.y;unfold lj;split<;>simp<;>lia
section
variable{b c:Nat}{P:Nat->Pt}{B:Bs}{l:Lk}{N:Nat}{d:Nat}
def tV{o}{S}{ds}{p}(h:KS b c P B l N S o d ds p){j}(g:j<2)(f:Tk l B j)(A:ds.length<=50)(r:(S j).length<=100) x:∃ i e,ZM [SY$ Y b,SY$ Y c,SY$ Y d,SY$ Z j,SY$ Y$ l.n j,x] p=U (Ϙ [SY$ Y b,SY$ Y c,SY$ Y d,SY$ Z j,SY$ Y$ l.n j,i]) e/\KS b c P B l N (Fb S j (lj l j ((B.C j).tt$ l.a j)$ S j).2) o d (ds++(lj l j ((B.C j).tt$ l.a j)$ S j).1) e/\Fz N d p e:=by
 obtain⟨E,y⟩:=VH f;obtain⟨u,ok⟩:=h.kd.kb.k.a j g;have q:=oK h.kd.kb.k g;rw[h.kd.s j g]at q;obtain⟨i,e,w,v,z⟩:=zz5 g (l.n j) ((B.C j).tt _) x h y ⋯ ⋯;refine⟨i,e,?_,v,z⟩;simp[(fC h.kd.kb.k),q,(Τ u ok f.m f.c f.n λs r=>(f.t s r).1),w]
def ą{S}{d}(h:KB b c P { B with S:=S } l N S (Ϗ l.A) d)(q:∀ j,j<2->l.C j=(B.C j).tl)(t:l.y=B.y)(n:∀ j,j<2->Tk l B j)(p:∀ j,j<2->(S j).length<=100):∃ f,UA [Y b,Y c] d=U (Y d.length) f/\KS b c P B l N (Fb (Fb S 0 (lj l 0 ((B.C 0).tt$ l.a 0)$ S 0).2) 1 (lj l 1 ((B.C 1).tt$ l.a 1)$ S 1).2) (Ϗ l.A) d.length ((lj l 0 ((B.C 0).tt$ l.a 0)$ S 0).1++(lj l 1 ((B.C 1).tt$ l.a 1)$ S 1).1) f/\Fz N d.length d f:=by
 have v:N+1<d.length:=(aa.mp$ h.s 1$ by lia).1;have o:=h.app [ώ []];have F:(d++[ώ []])[d.length]?=SY (ώ []):=by simp
 have fE:=o.swap (A:=l.A) (ϑ rfl)$ ϥ l.A;have G:((d++[ώ []]).set (b+2)$ ϥ l.A)[d.length]?=SY (ώ []):=by have:=h.bc;have:=h.cn;exact ue ⋯ F
 have I:KS b c P B l N S (ϥ l.A) d.length []$ (d++[ώ []]).set (b+2)$ ϥ l.A:=⟨⟨fE,v,G,q,t⟩⟩
 apply b_;intro z_;obtain⟨K,O,D,u,L⟩:=tV I (j:=0) ⋯ (n 0$ by omega) ⋯ (p 0$ by omega) ń;rw[uf]at u;have Q:=pD l 0 ((B.C 0).tt$ l.a 0)$ S 0;have R:=(VH$ n 0$ by omega).1;obtain⟨T,m,E,i,M⟩:=tV u (j:=1) ⋯ (n 1$ by omega) ⋯ (p 1$ by omega) K;have i:KS b c P B l N (Fb (Fb S 0 (lj l 0 ((B.C 0).tt$ l.a 0)$ S 0).2) 1 (lj l 1 ((B.C 1).tt$ l.a 1)$ S 1).2) (ϥ l.A) d.length ((lj l 0 ((B.C 0).tt$ l.a 0)$ S 0).1++(lj l 1 ((B.C 1).tt$ l.a 1)$ S 1).1) m:=i;have Df:=i.kd.kb.swap (A:=l.A) (ϕ rfl)$ Ϗ l.A;have H:=ue (r:=b+2) (x:=Ϗ l.A) (by have:=h.bc;have:=h.cn;omega) i.kd.g;apply z_;refine⟨m.set (b+2)$ Ϗ l.A,?_,⟨⟨Df,v,H,q,t⟩⟩,?_⟩
 rotate_left
 ·have w:Fz N d.length d$ d++[ώ []]:=λr x V V e=>bj e;have:=h.bc;have:=h.cn;exact((w.trans$ .set _ ⋯ _).trans$ L.trans M).trans$ .set _ ⋯ _
 have J:=bK o.k (r:=[SY$ Y c,SY$ Y d.length,ń,ń,ń]) (tg:=rl 2$ Vf (jc 3)$ Vf (jc 4) cm) (body:=ZM) rfl D rfl E i.kd.kb.k.h2;unfold UA tR Ff
 (try dsimp only);rw[zp,uA]
 show Jp (Sb _ _ [SY$ Y b,SY$ Y c,ń,ń,ń,ń] d)=_;have z:de 2 (No ib) [SY$ Y b,SY$ Y c,ń,ń,ń,ń] d=U (Ϙ [SY$ Y b,SY$ Y c,SY$ Y d.length,ń,ń,ń]) (d++[ώ []]):=by simp
 rw[Zf,z,zd,ug,Zf,J,zd,ug];simp
end
noncomputable def Cl.hd:Cl->Bool
 | .held=>U2
 |_=>ŝ
def XY(c:Cl) a:sB c.tl (.gt ["held"]) a=U (ϓ c.hd) a:=by
 cases c with
 |held=>exact nr rfl
 |laid s x y=>unfold sB;simp[Cl.tl,Uz,yi,Cl.hd,eqa,eqb,eqc,eqd]
 |taken s=>unfold sB;simp[Cl.tl,Uz,yi,Cl.hd,eqa,eqb,eqc,eqd]
def Df(l:Lk)(j:Nat):Bool:=(Wk l.F$ .inl j).isSome
def Uk(l:Lk)(B:Bs)(j:Nat):Bool:=Df l j && (B.C j).hd
section
variable{b c:Nat}{P:Nat->Pt}{B:Bs}{l:Lk}{N:Nat}{S:Nat->List (Int × Int)}{o:Ob}{d:Nat}{ds:i'}{σ:Ga}(h:KD b c P B l N S o d ds σ)(ho:o=Ϗ l.A\/o=ϥ l.A)(hl:ds.length<100){j:Nat}(hj:j<2)
include h ho hj
theorem ĭ:Du [Y b,Z j] σ=U (ϓ (B.C j).hd) σ:=by
 have a:=oK h.kb.k hj;rw[h.s j hj]at a;have i:Ps (Z j) (Y$ b+2) σ=U (ϓ U2) σ:=by
  have c:Of σ (Y$ b+2)=SY l.A:=by
   have:=h.kb.k.h2;unfold Of;rcases ho with rfl|rfl<;>simp[this]
  unfold Ps;simp[c];rcases(show j=0\/j=1 by lia)with rfl|rfl<;>rfl
 unfold Du Pf;dsimp only;simp[(bN h.kb.k),(fC h.kb.k),a,i,(λσ=>XY (B.C j) σ)]
include hl
theorem QP(hP:(P j).Ok)(hm:(l.a j).m.Ok$ (P j).u+(P j).v)(hG:(l.a j).m.D=Pj 0 (P j).u (P j).v []\/(l.a j).G=ag j (1 - (l.a j).q) (l.a j).m.D):∃ ϊ C' t,eK [SY$ Y b,SY$ Y c,SY$ Y d,SY$ Z j,SY$ Y$ l.n j] σ=U (Ϙ [SY$ Y b,SY$ Y c,SY$ Y d,SY$ Z j,SY$ Y$ l.n j]) t/\KD b c P ϊ { l with C:=C' } N S o d (ds++if Uk l B j then [ϒ [ϐ "lay",Z j]]else []) t/\ϊ=(if Uk l B j then { B with C:=Fb B.C j (.laid (l.a j).q (l.a j).m B.y) } else B)/\Fz N d σ t:=by
 have ό:=K4 h.kb.k;have E:Ps (Z j) (Y$ b+6) σ=U (ϓ$ Df l j) σ:=by
  have dc:Of σ (Y$ b+6)=SY l.F:=by unfold Of;simp[h.kb.k.h6]
  unfold Ps Df;simp only[Jk,dc]
 have I:=ĭ h ho hj;have mh:=lq h.kb.k "holds" 2 Du;cases A:Df l j with
 |false=>
  rw[A]at E;have e:Uk l B j=ŝ:=by unfold Uk;rw[A];rfl
  refine⟨B,l.C,σ,?_,by rw[e];simpa using h,by rw[e];rfl,.refl _ _ _⟩;simp[ό,E]
 |true=>
  rw[A]at E;cases z:(B.C j).hd with
  |false=>
   rw[z]at I;have e:Uk l B j=ŝ:=by unfold Uk;rw[A,z];rfl
   refine⟨B,l.C,σ,?_,by rw[e];simpa using h,by rw[e];rfl,.refl _ _ _⟩;simp[ό,E,mh,I]
  |true=>
   rw[z]at I;have e:Uk l B j=U2:=by unfold Uk;rw[A,z];rfl
   rw[e];have hc:B.C j=.held:=by
    cases hB:B.C j with
    |held=>rfl
    |_=>rw[hB]at z;cases z
   apply b_;intro z_;obtain⟨O,ok⟩:=h.kb.k.a j hj;have sd:=Eu O ok;have mi:=vB O ok;have gr:=XP O ok;obtain⟨J,ly,K⟩:=ZW h.kb.v hj ok.q hm hP hc hG;have ml:=Wl h.kb.v "lay" 5 qe;have m5:∀ (L:i'->M D) (x a b c d:D) σ,Ai 5 L x [a,b,c,d] σ=L [x,a,b,c,d] σ:=λL x a b c d σ=>Iy rfl;have f:=h.kb.book (r:=c+1) ⋯ (x:=J) K;have g1:(σ.set (c+1) J)[d]?=SY (ώ ds):=by have:=h.hd;have:=h.kb.cn;exact ue ⋯ h.g
   apply z_;have z1:Fz N d σ$ σ.set (c+1) J:=.set σ (by have:=h.kb.cn;omega) _;generalize σ.set (c+1) J=p at *;have ϋ:=Eu (f.k.a j hj).1 ok;have V:=vB (f.k.a j hj).1 ok;have R:=fC f.k;have H:=DE f.k;rw[h.y]at H;obtain⟨X,W,Q⟩:=f.setC hj (Cl.laid (l.a j).q (l.a j).m B.y).tl;have g2:(p.set (b+3) X)[d]?=SY (ώ ds):=by have:=h.hd;have:=h.kb.cn;have:=h.kb.bc;exact ue ⋯ g1
   have W:∀ ρ,wo ρ (ϒ [ϐ "laid",Z (l.a j).q,(l.a j).m.D,Z B.y]) (Y$ b+3) (Z j) p=U (Ϙ ρ) (p.set (b+3) X):=W;have z2:=z1.trans$ .set p (i:=b+3) (by have:=h.kb.cn;have:=h.kb.bc;omega) X;generalize p.set (b+3) X=w at *;have kd:KD b c P { B with C:=Fb B.C j (.laid (l.a j).q (l.a j).m B.y) } { l with C:=Fb l.C j (Cl.laid (l.a j).q (l.a j).m B.y).tl } N S o d ds w:=⟨Q,h.hd,g2,VS _ _ j _ h.s,h.y⟩
   obtain⟨ad,T⟩:=kd.add hl (ϒ [ϐ "lay",Z j]);have am:=λfs=>zz g2 fs;refine⟨_,_,_,?_,T,rfl,z2.trans$ .set w (ϕ rfl) _⟩;generalize w.set d (ώ$ ds++[ϒ [ϐ "lay",Z j]])=a0 at *;generalize (l.a j).m.D=MD,(l.a j).G=GD at *;simp[ό,E,mh,I,sd,mi,gr,ml,m5,ly,ϋ,V,R,H,W,am,ad]
end
def Rq(l:Lk)(B:Bs)(j:Nat):Bs:=if Uk l B j then { B with C:=Fb B.C j (.laid (l.a j).q (l.a j).m B.y) } else B
def Ng(l:Lk)(B:Bs)(j:Nat):i':=if Uk l B j then [ϒ [ϐ "lay",Z j]]else []
section
variable{b c:Nat}{P:Nat->Pt}{B:Bs}{l:Lk}{N:Nat}{S:Nat->List (Int × Int)}{σ:Ga}(h:KB b c P B l N S (Ϗ l.A) σ)(hs:∀ j,j<2->l.C j=(B.C j).tl)(hy:l.y=B.y)(hP:∀ j,j<2->(P j).Ok/\(l.a j).m.Ok ((P j).u+(P j).v)/\((l.a j).m.D=Pj 0 (P j).u (P j).v []\/(l.a j).G=ag j (1 - (l.a j).q) (l.a j).m.D))
include h hs hy hP
theorem VZ:∃ E m,aC [Y b,Y c] σ=U (Y σ.length) m/\KD b c P (Rq l (Rq l B 0) 1) { l with C:=E } N S (Ϗ l.A) σ.length (Ng l B 0++Ng l B 1) m/\Fz N σ.length σ m:=by
 have z:N+1<σ.length:=(aa.mp$ h.s 1$ by lia).1;have w:=h.app [ώ []];have M:(σ++[ώ []])[σ.length]?=SY (ώ []):=by simp
 have O:((σ++[ώ []]).set (b+2)$ ϥ l.A)[σ.length]?=SY (ώ []):=by have:=h.bc;have:=h.cn;exact ue ⋯ M
 have q:KD b c P B l N S (ϥ l.A) σ.length []$ (σ++[ώ []]).set (b+2)$ ϥ l.A:=⟨(w.swap (A:=l.A) (ϑ rfl)$ ϥ l.A),z,O,hs,hy⟩
 obtain⟨R,T,ό⟩:=hP 0 ⋯;obtain⟨V,W,X⟩:=hP 1 ⋯;obtain⟨i,o,t,J,p,a,ϊ⟩:=QP q (ϕ rfl) ⋯ (j:=0) ⋯ R T ό;have a:i=Rq l B 0:=a;have p:KD b c P i { l with C:=o } N S (ϥ l.A) σ.length ([]++Ng l B 0) t:=p;rw[uf]at p;have H:i.C 1=B.C 1/\i.y=B.y:=by
  rw[a];unfold Rq;split
  ·exact⟨rfl,rfl⟩
  ·exact⟨rfl,rfl⟩
 have I:(Ng l B 0).length<100:=by unfold Ng;split<;>simp
 apply b_;intro z_;obtain⟨u,v,n,K,f,d,z2⟩:=QP p (ϕ rfl) I (j:=1) ⋯ V W X;have sc:Uk { l with C:=o } i 1=Uk l B 1:=by unfold Uk Df;rw[H.1]
 apply z_;have d:u=Rq l i 1:=d;have L:(if Uk { l with C:=o } i 1 then [ϒ [ϐ "lay",Z 1]]else [])=Ng l B 1:=by rw[sc];rfl
 have f:KD b c P u { l with C:=v } N S (ϥ l.A) σ.length (Ng l B 0++if Uk { l with C:=o } i 1 then [ϒ [ϐ "lay",Z 1]]else []) n:=f;rw[L]at f;rw[a]at d;rw[d]at f;have Q:(n.set (b+2)$ Ϗ l.A)[σ.length]?=SY (ώ$ Ng l B 0++Ng l B 1):=by have:=h.bc;have:=h.cn;exact ue ⋯ f.g
 refine⟨v,n.set (b+2)$ Ϗ l.A,?_,⟨(f.kb.swap (A:=l.A) (ϕ rfl)$ Ϗ l.A),z,Q,f.s,f.y⟩,?_⟩
 rotate_left
 ·have F:Fz N σ.length σ$ σ++[ώ []]:=λr x D D e=>bj e;have:=h.bc;have:=h.cn;exact((F.trans$ .set _ ⋯ _).trans$ ϊ.trans z2).trans$ .set _ ⋯ _
 have ϋ:=bK w.k (r:=[SY$ Y c,SY$ Y σ.length,ń,ń]) (tg:=rl 2$ Vf (jc 3)$ Vf (jc 4) cm) (body:=eK) rfl J rfl K f.kb.k.h2;unfold aC mQ Ff
 (try dsimp only);rw[zp,uA]
 show Jp (Sb _ _ [SY$ Y b,SY$ Y c,ń,ń,ń] σ)=_;have G:de 2 (No ib) [SY$ Y b,SY$ Y c,ń,ń,ń] σ=U (Ϙ [SY$ Y b,SY$ Y c,SY$ Y σ.length,ń,ń]) (σ++[ώ []]):=by simp
 rw[Zf,G,zd,ug,Zf,ϋ,zd,ug];simp
end
def ŀ{a}{m n}{xs b}(e:a[m]?=SY (ώ xs))(f:a[n]?=SY (ώ b))(g:xs.length+b.length<=1000):lh (Y m) (Y n) a=U (ύ$ xs++b) a:=by
 have c:Ce a m=SY xs:=by unfold Ce;rw[e]
 have d:Ce a n=SY b:=by unfold Ce;rw[f]
 show oz _ _ a=_;unfold oz;simp[wf,c,d,Uf,g]
theorem Ň{a}{n}{xs b}(d:a[n]?=SY (ώ b))(e:xs.length+b.length<=1000):uF (ύ xs) (Y n) a=U (Y a.length) (a++[ώ$ xs++b]):=by
 have c:Ce a n=SY b:=by unfold Ce;rw[d]
 unfold uF;simp[wf,c];rw[na (by trivial)];rfl
theorem xN(l:Lk)(C:Nat->D)(j:Nat):∀ (a:List Ti) (S:List$ Int × Int),lj { l with C:=C } j a S=lj l j a S
 |[],S=>rfl
 |t::a,S=>by
  unfold lj;rw[show xl { l with C:=C } S t=xl l S t from rfl];rw[(xN l C j a S),(xN l C j a _)]
def Us l P L B j:(dr l P L B j).S=B.S/\(dr l P L B j).y=B.y:=by unfold dr;split<;>exact⟨rfl,rfl⟩
def Rc(l:Lk)(B:Bs)(N:Nat):Lk:={ l with y:=B.y,C:=λj=>(B.C j).tl,E:=λj=>Y$ N+j,K:=(nk$ bf (bf []$ B.S 0)$ B.S 1).foldl Qh l.K }
def Bd(l:Lk)(P:Nat->Pt)(L:Nat->em)(B:Bs):Bs:=dr l P L (dr l P L B 0) 1
def qk(l:Lk)(B:Bs)(j:Nat):i' × List (Int × Int):=lj l j ((B.C j).tt$ l.a j)$ B.S j
def Ki(l:Lk)(B:Bs):Bs:={ B with S:=Fb (Fb B.S 0 (qk l B 0).2) 1 (qk l B 1).2 }
def vw(l:Lk)(B:Bs):Bs:=Rq l (Rq l B 0) 1
section
variable{b c:Nat}{P:Nat->Pt}{B:Bs}{l:Lk}{σ:Ga}(h:KL b l (Ϗ l.A) σ)(v:Fh c P B σ)(hbc:b+6<c)(hn:∀ j,j<2->l.n j<c){L:Nat->em}(eL:∀ j,j<2->(l.a j).L=(L j).map Z)(ep:∀ j,j<2->(l.a j).p=j)(hc:∀ j,j<2->∀ s x y,B.C j=.laid s x y->s≠(l.a j).q->s=1 - (l.a j).q/\x.Ok ((P j).u+(P j).v))(hS:∀ j,j<2->(B.S j).length<=30)(hz:l.K.length<=300)(hk:∀ N j,j<2->Tk (Rc l B N) (Bd (Rc l B N) P L B) j)(hP:∀ j,j<2->(P j).Ok/\(l.a j).m.Ok ((P j).u+(P j).v)/\((l.a j).m.D=Pj 0 (P j).u (P j).v []\/(l.a j).G=ag j (1 - (l.a j).q) (l.a j).m.D))
include h v hbc hn eL ep hc hS hz hk hP
theorem W0:∃ N O n G,Hw [Y b,Y c] σ=U (Y n) G/\KD b c P (vw (Rc l B N)$ Ki (Rc l B N)$ Bd (Rc l B N) P L B) { Rc l B N with C:=O } N (Ki (Rc l B N)$ Bd (Rc l B N) P L B).S (Ϗ l.A) n (ye (Rc l B N) P L B 0++ye (Rc l B N) P L B 1++((qk (Rc l B N) (Bd (Rc l B N) P L B) 0).1++(qk (Rc l B N) (Bd (Rc l B N) P L B) 1).1)++(Ng (Rc l B N) (Ki (Rc l B N)$ Bd (Rc l B N) P L B) 0++Ng (Rc l B N) (Ki (Rc l B N)$ Bd (Rc l B N) P L B) 1)) G:=by
 apply b_;intro z_;obtain⟨ob,T,k1,v1⟩:=N4 h v hbc ń;obtain⟨N,J,ό,k2,v2,R,ϊ⟩:=ð k1 v1 hbc;have H:KB b c P B { l with y:=B.y,C:=λj=>(B.C j).tl,E:=λj=>Y$ N+j } N B.S (Ϗ l.A) J:=⟨k2,v2,hbc,R,λj w=>rfl,ϊ,hn⟩
 apply z_;apply b_;intro z_;have s0:=hS 0 ⋯;have s1:=hS 1 ⋯;obtain⟨p,V,q⟩:=D3 H ⋯ hz (SY$ Z 1);have q:KB b c P B (Rc l B N) N B.S (Ϗ (Rc l B N).A) p:=q;have hk:=hk N;apply z_;generalize x:Rc l B N=d at *;have D:d.a=l.a/\d.y=B.y/\d.A=l.A/\d.n=l.n:=by rw[<-x];exact⟨rfl,rfl,rfl,rfl⟩
 have lC:∀ j,j<2->d.C j=(B.C j).tl:=λj _=>by rw[<-x];rfl
 obtain⟨z,r,W,e⟩:=A0 q lC D.2.1 (L:=L) (by rw[D.1];exact eL) (by rw[D.1];exact ep) (by rw[D.1];exact hc);have e:KD b c P (Bd d P L B) { d with C:=z } N B.S (Ϗ d.A) p.length (ye d P L B 0++ye d P L B 1) r:=e;have M:(Bd d P L B).S=B.S/\(Bd d P L B).y=B.y:=⟨(Us ..).1.trans (Us ..).1,(Us ..).2.trans (Us ..).2⟩
 have I:KB b c P { Bd d P L B with S:=B.S } { d with C:=z } N B.S (Ϗ d.A) r:=by
  have:({ Bd d P L B with S:=B.S }:Bs)=Bd d P L B:=by rw[<-M.1]
  rw[this];exact e.kb
 have tk:∀ j,j<2->Tk { d with C:=z } (Bd d P L B) j:=λj w=>⟨(hk j w).m,(hk j w).c,(hk j w).n,(hk j w).t⟩
 obtain⟨u,X,i,z5⟩:=ą I e.s e.y tk (λj w=>by have:=hS j w;omega);simp only[xN]at i;have i:KS b c P (Bd d P L B) { d with C:=z } N (Ki d$ Bd d P L B).S (Ϗ d.A) r.length ((qk d (Bd d P L B) 0).1++(qk d (Bd d P L B) 1).1) u:=by
  unfold Ki qk;rw[M.1];exact i
 have F:KB b c P (Ki d$ Bd d P L B) { d with C:=z } N (Ki d$ Bd d P L B).S (Ϗ d.A) u:=i.kd.kb;obtain⟨K,o,ϋ,f,z6⟩:=VZ F i.kd.s i.kd.y (by rw[show ({ d with C:=z }:Lk).a=l.a from D.1];exact hP);have f:KD b c P (vw d$ Ki d$ Bd d P L B) { d with C:=K } N (Ki d$ Bd d P L B).S (Ϗ d.A) u.length (Ng d (Ki d$ Bd d P L B) 0++Ng d (Ki d$ Bd d P L B) 1) o:=f;have a0:p.length<r.length:=(aa.mp e.g).1;have g5:=z5 p.length _ e.hd ⋯ e.g;have n1:(ye d P L B 0++ye d P L B 1).length<=2:=by unfold ye;split<;>split<;>simp
 have t0:=(VH$ hk 0$ by omega).1;have t1:=(VH$ hk 1$ by omega).1;have n2:((qk d (Bd d P L B) 0).1++(qk d (Bd d P L B) 1).1).length<=36:=by
  have h0:=pD d 0 (((Bd d P L B).C 0).tt$ d.a 0)$ (Bd d P L B).S 0;have h1:=pD d 1 (((Bd d P L B).C 1).tt$ d.a 1)$ (Bd d P L B).S 1;rw[db];unfold qk;omega
 have n3:(Ng d (Ki d$ Bd d P L B) 0++Ng d (Ki d$ Bd d P L B) 1).length<=2:=by unfold Ng;split<;>split<;>simp
 have Q:=ŀ g5 i.kd.g ⋯;have ct:=Ň (xs:=ye d P L B 0++ye d P L B 1++((qk d (Bd d P L B) 0).1++(qk d (Bd d P L B) 1).1)) f.g (by rw[db];omega);have Df:=f.kb.app [ώ$ ye d P L B 0++ye d P L B 1++((qk d (Bd d P L B) 0).1++(qk d (Bd d P L B) 1).1)++(Ng d (Ki d$ Bd d P L B) 0++Ng d (Ki d$ Bd d P L B) 1)];have a1:u.length<o.length:=(aa.mp f.g).1;refine⟨N,K,o.length,_,?_,by rw[x,<-D.2.2.1];exact⟨Df,by have:=f.hd;omega,by simp,f.s,f.y⟩⟩;have m4:=lq q.k "strike_all" 2 RA;have m5:=lq e.kb.k "show_all" 2 UA;have m6:=lq F.k "lay_all" 2 aC;have e7:wL [SY$ Y b,SY$ Y c,SY$ Z 1] p=U (.rt$ Y o.length) (o++[ώ$ ye d P L B 0++ye d P L B 1++((qk d (Bd d P L B) 0).1++(qk d (Bd d P L B) 1).1)++(Ng d (Ki d$ Bd d P L B) 0++Ng d (Ki d$ Bd d P L B) 1)]):=by
  generalize o++[ώ$ ye d P L B 0++ye d P L B 1++((qk d (Bd d P L B) 0).1++(qk d (Bd d P L B) 1).1)++(Ng d (Ki d$ Bd d P L B) 0++Ng d (Ki d$ Bd d P L B) 1)]=a2 at *;generalize ye d P L B 0++ye d P L B 1++((qk d (Bd d P L B) 0).1++(qk d (Bd d P L B) 1).1)=XS at *;simp[m4,W,m5,X,Q,m6,ϋ,ct]
 unfold Hw iU Ff
 (try dsimp only);rw[zp,uA]
 show Jp (Sb JN (Sb vL$ Sb UM wL) [SY$ Y b,SY$ Y c,ń] σ)=_;rw[Zf,T,zd,ug,Zf,ό,zd,ug,Zf,V,zd,ug,e7,pT]
end
def î{b}{k}{f}(h:Th b k f){x}(i:x∈k.as)(j:k.F.length<900):∃ c,Zz [Y b,ϒ [ϐ "finish",Z x.2.p]] f=U (ϒ [ϓ U2,ύ []]) c/\Th b { k with F:=Ji k.F (.inl x.2.p) (ϓ U2) } c/\∀ r o,r≠b+6->f[r]?=SY o->c[r]?=SY o:=by
 refine⟨f.set _ _,?_,⟨h.v.set (ϕ$ by lia) _,ue ⋯ h.h2,ue ⋯ h.h5,h.a.set h.h6 _,h.d,h.n,h.z,h.o,Ia (aa.mp h.h6).1⟩,λr o g e=>ue (λz=>g z.symm) e⟩;have st:=λρ=>nt (ρ:=ρ) (d:=ϓ U2) (w:=x.2.p) h.h6 ⋯;unfold Zz Ff;dsimp only;simp[(eM h i),(Zo h.v "holds" 2 Du),(Ρ h.v),st]
def mP{b}{l}{o}{a}(h:KL b l o a)(f:l.K.length<=60):jt [Y b] a=U (ύ$ (ks l.K).map Z) a:=by
 have o:Ws [Y$ b+1] a=U (Y a.length) (a++[ώ$ (ks l.K).map Z]):=by
  have e:wf a (Y$ b+1)=ń:=by unfold wf Ce;simp[h.h1]
  have d:Of a (Y$ b+1)=SY (yj l.K):=by unfold Of;simp[h.h1]
  unfold Ws;simp[e];unfold nB;simp[d,cK];rw[na ⋯];rfl
 have c:lg a (Ws [Y$ b+1] a)=U (ύ$ (ks l.K).map Z) a:=by rw[o];exact Ax$ NG _
 unfold jt Pf;simp[(CP h),c]
def D9{b}{l}{o}{a}(h:KL b l o a):WB [Y b] a=U (Z l.y) a:=by
 unfold WB Pf;simp[(DE h)]
def kT{a K:em}{w}:w∈a.foldl Qh K ↔ w∈K\/w∈a:=by
 induction a generalizing K with
 |nil=>simp
 |cons v a b=>rw[zg,b,t8,Ba,or_assoc]
def ì{K}{w}(h:K.Nodup):(Qh K w).Nodup:=by
 unfold Qh;split;all_goals grind
def iR{ws K:em}(h:K.Nodup):(ws.foldl Qh K).Nodup:=by
 induction ws generalizing K with
 |nil=>exact h
 |cons v ws a=>exact a$ ì h
def ZG{b}{l}{c}(h:KL b l (Ϗ l.A) c){j:Nat}(e:j<2):Ip [Y b,Z j] c=U (Y$ l.n j) c:=by
 have d:Of c (Y$ b+2)=SY l.A:=by unfold Of;simp[h.h2]
 have i:oq (Z j) (Y$ b+2) c=U (ϓ ŝ) c:=by
  unfold oq;simp only[Jk,d];rcases(show j=0\/j=1 by lia)with rfl|rfl<;>rfl
 have g:gk _ (Z j) c=U (Y$ l.n j) c:=aF h.h2 (by rcases(show j=0\/j=1 by lia)with rfl|rfl<;>rfl);have fr:lg c (U (Y$ l.n j) c)=U (Y$ l.n j) c:=by
  unfold lg;dsimp only;rw[na Md];have:fz c.length c 6 (Y$ l.n j)=SY (Y$ l.n j):=by
   unfold fz;rw[ya ⋯];dsimp only;rw[na$ (aa.mp (h.a j e).1).1]
  rw[this]
 unfold Ip Pf;simp[(bN h),i,g,fr]
def wR{tg}{a}{ρ c d e f}{b g h}(l:tg (Z 0) ρ=SY c)(i:a c b=U (Ϙ d) g)(m:tg (Z 1) d=SY e)(j:a e g=U (Ϙ f) h):Fk (io$ eC$ Z 2) tg a ρ b=U (Ϙ f) h:=by
 have k:io (eC$ Z 2) ρ b=U (.seq [Z 0,Z 1]) b:=by
  have:ot (Z 2) b=U (.seq [Z 0,Z 1]) b:=by rw[kF ⋯ ⋯];rfl
  simp_all
 rw[dw,k,qm,sG,Ay l,i,zd,Vm,Ay m,j,zd,Vm];simp
structure KV(b c:Nat)(P:Nat->Pt)(B:Bs)(l:Lk)(q:Int)(L:Nat->em)(σ:Ga):Prop where
 k:KL b l (Ϗ l.A) σ
 v:Fh c P B σ
 L:∀ j,j<2->(l.a j).L=(L j).map Z
 q:∀ j,j<2->(l.a j).q=sd q j
def gL q{j:Nat}(b:j<2) a:Cb (ύ [Z q,Z$ 1 - q]) (Z j) a=U (Z$ sd q j) a:=by
 rcases(show j=0\/j=1 by lia)with rfl|rfl<;>simp[sd]
section
variable{b c:Nat}{P:Nat->Pt}{B:Bs}{l:Lk}{q:Int}{L:Nat->em}{σ:Ga}(h:KV b c P B l q L σ)
include h
theorem KV.app j:KV b c P B l q L$ σ++j:=⟨h.k.app j,h.v.app j,h.L,h.q⟩
theorem zW{j:Nat}(o:j<2){ds}(V:ds.length<100) z:qR [SY$ Y c,SY$ Y b,SY$ ύ [Z q,Z$ 1 - q],SY$ ύ [Z (P 0).w,Z (P 1).w],SY$ Y σ.length,SY$ Z j,z] (σ++[ώ ds])=U (Ϙ [SY$ Y c,SY$ Y b,SY$ ύ [Z q,Z$ 1 - q],SY$ ύ [Z (P 0).w,Z (P 1).w],SY$ Y σ.length,SY$ Z j,SY (B.C j).tl]) (σ++[ώ$ ds++ye l P L B j]):=by
 have f:=h.app [ώ ds];have O:∀ σ,Cb (ύ [Z (P 0).w,Z (P 1).w]) (Z j) σ=U (Z (P j).w) σ:=λσ=>by
  rcases(show j=0\/j=1 by lia)with rfl|rfl<;>simp
 have A:=λσ=>gL q o σ;have e:=gC f.v o;have ty:=fJ f.v;have t:=Wl f.v "told" 2 Zn;have Q:=Wl f.v "today" 1 vt;have I:=lq f.k "account" 2 Ip;have F:=ZG f.k o;have st:=TJ (f.k.a j o).1 (f.k.a j o).2;rw[h.L j o]at st;have g:=λn=>NW (σ++[ώ ds]) n$ L j;have R:=MF (σ:=σ) (xs:=ds) (d:=ϒ [ϐ "strike",Z j]) ⋯;unfold ye Hi ip;rw[h.q j o];cases G:B.C j with
 |held=>
  rw[G]at e;have i:=AH;generalize Cl.held.tl=K,ύ [Z (P 0).w,Z (P 1).w]=M,ύ [Z q,Z$ 1 - q]=J at *;simp[e,t,i,wA,Cl.gu]
 |taken s=>
  rw[G]at e;have i:=LJ s;generalize (Cl.taken s).tl=K,ύ [Z (P 0).w,Z (P 1).w]=M,ύ [Z q,Z$ 1 - q]=J at *;simp[e,t,i,wA,Cl.gu]
 |laid s x y=>
  rw[G]at e;have i:=GE s x y;have H:=λσ=>s0 x σ;have E:=λσ=>nD s (sd q j) σ;have g:=g x.n;simp only[Cl.gu,Cl.day];generalize ύ ((L j).map Z)=T at st g;generalize (Cl.laid s x y).tl=K,ύ [Z (P 0).w,Z (P 1).w]=M,ύ [Z q,Z$ 1 - q]=J,x.D=ό at *;by_cases u:s=sd q j
  ·simp[e,t,i,A,E,u]
  ·rcases Bool.eq_false_or_eq_true (((L j).map$ λm=>m == x.n).any id)with p|p
   ·rw[p]at g;by_cases N:B.y<y+(P j).w
    ·simp[e,t,i,H,A,O,E,u,I,F,st,g,p,N,Q,ty,(λS=>zz (σ:=σ++[ώ ds]) (r:=σ.length) (xs:=ds) ⋯ S),R]
    ·simp[e,t,i,H,A,O,E,u,I,F,st,g,p,N,Q,ty]
   ·rw[p]at g;simp[e,t,i,H,A,E,u,I,F,st,g,p]
theorem q7:Fg [Y c,Y b,ύ [Z q,Z$ 1 - q],ύ [Z (P 0).w,Z (P 1).w]] σ=U (ύ$ ye l P L B 0++ye l P L B 1) σ:=by
 have f:(ye l P L B 0).length<100:=by unfold ye;split<;>simp
 have e:=zW h (j:=0) ⋯ (ds:=[]) ⋯ ń;rw[uf]at e;have g:=wR (tg:=jc 5) (ρ:=[SY _,SY _,SY _,SY _,SY$ Y σ.length,ń,ń]) rfl e rfl$ zW h (j:=1) ⋯ (ds:=ye l P L B 0) f$ SY (B.C 0).tl;have fz:=Ax (σ:=σ) (xs:=ye l P L B 0++ye l P L B 1) (Jn λd a=>by
  rcases jb.mp a with a|a<;>(unfold ye at a;split at a<;>first|(rw[Oa.mp a];simp)|cases a))
 unfold Fg UU Lc;dsimp only;generalize σ++[ώ$ ye l P L B 0++ye l P L B 1]=m,ye l P L B 0++ye l P L B 1=R,ύ [Z (P 0).w,Z (P 1).w]=k,ύ [Z q,Z$ 1 - q]=i at *;simp[g,fz,-dw]
end
def Lw p l u:vl (p::l) u=if p.1=u then SY p.2 else vl l u:=by
 unfold vl;rw[Xd];by_cases e:p.1=u<;>simp[e]
theorem qP(w:Int):∀ l:List$ Int × Int,l.any (λp=>decide$ p.1=w)=(vl l w).isSome
 |[]=>rfl
 |p::l=>by rw[mf,qP w l,Lw];by_cases e:p.1=w<;>simp[e]
def oA l w v u:vl (Nk l w v) u=if w=u then SY v else vl l u:=by
 unfold Nk;rw[qP];by_cases h:(vl l w).isSome=U2
 ·rw[na h];have c:∀ l:List _,vl (l.map λp=>if p.1=w then (p.1,v)else p) u=if w=u then (vl l w).map λg=>v else vl l u:=λl=>by
   induction l with
   |nil=>unfold vl;simp
   |cons p l d=>
    rw[Va,Lw,Lw,Lw,d];by_cases b:p.1=w
    ·by_cases a:w=u
     ·simp[b,a]
     ·simp[b,a]
    ·by_cases a:w=u
     ·subst a;simp[b]
     ·simp[b,a]
  rw[c];cases e:vl l w with
  |none=>simp_all
  |some x=>rfl
 ·rw[ya h];have f:vl l w=ń:=by simpa using h
  have c:∀ l:List _,vl (l++[(w,v)]) u=match vl l u with|some x=>SY x|none=>if w=u then SY v else ń:=λl=>by
   induction l with
   |nil=>rw[uf,Lw];unfold vl;simp
   |cons p l d=>rw[im,Lw,Lw,d];split<;>simp
  rw[c];by_cases e:w=u
  ·subst e;rw[f]
  ·cases vl l u<;>simp[e]
def df(l:Lk):List Ti->List (Int × Int)->em × List (Int × Int)
 |[],S=>([],S)
 |t::a,S=>if xl l S t then (t.w::(df l a$ Nk S t.w l.y).1,(df l a$ Nk S t.w l.y).2)else df l a S
theorem Nv l t a S:df l (t::a) S=if xl l S t then (t.w::(df l a$ Nk S t.w l.y).1,(df l a$ Nk S t.w l.y).2)else df l a S:=rfl
theorem BF(l:Lk)(j:Nat):∀ (a:List Ti) (S:List$ Int × Int),lj l j a S=((df l a S).1.map$ ci j,(df l a S).2)
 |[],S=>rfl
 |t::a,S=>by
  unfold lj df;rw[BF l j a S,BF l j a];split<;>rfl
theorem xO(l:Lk):∀ (a b:List Ti) (S:List$ Int × Int),df l (a++b) S=((df l a S).1++(df l b (df l a S).2).1,(df l b (df l a S).2).2)
 |[],b,S=>rfl
 |t::a,b,S=>by
  rw[im,Nv,Nv,xO l a b,xO l a b];split<;>rfl
theorem xC(l:Lk):∀ (a:List Ti) (S:List$ Int × Int),(df l a S).1.length<=a.length
 |[],S=>by simp[df]
 |t::a,S=>by
  have b:=xC l a S;have c:=xC l a$ Nk S t.w l.y;unfold df;split<;>simp<;>omega
noncomputable def oi(p:Nat × Int):D:=ci p.1 p.2
theorem vQ(c:Ga)(j:Nat)(w:Int):∀ F:List$ Nat × Int,Gp c (ci j w) (F.map oi)=SY (F.map λp=>decide$ p=(j,w))
 |[]=>rfl
 |p::F=>by
  have h:=vQ c j w F;have e:Og c 7 (oi p) (ci j w)=SY (decide$ p=(j,w)):=by
   obtain⟨a,b⟩:=p;unfold oi ci;have g:((a:Int)=j)=(a=j):=propext ⟨λz=>by lia,λz=>by lia⟩;by_cases d:a=j<;>by_cases f:b=w<;>simp[eqa,eqb,eqc,eqd,yi,d,f,g]
  simp[Va];unfold Gp
  grind
def ù j w(F:List$ Nat × Int):(F.map λp=>decide$ p=(j,w)).any id=decide ((j,w)∈F):=by
 induction F with
 |nil=>simp
 |cons p F b=>
  by_cases e:p=(j,w)
  ·simp[e]
  ·have a:¬ (j,w)=p:=λz=>e z.symm
   simp_all
noncomputable abbrev wE(c b:Nat)(q e:Int)(a:D)(W:em)(n:Nat)(y:Int)(j:Nat)(d M O:Option D)(f g h i:Option D):Ev:=[SY$ Y c,SY$ Y b,SY$ ύ [Z q,Z$ 1 - q],SY$ Z e,SY a,SY$ ύ$ W.map Z,SY$ Y n,SY$ Z y,SY$ Z j,d,M,O,f,g,h,i]
structure Iv(j:Nat)(S0 S:List (Int × Int))(F:List (Nat × Int)):Prop where
 i:∀ w,(vl S w).isSome=((vl S0 w).isSome || decide ((j,w)∈F))
def Iv.put{j}{a S}{F}(h:Iv j a S F) w y:Iv j a (Nk S w y)$ F++[(j,w)]:=⟨λv=>by
 rw[oA];by_cases e:w=v
 ·simp[e]
 ·have b:¬ v=w:=λz=>e z.symm;rw[ya e,h.i v];simp[b]⟩
section
variable{b c:Nat}{P:Nat->Pt}{B:Bs}{l:Lk}{q:Int}{L:Nat->em}{σ:Ga}(h:KV b c P B l q L σ){j:Nat}(hj:j<2){l1:Lk}(hy:l1.y=B.y){W:em}(hW:∀ w,w∈W ↔ w∈l1.K)(SK:D)
include h hj hy hW
theorem İ{S}{F} J(hl:F.length<100)(ϋ:Iv j (B.S j) S F) t L M O:∃ Q,OE (wE c b q l1.e SK W σ.length B.y j L M O (SY$ Z t.p) (SY$ Z t.a) (SY$ Z t.w)$ SY$ Z t.y) (σ++ώ (F.map oi)::J)=U (Ϙ$ wE c b q l1.e SK W σ.length B.y j L M O (SY$ Z t.p) (SY$ Z t.a) (SY$ Z t.w)$ SY$ Z t.y) (σ++ώ ((F++if (decide (t.p≠sd q j) && xl l1 S t)then [(j,t.w)]else []).map oi)::Q):=by
 have n:=λσ=>gL q hj σ;have o:=λσ=>nD t.p (sd q j) σ;have z:∀ E,Ht ŝ _ (ύ$ W.map Z) E=U (ϓ (W.any (·== t.w))) E:=λE=>XN (neg:=ŝ) ⋯;have ό:W.any (·== t.w)=decide (t.w∈l1.K):=by
  by_cases e:t.w∈l1.K
  ·rw[zf e];exact Hc.mpr ⟨t.w,(hW _).mpr e,by simp⟩
  ·rw[re e];refine Xk.mpr λx X T=>e ?_;have:=eq_of_beq T;exact(hW _).mp$ this ▸ X
 rw[ό]at z;have h':=h.app$ ώ (F.map oi)::J;have H:=Wl h'.v "shown_for" 2 Yv;have I:=ZL h'.v hj;have u:oq (Z t.w) (Y (σ++ώ (F.map oi)::J).length) ((σ++ώ (F.map oi)::J)++[Ϗ$ Zc$ B.S j])=U (ϓ$ !(vl (B.S j) t.w).isSome) ((σ++ώ (F.map oi)::J)++[Ϗ$ Zc$ B.S j]):=by
  have R:Of ((σ++ώ (F.map oi)::J)++[Ϗ$ Zc$ B.S j]) (Y (σ++ώ (F.map oi)::J).length)=SY (Zc$ B.S j):=by unfold Of;simp
  unfold oq;simp only[Jk,R,pF];cases vl (B.S j) t.w<;>rfl
 have P:((σ++ώ (F.map oi)::J)++[Ϗ$ Zc$ B.S j])[σ.length]?=SY (ώ$ F.map oi):=by simp
 have sq:Nh ((σ++ώ (F.map oi)::J)++[Ϗ$ Zc$ B.S j]) (Y σ.length)=SY (F.map oi):=by unfold Nh Ce;simp
 have k:=cW (neg:=U2) sq$ vQ _ j t.w F;rw[ù]at k;have G:=LI P (by simp;lia)$ ci j t.w;have ϊ:((σ++ώ (F.map oi)::J)++[Ϗ$ Zc$ B.S j]).set σ.length (ώ$ F.map oi++[ci j t.w])=σ++ώ ((F++[(j,t.w)]).map oi)::(J++[Ϗ$ Zc$ B.S j]):=by
  rw[Lf,z9,List.map_append];rfl
 rw[ϊ]at G;have A:(σ++ώ (F.map oi)::J)++[Ϗ$ Zc$ B.S j]=σ++ώ (F.map oi)::(J++[Ϗ$ Zc$ B.S j]):=by simp
 have s:=ϋ.i t.w;unfold xl;rw[hy];simp only[wE];unfold ci at k G;generalize ((σ++ώ (F.map oi)::J)++[Ϗ$ Zc$ B.S j])=E at *;generalize d:(decide (t.p≠sd q j) && _)=C;generalize g:σ++ώ (F.map oi)::J=a0 at *;generalize ύ [Z q,Z$ 1 - q]=SD,ύ (W.map Z)=WD at *;by_cases f:t.p=sd q j
 ·refine⟨J,?_⟩;simp[f]at d;subst d;simp[n,o,f,g]
 ·by_cases l:B.y<t.y
  ·by_cases m:t.y<=B.y+l1.e
   ·by_cases r:t.w∈l1.K
    ·cases N:(vl (B.S j) t.w).isSome with
     |true=>
      rw[N]at s u;refine⟨J++[Ϗ$ Zc$ B.S j],?_⟩;simp[s]at d;subst d;rw[show F++(if ŝ=U2 then [(j,t.w)]else [])=F by simp,<-A];simp[n,o,f,l,m,r,z,H,I,u]
     |false=>
      rw[N]at s u;by_cases e7:(j,t.w)∈F
      ·refine⟨J++[Ϗ$ Zc$ B.S j],?_⟩;simp[s,e7]at d;subst d;rw[show F++(if ŝ=U2 then [(j,t.w)]else [])=F by simp,<-A];simp[n,o,f,l,m,r,z,H,I,u,k,e7]
      ·refine⟨J++[Ϗ$ Zc$ B.S j],?_⟩;simp[s,f,l,m,r,e7]at d;subst d;rw[show F++(if U2=U2 then [(j,t.w)]else [])=F++[(j,t.w)] by simp];simp[n,o,f,l,m,r,z,H,I,u,k,e7,(λV=>zz P V),G]
    ·refine⟨J,?_⟩;simp[r]at d;subst d;simp[n,o,f,l,m,r,z,g]
   ·refine⟨J,?_⟩;simp[m]at d;subst d;simp[n,o,f,l,m,g]
  ·refine⟨J,?_⟩;simp[l]at d;subst d;simp[n,o,f,l,g]
end
abbrev sH:D->Ev->Option Ev:=rl 4$ Vf (jc 12)$ Vf (jc 13)$ Vf (jc 14)$ Vf (jc 15) cm
section
variable{b c:Nat}{P:Nat->Pt}{B:Bs}{l:Lk}{q:Int}{L:Nat->em}{σ:Ga}(h:KV b c P B l q L σ){j:Nat}(hj:j<2){l1:Lk}(hy:l1.y=B.y){W:em}(hW:∀ w,w∈W ↔ w∈l1.K)(SK:D)
include h hj hy hW
theorem A1 g M O:∀ (d:List Ti) {S} {F} J i k l m,F.length+d.length<100->Iv j (B.S j) S F->∃ s u v x z,ek sH OE (d.map Ti.D) (wE c b q l1.e SK W σ.length B.y j g M O i k l m) (σ++ώ (F.map oi)::J)=U (Ϙ$ wE c b q l1.e SK W σ.length B.y j g M O s u v x) (σ++ώ ((F++(df l1 (d.filter λt=>decide$ t.p≠sd q j) S).1.map (Prod.mk j)).map oi)::z)/\Iv j (B.S j) (df l1 (d.filter λt=>decide$ t.p≠sd q j) S).2 (F++(df l1 (d.filter λt=>decide$ t.p≠sd q j) S).1.map (Prod.mk j)):=by
 intro d;induction d with
 |nil=>
  intro S F J i k l m _ f;exact⟨i,k,l,m,J,by simp[df],by simpa [df]using f⟩
 |cons t d r=>
  intro S F J i k l m L f;rw[Ab]at L;obtain⟨o,I⟩:=İ h hj hy hW SK J ⋯ f t g M O;have P:sH t.D (wE c b q l1.e SK W σ.length B.y j g M O i k l m)=SY (wE c b q l1.e SK W σ.length B.y j g M O _ _ _$ SY$ Z t.y):=rfl;rw[Va,Ay P,I,zd,Vm];by_cases n:t.p=sd q j
  ·rw[show (t::d).filter (λt=>decide$ t.p≠sd q j)=d.filter λt=>decide$ t.p≠sd q j by simp[n],show (F++if (decide (t.p≠sd q j) && xl l1 S t)then [(j,t.w)]else [])=F by simp[n]];exact r o _ _ _ _ ⋯ f
  ·rw[show (t::d).filter (λt=>decide$ t.p≠sd q j)=t::d.filter λt=>decide$ t.p≠sd q j by simp[n],Nv];cases Q:xl l1 S t with
   |false=>
    rw[show (F++if (decide (t.p≠sd q j) && ŝ)then [(j,t.w)]else [])=F by simp,ya ⋯];exact r o _ _ _ _ ⋯ f
   |true=>
    rw[show (F++if (decide (t.p≠sd q j) && U2)then [(j,t.w)]else [])=F++[(j,t.w)] by simp[n],na rfl];obtain⟨C,E,G,H,A,K,N⟩:=r o (SY$ Z t.p) (SY$ Z t.a) (SY$ Z t.w) (SY$ Z t.y) (show (F++[(j,t.w)]).length+d.length<100 by simp;omega) (f.put t.w l1.y);refine⟨C,E,G,H,A,?_,?_⟩
    ·rw[K];simp
    ·simpa using N
theorem Ť i M:∀ (l:List Sn) {S} {F} J O a d f g,F.length+6 * l.length<100->(∀ s∈l,s.ts.length<=6)->Iv j (B.S j) S F->∃ m n o r u x,ek (jc 11) TH (l.map Sn.D) (wE c b q l1.e SK W σ.length B.y j i M O a d f g) (σ++ώ (F.map oi)::J)=U (Ϙ$ wE c b q l1.e SK W σ.length B.y j i M m n o r u) (σ++ώ ((F++(df l1 (l.flatMap λs=>s.ts.filter λt=>decide$ t.p≠sd q j) S).1.map (Prod.mk j)).map oi)::x):=by
 intro l;induction l with
 |nil=>
  intro S F J O a d f g _ _ w;exact⟨O,a,d,f,g,J,by simp[df]⟩
 |cons s l V=>
  intro S F J O a d f g R v w;rw[Ab]at R;have hs:=v s va;obtain⟨E,G,H,I,A,P,ό⟩:=A1 h hj hy hW SK i M _ s.ts J a d f g ⋯ w;have fl:=Bc (λt=>decide$ t.p≠sd q j) s.ts;have sl:=xC l1 (s.ts.filter λt=>decide$ t.p≠sd q j) S;obtain⟨m,K,b3,L,N,C,Q⟩:=V A _ E G H I (by simp only[db,Ha];omega) (λz T=>v z$ ja _ T) ό;refine⟨m,K,b3,L,N,C,?_⟩;have ϊ:jc 11 s.D (wE c b q l1.e SK W σ.length B.y j i M O a d f g)=SY (wE c b q l1.e SK W σ.length B.y j i M (SY s.D) a d f g):=rfl;have ϋ:∀ k,kg (Sa Cb (ka 11)$ eC$ Z 2) (wE c b q l1.e SK W σ.length B.y j i M (SY s.D) a d f g) k=U (.seq$ s.ts.map Ti.D) k:=λk=>by
   have X:=s2 s k;generalize s.D=SD at *;simp[X]
  have xj:∀ k,TH (wE c b q l1.e SK W σ.length B.y j i M (SY s.D) a d f g) k=ek sH OE _ (wE c b q l1.e SK W σ.length B.y j i M (SY s.D) a d f g) k:=λk=>by
   show Fk (kg$ Sa Cb (ka 11)$ eC$ Z 2) sH OE _ _=_;rw[dw,ϋ,qm,sG]
  rw[Va,Ay ϊ,xj,P,zd,Vm,Q,Re,xO];simp
end
def E5 l P L B{j:Nat}(b:j<2) a:Xq ŝ (ϒ [ϐ "strike",Z j]) (ύ$ ye l P L B 0++ye l P L B 1) a=U (ϓ$ Hi l P L B j) a:=by
 unfold ye;rcases(show j=0\/j=1 by lia)with rfl|rfl<;>generalize Hi l P L B 0=x,Hi l P L B 1=y<;>cases x<;>cases y<;>simp[Xq,Gp,eqa,eqb,eqc,eqd,yi]
theorem γ l P L B:Hi l P L (dr l P L B 0) 1=Hi l P L B 1:=by
 unfold Hi dr;split<;>rfl
theorem nA l P L B{j}(b:j<2):(Bd l P L B).C j=if Hi l P L B j then .taken (l.a j).q else B.C j:=by
 unfold Bd;rw[dr,γ];unfold dr;rcases(show j=0\/j=1 by lia)with rfl|rfl<;>cases Hi l P L B 1<;>cases Hi l P L B 0<;>rfl
section
variable{b c:Nat}{P:Nat->Pt}{B:Bs}{l:Lk}{q:Int}{L:Nat->em}{σ:Ga}(h:KV b c P B l q L σ){l1:Lk}(hy:l1.y=B.y){W:em}(hW:∀ w,w∈W ↔ w∈l1.K)(hC:∀ j,j<2->B.C j=.held\/∃ s x y,B.C j=.laid s x y)(hn:∀ j,j<2->((B.C j).st$ l.a j).length<=3/\∀ s∈(B.C j).st (l.a j),s.ts.length<=6)
include h hy hW hC hn
theorem yR{j}(f:j<2){F}(hF:∀ w,(j,w) ∉ F)(hl:F.length<=50) J X ό n u z A E:∃ T1 M1 O1 y2 y3 y4 y5 J',(Sb zE$ Sb cF$ Sb oF$ Sb xE JB) (wE c b q l1.e (ύ$ ye l P L B 0++ye l P L B 1) W σ.length B.y j X ό n u z A E) (σ++ώ (F.map oi)::J)=U (Ϙ$ wE c b q l1.e (ύ$ ye l P L B 0++ye l P L B 1) W σ.length B.y j T1 M1 O1 y2 y3 y4 y5) (σ++ώ ((F++(df l1 (((Bd l P L B).C j).tt$ l.a j)$ B.S j).1.map (Prod.mk j)).map oi)::J'):=by
 have iv:Iv j (B.S j) (B.S j) F:=⟨λw=>by simp[hF w]⟩
 have h':=h.app$ ώ (F.map oi)::J;have r:=gC h'.v f;have R:=Wl h'.v "told" 2 Zn;have Q:=lq h'.k "account" 2 Ip;have M:=ZG h'.k f;have T:=mE (h'.k.a j f).1 (h'.k.a j f).2;have d:=λσ=>E5 l P L B f σ;rw[nA l P L B f];obtain⟨I,K⟩:=hn j f;generalize ύ (ye l P L B 0++ye l P L B 1)=G at *;obtain⟨g,a0,N,O,e⟩:∃ g:List Sn,g.length<=3/\(∀ s∈g,s.ts.length<=6)/\(g.flatMap λs=>s.ts.filter λt=>decide$ t.p≠sd q j)=((if Hi l P L B j then Cl.taken (l.a j).q else B.C j).tt _)/\(Sb zE$ Sb cF$ Sb oF$ Sb xE JB) (wE c b q l1.e G W σ.length B.y j X ό n u z A E) (σ++ώ (F.map oi)::J)=JB (wE c b q l1.e G W σ.length B.y j (SY (B.C j).tl) (SY$ ύ$ g.map Sn.D) n u z A E) (σ++ώ (F.map oi)::J):=by
  rcases hC j f with i|⟨s,x,y,i⟩
  ·have o:Hi l P L B j=ŝ:=by unfold Hi ip;rw[i];rfl
   rw[i]at I K r;rw[o]at d;refine⟨(l.a j).y,I,K,?_,?_⟩
   ·rw[o,i];unfold Cl.tt Cl.st;rw[h.q j f];rfl
   ·rw[i];have H:=AH;simp only[wE];generalize σ++ώ (F.map oi)::J=m at *;generalize Cl.held.tl=ϋ,ύ [Z q,Z$ 1 - q]=V,ύ (W.map Z)=ϊ,(l.a j).y.map Sn.D=YD at *;simp[r,R,Q,M,T,H,wA,d,-dw]
  ·have H:=GE s x y;rw[i]at I K r;cases o:Hi l P L B j with
   |false=>
    rw[o]at d;refine⟨[x],I,K,?_,?_⟩
    ·rw[i];unfold Cl.tt Cl.st;rw[h.q j f];rfl
    ·rw[i];simp only[wE];generalize σ++ώ (F.map oi)::J=m at *;simp only[Va,Yh];generalize (Cl.laid s x y).tl=ϋ,ύ [Z q,Z$ 1 - q]=V,ύ (W.map Z)=ϊ,(l.a j).y.map Sn.D=YD,x.D=XD at *;simp[r,R,Q,M,T,H,d,-dw]
   |true=>
    rw[o]at d;refine⟨[],by simp,by simp,?_,?_⟩
    ·rw[na rfl];unfold Cl.tt Cl.st;simp
    ·rw[i];simp only[wE];generalize σ++ώ (F.map oi)::J=m at *;simp only[Yh];generalize (Cl.laid s x y).tl=ϋ,ύ [Z q,Z$ 1 - q]=V,ύ (W.map Z)=ϊ,(l.a j).y.map Sn.D=YD,x.D=XD at *;simp[r,R,Q,M,T,H,d,-dw]
 apply b_;intro z_;obtain⟨O',a2,a3,a4,a5,J1,lp⟩:=Ť h f hy hW G (SY (B.C j).tl) (SY$ ύ$ g.map Sn.D) g J n u z A E ⋯ N iv;rw[O]at lp;apply z_;refine⟨SY (B.C j).tl,SY$ ύ$ g.map Sn.D,O',a2,a3,a4,a5,J1,e.trans$ Eq.trans ?_ lp⟩;show Fk (kg$ ka 10) (jc 11) TH _ _=_;have sr:∀ m,kg (ka 10) (wE c b q l1.e G W σ.length B.y j (SY (B.C j).tl) (SY$ ύ$ g.map Sn.D) n u z A E) m=U (.seq$ g.map Sn.D) m:=λm=>by
  generalize g.map Sn.D=SS at *;simp
 rw[dw,sr,qm,sG]
theorem š:og [Y c,Y b,ύ [Z q,Z$ 1 - q],Z l1.e,ύ$ ye l P L B 0++ye l P L B 1,ύ$ W.map Z] σ=U (ύ$ (df l1 (((Bd l P L B).C 0).tt$ l.a 0)$ B.S 0).1.map (ci 0)++(df l1 (((Bd l P L B).C 1).tt$ l.a 1)$ B.S 1).1.map (ci 1)) σ:=by
 have o:=h.app [ώ []];have ty:=fJ o.v;have N:=Wl o.v "today" 1 vt;obtain⟨G,A,E,T,ό,V,X,x,m⟩:=yR h hy hW hC hn (j:=0) ⋯ (F:=[]) ⋯ ⋯ [] ń ń ń ń ń ń ń;rw[uf]at m;have Q:∀ j,j<2->(((Bd l P L B).C j).tt$ l.a j).length<=18:=λj u=>by
  rw[nA l P L B u];split
  ·simp[Cl.tt,Cl.st]
  ·apply b_;intro z_;obtain⟨n1,O⟩:=hn j u;apply z_;unfold Cl.tt;have J:∀ (f:List Sn),(∀ s∈f,s.ts.length<=6)->(f.flatMap λs=>s.ts.filter λt=>decide$ t.p≠(l.a j).q).length<=6 * f.length:=λf=>by
    induction f with
    |nil=>simp
    |cons s f M=>
     intro r;have h2:=M λz K=>r z$ ja _ K;have h3:=r s va;have h4:=Bc (λt=>decide$ t.p≠(l.a j).q) s.ts;rw[Re,db,Ab];lia
   have:=J _ O;omega
 have l0:=xC l1 (((Bd l P L B).C 0).tt$ l.a 0)$ B.S 0;have t0:=Q 0 ⋯;obtain⟨T2,M2,O2,w2,w3,w4,w5,k,n⟩:=yR h hy hW hC hn (j:=1) ⋯ (F:=(df l1 (((Bd l P L B).C 0).tt$ l.a 0)$ B.S 0).1.map$ Prod.mk 0) ⋯ (by simp;omega) x G A E T ό V X;have I:((df l1 (((Bd l P L B).C 0).tt$ l.a 0)$ B.S 0).1.map (Prod.mk 0)++(df l1 (((Bd l P L B).C 1).tt$ l.a 1)$ B.S 1).1.map (Prod.mk 1)).map oi=(df l1 (((Bd l P L B).C 0).tt$ l.a 0)$ B.S 0).1.map (ci 0)++(df l1 (((Bd l P L B).C 1).tt$ l.a 1)$ B.S 1).1.map (ci 1):=by
  rw[List.map_append,Ec,Ec];rfl
 rw[I]at n;have H:xf ((df l1 (((Bd l P L B).C 0).tt$ l.a 0)$ B.S 0).1.map (ci 0)++(df l1 (((Bd l P L B).C 1).tt$ l.a 1)$ B.S 1).1.map (ci 1))=U2:=Jn λd i=>by
  rcases jb.mp i with i|i<;>(obtain⟨w,_,rfl⟩:=Xa.mp i;unfold ci;simp)
 generalize (df l1 (((Bd l P L B).C 0).tt$ l.a 0)$ B.S 0).1.map (ci 0)++(df l1 (((Bd l P L B).C 1).tt$ l.a 1)$ B.S 1).1.map (ci 1)=R at *;have g:=wR (tg:=jc 8) (ρ:=[SY$ Y c,SY$ Y b,SY$ ύ [Z q,Z$ 1 - q],SY$ Z l1.e,SY$ ύ$ ye l P L B 0++ye l P L B 1,SY$ ύ$ W.map Z,SY$ Y σ.length,SY$ Z B.y,ń,ń,ń,ń,ń,ń,ń,ń]) rfl m rfl n;have fz:=ML (σ:=σ) (j:=k) (j':=[]) H;rw[Lf]at fz;have fz:lg σ (U (Y σ.length)$ σ++ώ R::k)=U (ύ R) σ:=fz;have g:Fk (io$ eC$ Z 2) (jc 8) (Sb zE$ Sb cF$ Sb oF$ Sb xE JB) [SY$ Y c,SY$ Y b,SY$ ύ [Z q,Z$ 1 - q],SY$ Z l1.e,SY$ ύ$ ye l P L B 0++ye l P L B 1,SY$ ύ$ W.map Z,SY$ Y σ.length,SY$ Z B.y,ń,ń,ń,ń,ń,ń,ń,ń] (σ++[ώ []])=_:=g;unfold og RV Lc;dsimp only;simp only[wE]at g;generalize (Sb zE$ Sb cF$ Sb oF$ Sb xE JB)=ϊ at *;generalize σ++ώ R::k=ϋ,ύ [Z q,Z$ 1 - q]=SD,ύ (W.map Z)=WD,ύ (ye l P L B 0++ye l P L B 1)=SK at *;simp[ty,N,g,fz,-dw]
end
section
variable{ds:i'}{n k i:Nat}{fi:Ev->M Bool}{fe:Ev->M D}{rest:Ev}{σ σ1 σ2 σ3:Ga}{o:Option D}{d y:D}
def C7(a:ds[i]?=SY d)(h:fi (SY d::ń::rest) σ=U ŝ σ1):Lg (Qg.seq ds).nx n (jc 0) fi fe (k+1) i (o::ń::rest) σ=Lg (Qg.seq ds).nx n (jc 0) fi fe k (i+1) (SY d::ń::rest) σ1:=by
 rw[Lg];have e:(Qg.seq ds).nx i σ=SY (SY d):=by show SY ds[i]?=_;rw[a]
 have t:jc 0 d (o::ń::rest)=SY (SY d::ń::rest):=rfl;simp only[e,t];rw[Ii,uu h,zd,ya ⋯]
def g7(b:ds[i]?=SY d)(h:fi (SY d::ń::rest) σ=U U2 σ1)(c:fe (SY d::ń::rest) σ1=U y σ2)(a:Pg (Y n) [y] σ2=U Ϛ σ3):Lg (Qg.seq ds).nx n (jc 0) fi fe (k+1) i (o::ń::rest) σ=Lg (Qg.seq ds).nx n (jc 0) fi fe k (i+1) (SY d::ń::rest) σ3:=by
 rw[Lg];have e:(Qg.seq ds).nx i σ=SY (SY d):=by show SY ds[i]?=_;rw[b]
 have t:jc 0 d (o::ń::rest)=SY (SY d::ń::rest):=rfl;simp only[e,t];rw[Ii,uu h,zd,na rfl,Ii,uu c,zd,Ii,a,zd]
end
def cT{src}{s}{ix}{b}{a}{ρ}{σ c}(d:src ρ σ=U s σ)(e:Lg s.nx σ.length (jc 0) b a 1001 0 (ń::ń::(ix.map λi=>(ρ[i]?).getD ń)) (σ++[ώ []])=U () c):Ei (Jj src) ix (jc 0) b a ρ σ=U (Y σ.length) c:=by
 show Ic (Ic _ eD) _ σ=_;rw[Ii,Ii,d,zd];show Ic (Lg s.nx σ.length _ b a 1001 0$ ń::ń::(ix.map λi=>(ρ[i]?).getD ń)) _ _=_
 simp_all
noncomputable def Xo(C:Int)(j:Nat):Bool:=ge (C / 432 / 2 ^ j) 1 == 1
structure WS(b:Nat)(k:Kp)(F:Kv)(σ0:Ga)(ys:i')(τ:Ga):Prop where
 h:Th b { k with F:=F } τ
 g:τ[σ0.length]?=SY (ώ ys)
 f:∀ (r:Nat) (o:Ob),r≠b+6->σ0[r]?=SY o->τ[r]?=SY o
abbrev uH:Ev->M Bool:=(jp (eT$ Sa Hh (Sa Kz (Sa Ly (Sa Nm (ka 3)$ eC$ Z 432)$ ka 0)$ eC$ Z 1)$ eC$ Z 1)$ eT$ Sa Hh (Ye [(10,Zz)] 2 "wish" (ka 2)$ Fa (yf$ Fa (eC$ ϐ "finish")$ Fa (ka 0) ib) ib)$ yf$ Fa (eC$ ϓ U2)$ Fa (Zi ib) ib)
section
variable{b:Nat}{k:Kp}{F:Kv}{σ0:Ga}{ys:i'}{τ:Ga}(w:WS b k F σ0 ys τ)(hb:b+6<σ0.length)(hF:F.length<900)(hy:ys.length<100)(C:Int)
include w hb hF hy
theorem OS{x}(I:x∈k.as){j:Nat}(G:x.2.p=j)(J:j<2) m o:∃ d,Lg (Qg.seq [Z 0,Z 1]).nx σ0.length (jc 0) uH (ka 0) (m+1) j (o::ń::[SY$ Y b,SY$ Z C]) τ=Lg (Qg.seq [Z 0,Z 1]).nx σ0.length (jc 0) uH (ka 0) m (j+1) (SY (Z j)::ń::[SY$ Y b,SY$ Z C]) d/\WS b k (if Xo C j then Ji F (.inl j) (ϓ U2)else F) σ0 (if Xo C j then ys++[Z j]else ys) d:=by
 have y:([Z 0,Z 1]:i')[j]?=SY (Z j):=by rcases(show j=0\/j=1 by lia)with rfl|rfl<;>rfl
 have q:∀ (a b:Int) c,Kz (Z a) (Z b) c=U (Z$ ge a b) c:=λa b c=>rfl;have B:∀ c,Ly (Z$ C / 432) (Z j) c=U (Z$ C / 432 / 2 ^ (j:Int).toNat) c:=λc=>g9 _ _ ⋯;have l:(ge (C / 432 / 2 ^ j) 1 == 1)=Xo C j:=rfl;cases u:Xo C j with
 |false=>
  refine⟨τ,C7 y ?_,w⟩;rw[u]at l;simp[q,B,l]
 |true=>
  rw[u]at l;obtain⟨i,s,A,t⟩:=î w.h (x:=x) I hF;rw[G]at s A;have n:=t σ0.length _ ⋯ w.g;have E:=LI n ⋯$ Z j;have H:∀ c,Hh _ (ϒ [ϓ U2,ύ []]) c=U (ϓ U2) c:=λc=>cD (by simp[pla,plb,plc,pld,ple]);refine⟨_,g7 y (σ1:=i) (σ2:=i) ?_ ?_ E,⟨A.YC n ⋯ _,Ia (aa.mp n).1,λr o z e=>?_⟩⟩
  ·simp[q,B,l,(Zo w.h.v "wish" 2 Zz),s,H]
  ·simp
  ·have:=(aa.mp e).1;exact ue ⋯$ t r o z$ w.f r o z e
end
noncomputable def Cr(a b:Bool):gV:=(if a then [0]else [])++(if b then [1]else [])
def aO(a b:Bool):Kv:=if b then Ji (if a then Ji [] (.inl 0) (ϓ U2)else []) (.inl 1) (ϓ U2)else if a then Ji [] (.inl 0) (ϓ U2)else []
def Y5{b}{k}{a}(h:Th b k a)(l:b+6<a.length)(y:k.as.map (·.2.p)=[0,1])(w:k.F=[]) C{ρ}(v:(ρ[7]?).getD ń=SY (Y b))(u:(ρ[1]?).getD ń=SY (Z C)):∃ n,Ei (Jj$ io$ eC$ Z 2) [7,1] (jc 0) uH (ka 0) ρ a=U (Y a.length) n/\WS b k (aO (Xo C 0)$ Xo C 1) a ((Cr (Xo C 0)$ Xo C 1).map λ(i:Nat)=>Z i) n:=by
 have d:∀ p:Int,p∈([0,1]:em)->∃ x∈k.as,x.2.p=p:=λp m=>by
  rw[<-y]at m;obtain⟨x,z,e⟩:=Xa.mp m;exact⟨x,z,e⟩
 obtain⟨I,f,q⟩:=d 0 ⋯;obtain⟨J,g,s⟩:=d 1 ⋯;have B:WS b k [] a []$ a++[ώ []]:=⟨by have:=h.app [ώ []];rw[<-w];exact this,by simp,λr o r e=>bj e⟩
 obtain⟨H,s1,E⟩:=OS B l ⋯ ⋯ C f (j:=0) q ⋯ 1000 ń;obtain⟨c,s2,G⟩:=OS E l (by split<;>simp[Ji]) (by split<;>simp) C g (j:=1) s ⋯ 999 _;refine⟨c,?_,?_⟩
 ·have A:io (eC$ Z 2) ρ a=U (.seq [Z 0,Z 1]) a:=by
   have:ot (Z 2) a=U (.seq [Z 0,Z 1]) a:=by rw[kF ⋯ ⋯];rfl
   simp[this]
  have Df:Lg (Qg.seq [Z 0,Z 1]).nx a.length (jc 0) uH (ka 0) 999 2 (SY (Z ((1:Nat):Int))::ń::[SY$ Y b,SY$ Z C]) c=U () c:=by
   rw[Lg];have e:(Qg.seq [Z 0,Z 1]).nx 2 c=SY ń:=rfl;simp only[e]
  refine cT A ?_;rw[Va,Va,Yh,v,u,s1,s2,Df]
 ·have t:((Cr (Xo C 0)$ Xo C 1).map λ(i:Nat)=>Z i)=(if Xo C 1 then (if Xo C 0 then []++[Z ((0:Nat):Int)]else [])++[Z ((1:Nat):Int)]else if Xo C 0 then []++[Z ((0:Nat):Int)]else []):=by
   unfold Cr;cases Xo C 0<;>cases Xo C 1<;>rfl
  rw[t];exact G
def l9 b x:x∈Fm b ↔ x∈b:=by
 have c:∀ (l s:em),x∈l.foldl PyProof.Rows.step_dedup s ↔ x∈s\/x∈l:=λl=>by
  induction l with
  |nil=>simp
  |cons a l d=>
   intro s;have:x∈PyProof.Rows.step_dedup s a ↔ x∈s\/x=a:=by
    unfold PyProof.Rows.step_dedup;split;all_goals simp_all
   rw[zg,d,this,Ba,or_assoc]
 have:=c b [];simpa [Fm]using this
def Wd(K:em)(M:List$ Int × Int):em:=pp$ Fm$ ks K++nk M
def kG l w:w∈pp l ↔ w∈l:=(Uq l).mem_iff
def qX K M w:w∈Wd K M ↔ w∈(nk M).foldl Qh K:=by
 unfold Wd;rw[kG,l9,jb,kG,kT]
def ō{K}(h:K.Nodup) M:ks ((nk M).foldl Qh K)=Wd K M:=
 û ((List.perm_ext_iff_of_nodup (iR h)$ cU _).mpr λw=>by rw[<-qX];unfold Wd;exact kG _ _)
def AZ{K}{M}(b:K.length+M.length<64) a:lg a (qE (ύ$ (ks K++nk M).map Z) a)=U (ύ$ (Wd K M).map Z) a:=by
 have e:(wf a$ ύ$ (ks K++nk M).map Z).bind yes=SY (ks K++nk M):=by
  exact JS _
 have c:(ks K++nk M).length<64:=by
  unfold nk;rw[db,(Uq _).length_eq,(Uq _).length_eq,Ha];exact b
 unfold qE;simp only[e];rw[na c];exact Ax$ NG _
def Û{K}{M}(b:K.length+M.length<64) a:lh (ύ$ (ks K).map Z) (ύ$ (nk M).map Z) a=U (ύ$ (ks K++nk M).map Z) a:=by
 rw[List.map_append];refine Jz ?_;unfold nk;simp[(Uq _).length_eq,Uf]
 lia
theorem è(c:Cl) a:Hh c.tl (ϒ [ϐ "held"]) a=U (ϓ c.hd) a:=by
 cases c with
 |held=>rfl
 |laid s x y=>rfl
 |taken s=>rfl
noncomputable def vx(j:Nat):D:=ϒ [ϐ "lay",Z j]
def zuv{c}{P}{B}{a}(v:Fh c P B a) d f{n}(k:a[n]?=SY (ώ$ (Cr d f).map λ(i:Nat)=>Z i)){ρ}(h:ρ[12]?=SY (SY$ Y n))(g:(ρ[11]?).getD ń=SY (Y c)):Sh (Ei (Jj$ kg$ ka 12) [11] (jc 0) (eT$ Sa Hh (Ye [(15,Zn)] 2 "told" (ka 2)$ Fa (ka 0) ib)$ yf$ Fa (eC$ ϐ "held") ib)$ yf$ Fa (eC$ ϐ "lay")$ Fa (ka 0) ib) ρ a=U (ύ$ ((Cr d f).filter λj=>(B.C j).hd).map vx) a:=by
 have o:Ce a n=SY ((Cr d f).map λ(i:Nat)=>Z i):=by unfold Ce;rw[k]
 have q:kg (ka 12) ρ a=U (.Ml n) a:=by
  have m:ka 12 ρ a=U (Y n) a:=by unfold ka;rw[h]
  rw[nH,m,zd];unfold mx;simp[o]
 refine Xz (xs:=Cr d f) (λ(i:Nat)=>Z i) vx (λj=>(B.C j).hd) q (λi j=>?_) (by unfold Cr;split<;>split<;>simp) (λj b J=>?_) (λt t t=>by unfold vx;simp)
 ·have e:Ce (a++j) n=SY ((Cr d f).map λ(i:Nat)=>Z i):=by unfold Ce;rw[bj k]
  show (Ce _ n).map _=_;rw[e,jf,Ca]
 ·have p:j<2:=by
   unfold Cr at b;rcases jb.mp b with b|b<;>(split at b<;>first|(have:=Oa.mp b;lia)|cases b)
  rw[Va,Yh,g];have r:=gC (v.app J) p;have l:=λa=>è (B.C j) a;generalize (B.C j).tl=s at *;exact⟨by simp[r,(Wl (v.app J) "told" 2 Zn),l],λt=>by simp[vx]⟩
def ι l B a b(c:l.F=aO a b):((Cr a b).filter λj=>(B.C j).hd).map vx=Ng l B 0++Ng l B 1:=by
 have d:Df l 0=a:=by unfold Df;rw[c];cases a<;>cases b<;>rfl
 have e:Df l 1=b:=by unfold Df;rw[c];cases a<;>cases b<;>rfl
 unfold Ng Uk;rw[d,e];unfold Cr;cases a<;>cases b<;>cases f:(B.C 0).hd<;>cases g:(B.C 1).hd<;>simp[f,g,vx]
structure Pre(T:Int->Int)(q:Int)(P:Nat->Pt)(l:Lk)(L:Nat->em):Prop where
 hq:q=0\/q=1
 a:∀ j,j<2->∃ N,AI T N (l.a j)
 ln:∀ j,j<2->∀ s∈(l.a j).y,s.ts.length<=4
 LL:∀ j,j<2->(l.a j).L=(L j).map Z
 p:∀ j:Nat,j<2->(l.a j).p=j
 q:∀ j,j<2->(l.a j).q=sd q j
 PP:∀ j:Nat,j<2->(P j).Ok/\(P j).u+(P j).v=T j
 g:∀ j:Nat,j<2->(l.a j).m.D=Pj 0 (P j).u (P j).v []\/(l.a j).G=ag j (1 - (l.a j).q) (l.a j).m.D
def Cg(T:Int->Int)(a:Ac)(j:Nat)(c:Cl):Prop:=c=.held\/(∃ x y,c=.laid (1 - a.q) x y/\x.Ok (T j))\/(∃ y,c=.laid a.q a.m y)\/c=.taken a.q
def AI.m{T}{N}{a}(h:AI T N a):a.m∈a.y:=by
 cases h with
 |Lb=>simp[Internal.Lb]
 |xg=>simp[Internal.xg]
 |wait=>simp[Internal.wait]
section
variable{T:Int->Int}{q:Int}{P:Nat->Pt}{l:Lk}{L:Nat->em}(h:Pre T q P l L){j:Nat}(hj:j<2)
include h hj
theorem cL:(∀ s∈(l.a j).y,s.Ok (T j))/\(l.a j).y.length<=2:=by
 obtain⟨N,b⟩:=h.a j hj;have:=b.so;rw[h.p j hj]at this;exact⟨λs c=>(this.1 s c).ok,this.2.2⟩
theorem gH:(l.a j).m∈(l.a j).y:=by obtain⟨N,b⟩:=h.a j hj;exact b.m
theorem oM{c}(i:Cg T (l.a j) j c):(c.st$ l.a j).length<=3/\(c.st$ l.a j).length * 4<=8/\∀ s∈c.st (l.a j),s.ts.length<=6/\(1<(c.st$ l.a j).length->s.ts.length<=4)/\∀ t∈s.ts,0<=t.w/\t.w<=59:=by
 obtain⟨g,k⟩:=cL h hj;have d:∀ x:Sn,x.Ok (T j)->∀ s∈[x],s.ts.length<=6/\(1<[x].length->s.ts.length<=4)/\∀ t∈s.ts,0<=t.w/\t.w<=59:=λx e s b=>by
  rw[Oa.mp b];exact⟨e.st.l,λz=>by simp at z,λt f=>(e.st.t t f).w⟩
 rcases i with rfl|⟨x,y,rfl,e⟩|⟨y,rfl⟩|rfl
 ·refine⟨by show (l.a j).y.length<=3;lia,by show (l.a j).y.length * 4<=8;omega,λs b=>?_⟩;exact⟨(g s b).st.l,λm=>h.ln j hj s b,λt f=>((g s b).st.t t f).w⟩
 ·exact⟨by simp[Cl.st],by simp[Cl.st],d x e⟩
 ·exact⟨by simp[Cl.st],by simp[Cl.st],d _$ g _$ gH h hj⟩
 ·exact⟨by simp[Cl.st],by simp[Cl.st],λs b=>by
   rw[Oa.mp$ b];simp⟩
theorem ś{B}(d:Cg T (l.a j) j$ B.C j){f}(b:f.a=l.a):Tk f B j:=by
 obtain⟨s1,_,g⟩:=oM h hj d;obtain⟨i,m⟩:=cL h hj;refine⟨by rw[b];exact(i _$ gH h hj).st.l,?_,by rw[b];exact s1,λs c=>by rw[b]at c;exact⟨(g s c).1,(g s c).2.2⟩⟩;rcases d with e|⟨x,y,e,k⟩|⟨y,e⟩|e<;>rw[e]
 ·trivial
 ·trivial
 ·trivial
 ·show (l.a j).q=0\/(l.a j).q=1;rw[h.q j hj];exact yV h.hq j
theorem z8{c}(f:Cg T (l.a j) j c):(c.tt$ l.a j).length<=8:=by
 apply b_;intro z_;obtain⟨s1,s2,b⟩:=oM h hj f;apply z_;unfold Cl.tt;have d:=λs:Sn=>Bc (λt=>decide$ t.p≠(l.a j).q) s.ts
 match e:c.st _ with
 |[]=>simp
 |[x]=>
  rw[e]at b;have:=(b x$ by simp).1;have:=d x;simp only[Re,tw,He]
  lia
 |[x,z]=>
  rw[e]at b;have:=(b x$ by simp).2.1 ⋯;have:=(b z$ by simp).2.1 ⋯;have:=d x;have:=d z;simp only[Re,tw,He,db];omega
 |_::_::_::_=>rw[e]at s2;simp at s2;omega
theorem DW{B}(d:Cg T (l.a j) j$ B.C j){b}(c:b.a=l.a):Cg T (l.a j) j$ (Bd b P L B).C j:=by
 rw[nA _ _ _ _ hj,c];split
 ·exact ϕ$ ϕ$ ϕ rfl
 ·exact d
end
section
variable{T:Int->Int}{q:Int}{P:Nat->Pt}{l:Lk}{L:Nat->em}(h:Pre T q P l L){b c:Nat}{B:Bs}{σ:Ga}(k:KL b l (Ϗ l.A) σ)(v:Fh c P B σ)(hbc:b+6<c)(hn:∀ j,j<2->l.n j<c)(hc:∀ j,j<2->Cg T (l.a j) j (B.C j))(hS:∀ j,j<2->(B.S j).length<=30)(hz:l.K.length<=300)
include h k v hbc hn hc hS hz
theorem tX:∃ N f n d,Hw [Y b,Y c] σ=U (Y n) d/\KD b c P (vw (Rc l B N)$ Ki (Rc l B N)$ Bd (Rc l B N) P L B) { Rc l B N with C:=f } N (Ki (Rc l B N)$ Bd (Rc l B N) P L B).S (Ϗ l.A) n (ye (Rc l B N) P L B 0++ye (Rc l B N) P L B 1++((qk (Rc l B N) (Bd (Rc l B N) P L B) 0).1++(qk (Rc l B N) (Bd (Rc l B N) P L B) 1).1)++(Ng (Rc l B N) (Ki (Rc l B N)$ Bd (Rc l B N) P L B) 0++Ng (Rc l B N) (Ki (Rc l B N)$ Bd (Rc l B N) P L B) 1)) d:=by
 refine W0 k v hbc hn h.LL h.p (λj a s x y e o=>?_) hS hz (λN j a=>ś h a (DW h a (hc j a) rfl) rfl) (λj a=>⟨(h.PP j a).1,?_,h.g j a⟩)
 ·have hc:=hc j a;rw[e]at hc;rcases hc with z|⟨q,m,z,i⟩|⟨m,z⟩|z
  ·cases z
  ·cases z;exact⟨rfl,by rw[(h.PP j a).2];exact i⟩
  all_goals simp_all
 ·rw[(h.PP j a).2];exact((cL h a).1 _$ gH h a)
end
section
variable(l:Lk)
def Ĝ{S a}{t}(h:xl l S t=ŝ)(b:(vl S t.w).isSome=U2->(vl a t.w).isSome=U2):xl l a t=ŝ:=by
 unfold xl at *;cases e:(vl S t.w).isSome with
 |true=>simp_all
 |false=>simp_all
theorem OH{w:Int}:∀ (a:List Ti) (S:List$ Int × Int),(vl S w).isSome=U2->(vl (df l a S).2 w).isSome=U2
 |[],S,h=>h
 |t::a,S,h=>by
  rw[Nv];split
  ·refine OH a _ ?_;rw[oA];split
   ·rfl
   ·exact h
  ·exact OH a S h
theorem BL{w:Int}:∀ (a:List Ti) (S:List$ Int × Int),vl S w=SY l.y->vl (df l a S).2 w=SY l.y
 |[],S,h=>h
 |t::a,S,h=>by
  rw[Nv];split
  ·refine BL a _ ?_;rw[oA];split
   ·rfl
   ·exact h
  ·exact BL a S h
set_option tactic.hygienic true in
theorem FK{w:Int}:∀ (a:List Ti) (S:List$ Int × Int),w∈(df l a S).1->vl (df l a S).2 w=SY l.y
 |[],S,h=>by cases h
 |t::a,S,h=>by
  rw[Nv]at h ⊢;split at h
  ·next c=>
   rw[na c];rcases Ba.mp h with e|h
   ·refine BL l a _ ?_;rw[oA,na e.symm]
   ·exact FK a _ h
  ·next c=>rw[ya c];exact FK a S h
set_option tactic.hygienic true in
theorem nM{w:Int}:∀ (a:List Ti) (S:List$ Int × Int),(vl (df l a S).2 w).isSome=U2->(vl S w).isSome=U2\/w∈l.K
 |[],S,h=>ϑ h
 |t::a,S,h=>by
  rw[Nv]at h;split at h
  ·next c=>
   rcases nM a _ h with h|h
   ·rw[oA]at h;split at h
    ·next e=>
     unfold xl at c
     simp_all
    ·exact ϑ h
   ·exact ϕ h
  ·exact nM a S h
set_option tactic.hygienic true in
theorem qO:∀ (a:List Ti) (S:List$ Int × Int),∀ t∈a,xl l (df l a S).2 t=ŝ
 |[],S,t,h=>by cases h
 |u::a,S,t,h=>by
  rw[Nv];rcases Ba.mp h with rfl|h
  ·split
   ·have:(vl (df l a$ Nk S t.w l.y).2 t.w).isSome=U2:=OH l a _ (by rw[oA,na rfl];rfl);unfold xl;rw[this];simp
   ·next c=>exact Ĝ l ⋯$ OH l a S
  ·split
   ·exact qO a _ t h
   ·exact qO a S t h
theorem EW{S:List$ Int × Int}:∀ (a:List Ti),(∀ t∈a,xl l S t=ŝ)->df l a S=([],S)
 |[],_=>rfl
 |t::a,h=>by
  rw[Nv,h t va,ya ⋯];exact EW a λu b=>h u$ ja _ b
theorem HN:∀ (a:List Ti) (S:List$ Int × Int),(df l a S).2.length<=S.length+a.length
 |[],S=>by simp[df]
 |t::a,S=>by
  have b:=HN a S;have c:=HN a$ Nk S t.w l.y;have d:=PH S t.w l.y;rw[Nv,Ab];split
  ·show (df l a _).2.length<=_;lia
  ·lia
end
def G1 l w:w∈nk l ↔ (vl l w).isSome=U2:=by
 unfold nk;rw[kG];induction l with
 |nil=>simp[vl]
 |cons p l a=>
  rw[Va,Ba,a,Lw];by_cases e:p.1=w
  ·simp[e]
  ·have:¬ w=p.1:=λz=>e z.symm
   simp_all
theorem yL(w:Int):∀ (m l:List$ Int × Int),(vl (bf l m) w).isSome=U2 ↔ (vl l w).isSome=U2\/(vl m w).isSome=U2
 |[],l=>by simp[bf,vl]
 |p::m,l=>by
  have e:bf l (p::m)=bf _ m:=rfl;rw[e,(yL w m _),oA,Lw];by_cases e:p.1=w<;>simp[e]
def eS l B N w:w∈(Rc l B N).K ↔ w∈l.K\/(vl (B.S 0) w).isSome=U2\/(vl (B.S 1) w).isSome=U2:=by
 show w∈List.foldl Qh l.K _ ↔ _;rw[kT,G1,yL,yL];simp[vl]
theorem N8 l B:Uk l (Rq l B 0) 1=Uk l B 1:=by
 unfold Uk Rq;split<;>rfl
theorem ć l B{j}(c:j<2):(vw l B).C j=if Uk l B j then .laid (l.a j).q (l.a j).m B.y else B.C j:=by
 have b:(Rq l B 0).y=B.y:=by unfold Rq;split<;>rfl
 unfold vw;rw[Rq,N8,b];unfold Rq;rcases(show j=0\/j=1 by lia)with rfl|rfl<;>cases Uk l B 1<;>cases Uk l B 0<;>rfl
def fW l B:(vw l B).y=B.y/\(vw l B).S=B.S:=by
 unfold vw Rq;split<;>split<;>exact⟨rfl,rfl⟩
def b3(l:Lk)(P:Nat->Pt)(L:Nat->em)(B:Bs)(N:Nat):Bs:=vw (Rc l B N)$ Ki (Rc l B N)$ Bd (Rc l B N) P L B
section
variable(l:Lk)(P:Nat->Pt)(L:Nat->em)(B:Bs)(N:Nat)
def aI:(b3 l P L B N).y=B.y:=(fW _ _).1.trans$ (Us ..).2.trans (Us ..).2
theorem HG{j}(c:j<2):(b3 l P L B N).S j=(df (Rc l B N) (((Bd l P L B).C j).tt$ l.a j)$ B.S j).2:=by
 have e:(b3 l P L B N).S=(Ki _ _).S:=(fW _ _).2;have b:(Bd (Rc l B N) P L B).S=B.S:=(Us ..).1.trans (Us ..).1;rw[e];unfold Ki qk;rw[b];rcases(show j=0\/j=1 by lia)with rfl|rfl
 ·show (lj _ 0 _ _).2=_;rw[BF];rfl
 ·show (lj _ 1 _ _).2=_;rw[BF];rfl
theorem Fy{j}(b:j<2):(b3 l P L B N).C j=if Hi l P L B j then .taken (l.a j).q else if Df l j && (B.C j).hd then .laid (l.a j).q (l.a j).m B.y else B.C j:=by
 unfold b3;rw[ć _ _ b];have e:(Ki (Rc l B N) _).C j=if Hi l P L B j then .taken (l.a j).q else B.C j:=nA (Rc l B N) P L B b;have c:(Ki (Rc l B N)$ Bd (Rc l B N) P L B).y=B.y:=(Us ..).2.trans (Us ..).2;unfold Uk;rw[e,c];cases Hi l P L B j with
 |true=>simp[Cl.hd]
 |false=>rfl
end
def Bh(q:Int)(l:Lk)(B:Bs)(d:D):Prop:=(∃ j:Nat,j<2/\d=ϒ [ϐ "strike",Z j]/\B.C j=.taken (sd q j))\/(∃ (j:Nat) (w:Int),j<2/\d=ci j w/\vl (B.S j) w=SY B.y)\/∃ j:Nat,j<2/\d=vx j/\B.C j=.laid (sd q j) (l.a j).m B.y
def y0:(("strike" : Str) == "show")=ŝ:=by decide
def Q9:(("strike" : Str) == "lay")=ŝ:=by decide
def NY:(("show" : Str) == "strike")=ŝ:=by decide
def L7:(("show" : Str) == "lay")=ŝ:=by decide
def y1:(("lay" : Str) == "strike")=ŝ:=by decide
def ž:(("lay" : Str) == "show")=ŝ:=by decide
def Q7:(("lay" : Str) == "lay")=U2:=by decide
def Ą:(("show" : Str) == "show")=U2:=by decide
def p7:(("strike" : Str) == "strike")=U2:=by decide
section
variable{b c:Nat}{P:Nat->Pt}{B:Bs}{l:Lk}{q:Int}{L:Nat->em}{σ:Ga}(h:KV b c P B l q L σ)
include h
theorem M9{d}(L:Bh q l B d) X Q R J:∃ O P G,GM [SY$ Y c,SY$ Y b,SY$ ύ [Z q,Z$ 1 - q],SY X,SY$ Z B.y,SY d,Q,R] (σ++J)=U (Ϙ [SY$ Y c,SY$ Y b,SY$ ύ [Z q,Z$ 1 - q],SY X,SY$ Z B.y,SY d,O,P]) (σ++G):=by
 have h':=h.app J;have E:=Wl h'.v "told" 2 Zn;have A:=lq h'.k "account" 2 Ip;have f:∀ j:Nat,j<2->(∀ σ,Cb _ _ σ=U (Z$ sd q j) σ)/\Zn [Y c,Z j] (σ++J)=U (B.C j).tl (σ++J)/\Ip [Y b,Z j] (σ++J)=U (Y$ l.n j) (σ++J)/\Cc [5,6,7,8] "mine" (Y$ l.n j) (σ++J)=U (l.a j).m.D (σ++J):=λj e=>⟨λσ=>gL q e σ,gC h'.v e,ZG h'.k e,vB (h'.k.a j e).1 (h'.k.a j e).2⟩
 rcases L with⟨j,e,rfl,t⟩|⟨j,w,e,rfl,M⟩|⟨j,e,rfl,t⟩
 ·obtain⟨i,g,p,s⟩:=f j e;rw[t]at g;have o:∀ σ,ah (Cl.taken$ sd q j).tl (ϒ [ϐ "taken",Z$ sd q j]) σ=U (ϓ ŝ) σ:=λσ=>sv (by simp[pla,plb,plc,pld,ple,Cl.tl]);refine⟨SY$ Z j,SY (l.a j).m.D,J,?_⟩;generalize σ++J=F,(Cl.taken$ sd q j).tl=H,ύ [Z q,Z$ 1 - q]=z,(l.a j).m.D=x at *;simp[E,A,i,g,p,s,o,y0,Q9,p7]
 ·obtain⟨i,g,p,s⟩:=f j e;have N:=ZL h'.v e;have r:=h'.app [Ϗ$ Zc$ B.S j];have u:=vB (r.k.a j e).1 (r.k.a j e).2;have K:gk (Y (σ++J).length) (Z w) ((σ++J)++[Ϗ$ Zc$ B.S j])=U (Z B.y) ((σ++J)++[Ϗ$ Zc$ B.S j]):=by
   have I:Of ((σ++J)++[Ϗ$ Zc$ B.S j]) (Y (σ++J).length)=SY (Zc$ B.S j):=by unfold Of;simp
   unfold gk;simp only[Jk,I,pF,M];rfl
  have o:=λσ=>nD B.y B.y σ;refine⟨SY$ Z j,SY (l.a j).m.D,J++[Ϗ$ Zc$ B.S j],?_⟩;rw[<-Lf];unfold ci;generalize (σ++J)++[Ϗ$ Zc$ B.S j]=T at *;generalize σ++J=F,ύ [Z q,Z$ 1 - q]=z,(l.a j).m.D=x at *;simp[(Wl h'.v "shown_for" 2 Yv),(lq r.k "account" 2 Ip),i,N,K,(ZG r.k e),u,o,NY,L7,Ą]
 ·obtain⟨i,g,p,s⟩:=f j e;rw[t]at g;have o:∀ σ,ah (Cl.laid (sd q j) (l.a j).m B.y).tl (ϒ [ϐ "laid",Z$ sd q j,(l.a j).m.D,Z B.y]) σ=U (ϓ ŝ) σ:=λσ=>sv (by have:=VI 4 (l.a j).m;unfold Cl.tl;simp[pla,plb,plc,pld,ple]at this ⊢;exact this);refine⟨SY$ Z j,SY (l.a j).m.D,J,?_⟩;unfold vx;generalize (Cl.laid (sd q j) (l.a j).m B.y).tl=H at *;generalize σ++J=F,ύ [Z q,Z$ 1 - q]=z,(l.a j).m.D=x at *;simp[E,A,i,g,p,s,o,y1,ž,Q7]
theorem ε(r:l.y=B.y){a}(o:∀ d∈a,Bh q l B d)(C:a.length<=100):Yg [Y c,Y b,ύ [Z q,Z$ 1 - q],ύ a] σ=U (ϓ U2) σ:=by
 have t:=Wl h.v "today" 1 vt;obtain⟨u,w,m,d,f,g,J,rfl,rfl⟩:=Tv (S:=.seq a) (xs:=a) (tg:=jc 5) (body:=GM) (λi ρ j=>∃ d f g J,ρ=[SY$ Y c,SY$ Y b,SY$ ύ [Z q,Z _],SY$ ύ a,SY$ Z B.y,d,f,g]/\j=σ++J) ⋯ (ϑ rfl) (λi d ρ j e p=>by
  obtain⟨A,f,g,J,rfl,rfl⟩:=p;obtain⟨E,F,x,n⟩:=M9 h (o d$ ua e) (ύ a) f g J;exact⟨_,_,_,rfl,n,_,_,_,_,rfl,rfl⟩) (ρ:=[SY$ Y c,SY _,SY$ ύ [Z q,Z$ 1 - q],SY$ ύ a,SY$ Z B.y,ń,ń,ń]) (σ:=σ) ⟨ń,ń,ń,[],rfl,by simp⟩
 have h':=h.app J;have lk:=D9 h'.k;rw[r]at lk;have s:=lq h'.k "looked" 1 WB;have fz:lg σ (U (ϓ U2)$ σ++J)=U (ϓ U2) σ:=by
  unfold lg;dsimp only;rw[na ⋯];simp[fz]
 rw[sG]at m;unfold Yg eW Lc;dsimp only;generalize σ++J=j,ύ [Z q,Z$ 1 - q]=z at *;simp[(fJ h.v),t,m,lk,s,fz]
end
def Due(l:Lk)(P:Nat->Pt)(L:Nat->em)(B:Bs)(N:Nat):i':=ye l P L B 0++ye l P L B 1++((df (Rc l B N) (((Bd l P L B).C 0).tt$ l.a 0)$ B.S 0).1.map (ci 0)++(df (Rc l B N) (((Bd l P L B).C 1).tt$ l.a 1)$ B.S 1).1.map (ci 1))++(Ng l B 0++Ng l B 1)
section
variable(l:Lk)(P:Nat->Pt)(L:Nat->em)(B:Bs)(N:Nat)
def iN{j}(h:(B.C j).hd=U2):Hi l P L B j=ŝ/\B.C j=.held:=by
 unfold Hi ip;cases e:B.C j with
 |held=>exact⟨rfl,rfl⟩
 |laid=>rw[e]at h;cases h
 |taken=>rw[e]at h;cases h
set_option tactic.hygienic true in
def zU{j}(f:j<2):Ng (Rc l B N) (Ki (Rc l B N)$ Bd (Rc l B N) P L B) j=Ng l B j:=by
 have e:(Ki (Rc l B N) _).C j=if Hi l P L B j then .taken (l.a j).q else B.C j:=nA (Rc l B N) P L B f;have b:(if Hi l P L B j then Cl.taken (l.a j).q else B.C j).hd=(B.C j).hd:=by
  split
  ·next c=>
   cases d:(B.C j).hd with
   |true=>rw[(iN l P L B d).1]at c;cases c
   |false=>rfl
  ·rfl
 unfold Ng Uk;rw[e,b,show Df (Rc l B N) j=Df l j from rfl]
theorem lR j:(qk (Rc l B N) (Bd (Rc l B N) P L B) j).1=(df (Rc l B N) (((Bd l P L B).C j).tt$ l.a j)$ B.S j).1.map (ci j):=by
 have b:(Bd (Rc l B N) P L B).S=B.S:=(Us ..).1.trans (Us ..).1;unfold qk;rw[BF,b];rfl
theorem iS:ye (Rc l B N) P L B 0++ye (Rc l B N) P L B 1++((qk (Rc l B N) (Bd (Rc l B N) P L B) 0).1++(qk (Rc l B N) (Bd (Rc l B N) P L B) 1).1)++(Ng (Rc l B N) (Ki (Rc l B N)$ Bd (Rc l B N) P L B) 0++Ng (Rc l B N) (Ki (Rc l B N)$ Bd (Rc l B N) P L B) 1)=Due l P L B N:=by
 rw[zU l P L B N ⋯,zU l P L B N ⋯,lR,lR];rfl
def uT{j}(a:j<2):Hi l P L (b3 l P L B N) j=ŝ:=by
 cases e:Hi l P L B j with
 |true=>unfold Hi ip;rw[Fy l P L B N a,e];rfl
 |false=>
  cases b:(Df l j && (B.C j).hd)with
  |true=>unfold Hi ip;rw[Fy l P L B N a,e,b];simp[Cl.gu]
  |false=>
   unfold Hi at e ⊢;rw[Fy l P L B N a,aI,b,show Hi l P L B j=ŝ from e,ya ⋯,ya ⋯];exact e
set_option tactic.hygienic true in
def nY{q}(f:∀ j,j<2->(l.a j).q=sd q j):∀ d∈Due l P L B N,Bh q l (b3 l P L B N) d:=λd b=>by
 have i:∀ j:Nat,j<2->d∈ye l P L B j->Bh q l _ d:=λj e b=>by
  unfold ye at b;split at b
  ·next c=>exact ϑ ⟨j,e,Oa.mp b,by rw[Fy l P L B N e,na c,f j e]⟩
  ·cases b
 have h:∀ j:Nat,j<2->d∈(df _ (((Bd l P L B).C j).tt$ l.a j)$ B.S j).1.map (ci j)->Bh q l _ d:=λj e b=>by
  obtain⟨w,m,rfl⟩:=Xa.mp b;exact ϕ$ ϑ ⟨j,w,e,rfl,by rw[HG l P L B N e,FK _ _ _ m,aI];rfl⟩
 have g:∀ j:Nat,j<2->d∈Ng l B j->Bh q l _ d:=λj e b=>by
  unfold Ng at b;split at b
  ·next c=>
   have k:=c;unfold Uk at c;rw[Da]at c;refine ϕ$ ϕ ⟨j,e,Oa.mp b,?_⟩;rw[Fy l P L B N e,(iN l P L B c.2).1,ya ⋯,na (show (Df l j && (B.C j).hd)=U2 from k),aI,f j e]
  ·cases b
 rcases jb.mp b with b|b
 ·rcases jb.mp b with b|b
  ·rcases jb.mp b with b|b
   ·exact i 0 ⋯ b
   ·exact i 1 ⋯ b
  ·rcases jb.mp b with b|b
   ·exact h 0 ⋯ b
   ·exact h 1 ⋯ b
 ·rcases jb.mp b with b|b
  ·exact g 0 ⋯ b
  ·exact g 1 ⋯ b
set_option tactic.hygienic true in
def XZ{j}(e:j<2)(f:(l.a j).m∈(l.a j).y):∀ t∈((b3 l P L B N).C j).tt (l.a j),t∈((Bd l P L B).C j).tt (l.a j):=λt b=>by
 rw[Fy l P L B N e]at b;rw[nA l P L B e];split at b
 ·next c=>rw[na c];exact b
 ·next c=>
  rw[ya c];split at b
  ·next d=>
   rw[Da]at d;rw[(iN l P L B d.2).2];obtain⟨s,g,b⟩:=jm.mp b;exact jm.mpr ⟨s,by rw[Oa.mp$ g];exact f,b⟩
  ·exact b
def DZ b M{j}(c:j<2)(h:(l.a j).m∈(l.a j).y):∀ t∈((b3 l P L B N).C j).tt (l.a j),xl (Rc { Rc l B N with C:=b } (b3 l P L B N) M) ((b3 l P L B N).S j) t=ŝ:=λt k=>by
 have d:=qO (Rc l B N) _ (B.S j) t$ XZ l P L B N c h t k;rw[<-HG l P L B N c]at d;have mJ:∀ i:Nat,i<2->∀ w,(vl ((b3 l P L B N).S i) w).isSome=U2->w∈(Rc l B N).K:=λi g w e=>by
  rw[HG l P L B N g]at e;rcases nM _ _ _ e with e|e
  ·refine(eS ..).mpr$ ϕ ?_
   grind
  ·exact e
 have o:∀ w,w∈(Rc { Rc l B N with C:=b } (b3 l P L B N) M).K->w∈(Rc l B N).K:=λw n=>by
  rcases(eS ..).mp n with e|e|e
  ·exact e
  ·exact mJ 0 ⋯ w e
  ·exact mJ 1 ⋯ w e
 have f:(Rc { Rc l B N with C:=b } (b3 l P L B N) M).y=B.y:=aI l P L B N;unfold xl at *;rw[f];have d:(decide _ && (!(vl _ t.w).isSome && (decide (B.y<t.y) && decide (t.y<=B.y+l.e))))=ŝ:=d;show (_ && (!(vl _ t.w).isSome && (decide _ && decide (t.y<=B.y+l.e))))=ŝ;all_goals simp_all
theorem T0 b M(d:∀ j,j<2->(l.a j).m∈(l.a j).y):Due { Rc l B N with C:=b } P L (b3 l P L B N) M=[]:=by
 have s:∀ j:Nat,j<2->ye { Rc l B N with C:=b } P L _ j=[]:=λj c=>by
  unfold ye;rw[show Hi { Rc l B N with C:=b } P L _ j=ŝ from uT l P L B N c];rfl
 have w:∀ j:Nat,j<2->(df _ (((Bd { Rc l B N with C:=b } P L _).C j).tt _) _).1=[]:=λj c=>by
  rw[nA _ _ _ _ c,show Hi { Rc l B N with C:=b } P L _ j=ŝ from uT l P L B N c,ya ⋯,EW _ _$ DZ l P L B N b M c$ d j c]
 have y:∀ j:Nat,j<2->Ng { Rc l B N with C:=b } (b3 l P L B N) j=[]:=λj c=>by
  have e:Uk { Rc l B N with C:=b } (b3 l P L B N) j=ŝ:=by
   show (Df l j && ((b3 l P L B N).C j).hd)=ŝ;rw[Fy l P L B N c];split
   ·simp[Cl.hd]
   ·split
    ·simp[Cl.hd]
    all_goals simp_all
  unfold Ng;rw[e];rfl
 unfold Due;rw[s 0 ⋯,s 1 ⋯,y 0 ⋯,y 1 ⋯,show (df _ (((Bd { Rc l B N with C:=b } P L _).C 0).tt$ ({ Rc l B N with C:=b }:Lk).a 0) _).1=[]from w 0 ⋯,show (df _ (((Bd { Rc l B N with C:=b } P L _).C 1).tt$ ({ Rc l B N with C:=b }:Lk).a 1) _).1=[]from w 1 ⋯];rfl
end
def cQ a:Ft (Z 10) (Z 12) a=U (Z 1000000000000) a:=Yz (by simp[Rv])
noncomputable def Bw(C:Int):em:=((List.range 8).filter λ(i:Nat)=>ge (C / 2 ^ (i:Int).toNat) 1 == 1).map λ(i:Nat)=>(i:Int)
def LQ C:(Bw C).length<=8:=by
 unfold Bw;rw[Ha];exact zb (Bc ..) ⋯
theorem vZ b r a:Sh (Ei (Jj$ io$ eC$ Z 8) [0] (jc 0) (eT$ Sa Hh (Sa Kz (Sa Ly (Bf 2 lc []$ Fa (ka 2)$ Fa (eC$ Z 3) ib)$ ka 0)$ eC$ Z 1)$ eC$ Z 1)$ ka 0) (SY (.Vi b)::r) a=U (ύ$ (Bw$ ro b 3).map Z) a:=by
 have e:io (eC$ Z 8) (SY (.Vi b)::r) a=U (.seq$ (List.range 8).map λ(i:Nat)=>Z i) a:=by
  have:ot (Z 8) a=U (.seq$ (List.range 8).map λ(i:Nat)=>Z i) a:=by rw[kF ⋯ ⋯];rfl
  simp_all
 have d:∀ a,lc [.Vi b,Z 3] a=U (Z$ ro b 3) a:=dH b 3 ⋯;generalize ro b 3=c at *;have l:=Xz (ix:=[0]) (fi:=eT$ Sa Hh (Sa Kz (Sa Ly (Bf 2 lc []$ Fa (ka 2)$ Fa (eC$ Z 3) ib)$ ka 0)$ eC$ Z 1)$ eC$ Z 1) (fe:=ka 0) (λ(i:Nat)=>Z i) (λi=>Z i) (λi=>ge (c / 2 ^ (i:Int).toNat) 1 == 1) e (λi f=>vd SY$ dB _ _ i) ⋯ (λi f j=>by
  exact⟨by simp[d],λf=>by simp⟩) (λf f f=>rfl)
 exact l.trans (by unfold Bw;rw[Ec];rfl)
theorem yT a b c d e f:Uv [a,b,c,d,e] f=U (ϒ [a,b,c,d,e]) f:=rfl
noncomputable def PP(q a b c d:Int)(i:Nat):Pt:=if i=0 then (if q=0 then ⟨1,3,a,b,c⟩else ⟨3,1,a,b,c⟩)else (if q=0 then ⟨2,1,b,a,d⟩else ⟨1,2,b,a,d⟩)
def TN{q a b c d}(e:q=0\/q=1)(l:0<=a/\a<=1000000000000)(m:0<=b/\b<=1000000000000)(h:7<=c/\c<=12)(j:7<=d/\d<=12):BO q (PP q a b c d)/\∀ i,i<2->∀ f,Dd [(PP q a b c d i).D] f=U (ϓ U2) f:=by
 have ok:∀ i,i<2->(PP q a b c d i).Ok/\7<=(PP q a b c d i).w/\(PP q a b c d i).w<=12:=λi g=>by
  rcases(show i=0\/i=1 by lia)with rfl|rfl<;>rcases e with rfl|rfl<;>exact⟨⟨by assumption,by assumption⟩,by assumption⟩
 refine⟨⟨e,ok,?_,?_⟩,λi g f=>?_⟩
 ·rcases e with rfl|rfl<;>simp[PP]
 ·rcases e with rfl|rfl<;>simp[PP]
 ·apply b_;intro z_;obtain⟨k,n,o⟩:=ok i g;apply z_;refine P6 k ?_ ?_ ?_ ⟨by omega,by omega⟩ f<;>(rcases(show i=0\/i=1 by omega)with rfl|rfl<;>rcases e with rfl|rfl<;>simp[PP])
noncomputable abbrev vE(p:em)(a b c d e f g h i j k l m n o:Option D):Ev:=[SY$ .Vi p,a,b,c,d,e,f,g,h,i,j,k,l,m,n,o]
structure Bg(ns:em)(C e q c0 c1 w0 w1:Int):Prop where
 hq:q=0\/q=1
 he:1<=e/\e<=6
 h0:0<=c0/\c0<=1000000000000
 h1:0<=c1/\c1<=1000000000000
 pL:7<=w0/\w0<=12
 NO:7<=w1/\w1<=12
noncomputable abbrev e7(f:em)(C e q a b c d:Int)(g h i j k l m n o:Option D):Ev:=vE f (SY$ Z C) (SY$ Z e) (SY$ ύ [Z q,Z$ 1 - q]) (SY$ ύ [Z c,Z d]) (SY$ ύ [Z a,Z b]) (SY$ ύ [(PP q a b c d 0).D,(PP q a b c d 1).D]) g h i j k l m n o
theorem TZ a:∃ C e q f g b d,Bg a C e q f g b d/\∀ r:Ev->M Fl,(Sb u1$ Sb u2$ Sb u3$ Sb u4$ Sb u5$ Sb u6$ Sb u7 r) (vE a ń ń ń ń ń ń ń ń ń ń ń ń ń ń ń) []=r (e7 a C e q f g b d ń ń ń ń ń ń ń ń ń) []:=by
 have c:=λ(k:Nat) (h:Ga)=>dH a k ⋯ h;have m:∀ h,lc [.Vi a,Z 0] h=U (Z$ ro a 0) h:=c 0;have z:=cQ;obtain⟨C,n⟩:∃ C,C=ro a 0:=⟨_,rfl⟩
 rw[<-n]at m;obtain⟨f,v⟩:∃ u,u=50+ro a 1 % 999999999950:=⟨_,rfl⟩
 obtain⟨g,w⟩:∃ u,u=50+ro a 2 % 999999999950:=⟨_,rfl⟩
 obtain⟨q,y⟩:∃ u,u=C / 6 % 2:=⟨_,rfl⟩
 obtain⟨b,o⟩:∃ u,u=7+C / 12 % 6:=⟨_,rfl⟩
 obtain⟨d,p⟩:∃ u,u=7+C / 72 % 6:=⟨_,rfl⟩
 have t:q=0\/q=1:=by lia
 refine⟨C,1+C % 6,q,f,g,b,d,⟨t,by omega,by omega,by omega,by omega,by omega⟩,λr=>?_⟩;have s1:u1 (vE a ń ń ń ń ń ń ń ń ń ń ń ń ń ń ń) []=U (Ϙ$ vE a (SY$ Z C) ń ń ń ń ń ń ń ń ń ń ń ń ń ń) []:=by simp[m]
 have s2:u2 (vE a (SY$ Z C) ń ń ń ń ń ń ń ń ń ń ń ń ń ń) []=U (Ϙ$ vE a (SY$ Z C) (SY$ Z$ 1+C % 6) ń ń ń ń ń ń ń ń ń ń ń ń ń) []:=by simp
 have B:u3 (vE a (SY$ Z C) (SY$ Z$ 1+C % 6) ń ń ń ń ń ń ń ń ń ń ń ń ń) []=U (Ϙ$ vE a (SY$ Z C) (SY$ Z$ 1+C % 6) (SY$ ύ [Z q,Z$ 1 - q]) ń ń ń ń ń ń ń ń ń ń ń ń) []:=by simp[<-y]
 have E:u4 (vE a (SY$ Z C) (SY$ Z$ 1+C % 6) (SY$ ύ [Z q,Z$ 1 - q]) ń ń ń ń ń ń ń ń ń ń ń ń) []=U (Ϙ$ vE a (SY$ Z C) (SY$ Z$ 1+C % 6) (SY$ ύ [Z q,Z$ 1 - q]) (SY$ ύ [Z b,Z d]) ń ń ń ń ń ń ń ń ń ń ń) []:=by simp[<-o,<-p]
 have F:u5 (vE a (SY$ Z C) (SY$ Z$ 1+C % 6) (SY$ ύ [Z q,Z$ 1 - q]) (SY$ ύ [Z b,Z d]) ń ń ń ń ń ń ń ń ń ń ń) []=U (Ϙ$ vE a (SY$ Z C) (SY$ Z$ 1+C % 6) (SY$ ύ [Z q,Z$ 1 - q]) (SY$ ύ [Z b,Z d]) (SY$ ύ [Z f,Z g]) ń ń ń ń ń ń ń ń ń ń) []:=by
  have A:io (eC$ Z 2) (vE a (SY$ Z C) (SY$ Z$ 1+C % 6) (SY$ ύ [Z q,Z$ 1 - q]) (SY$ ύ [Z b,Z d]) ń ń ń ń ń ń ń ń ń ń ń) []=U (.seq$ (List.range 2).map λ(i:Nat)=>Z i) []:=by
   have:ot (Z 2) []=U (.seq$ (List.range 2).map λ(i:Nat)=>Z i) []:=by rw[kF ⋯ ⋯];rfl
   simp[this]
  have l:=bA (ix:=[0]) (xs:=List.range 2) (fe:=(Sa lh (eC$ Z 50)$ Sa jj (Bf 2 lc []$ Fa (ka 2)$ Fa (Sa lh (eC$ Z 1)$ ka 0) ib)$ Sa kl (Sa Ft (eC$ Z 10)$ eC$ Z 12)$ eC$ Z 50)) (λ(i:Nat)=>Z i) (λi=>Z$ 50+ro a (1+i) % 999999999950) A (λi G=>vd SY$ dB (List.range 2) _ i) ⋯ (λi G j=>by
   have s:=λh=>dH a (1+(i:Int)) ⋯ h;rw[show (1+(i:Int)).toNat=1+i by omega]at s;simp[s,z]) (λG G=>rfl)
  have x:(List.range 2).map (λi=>Z$ 50+ro a (1+i) % 999999999950)=[Z f,Z g]:=by rw[v,w];rfl
  rw[x]at l;simp only[vE]at l ⊢;simp[l,-bp]
 rw[Zf,s1,zd,ug,Zf,s2,zd,ug,Zf,B,zd,ug,Zf,E,zd,ug,Zf,F,zd,ug];rcases t with rfl|rfl
 ·simp[PP,Pt.D,yT];rfl
 ·simp[PP,Pt.D,yT];rfl
theorem T6 a b c d:rC a b c d=(b c d).bind (xG a):=nr rfl
theorem mZ a b c:xG a b c=U (b++a) c:=nr rfl
def zZ{b}{C e q c d f h}(g:Bg b C e q c d f h):∃ i j a,u8 (e7 b C e q c d f h ń ń ń ń ń ń ń ń ń) []=U (Ϙ$ e7 b C e q c d f h (SY$ Y 0) ń ń ń ń ń ń ń ń) a/\Th 0 ⟨e,(Bw$ ro b 3).foldl Qh [],jr i j q$ PP q c d f h,[]⟩ a:=by
 obtain⟨k,_⟩:=TN g.hq g.h0 g.h1 g.pL g.NO;have m:(Bw$ ro b 3).length<60:=by
  have:=LQ$ ro b 3;lia
 obtain⟨i,j,a,n,l⟩:=ψ g.he k m;refine⟨i,j,a,?_,l⟩;simp[(λr=>vZ b r []),n,T6,mZ,-bp]
theorem pW(p:Pt) r a:(No$ Fa (yf$ Fa (eC$ Z 0)$ Fa (iy (ka 0) (SY$ eC$ Z 2)$ SY$ eC$ Z 4)$ Fa (yf ib) ib) ib) (SY p.D::r) a=U (Y a.length) (a++[ώ [(cS p.u p.v).D]]):=by
 simp[-HS];rfl
theorem ĩ{ns}{C e q c0 c1 w0 w1} a:u9 (e7 ns C e q c0 c1 w0 w1 (SY$ Y 0) ń ń ń ń ń ń ń ń) a=U (Ϙ$ e7 ns C e q c0 c1 w0 w1 (SY$ Y 0) (SY$ Y a.length) ń ń ń ń ń ń ń) (a++[ώ [Y$ a.length+1,Y$ a.length+2],ώ [(cS (PP q c0 c1 w0 w1 0).u (PP q c0 c1 w0 w1 0).v).D],ώ [(cS (PP q c0 c1 w0 w1 1).u (PP q c0 c1 w0 w1 1).v).D]]):=by
 unfold e7;generalize PP q c0 c1 w0 w1 0=b,PP q c0 c1 w0 w1 1=c;have f:Pg (Y a.length) [Y$ a.length+1] (a++[ώ [],ώ [(cS b.u b.v).D]])=U Ϛ (a++[ώ [Y$ a.length+1],ώ [(cS b.u b.v).D]]):=by
  rw[QM (xs:=[]) ⋯ ⋯];simp
 have g:Pg (Y a.length) [Y$ a.length+2] (a++[ώ [Y$ a.length+1],ώ [(cS b.u b.v).D],ώ [(cS c.u c.v).D]])=U Ϛ (a++[ώ [Y$ a.length+1,Y$ a.length+2],ώ [(cS b.u b.v).D],ώ [(cS c.u c.v).D]]):=by
  rw[QM (xs:=[Y$ a.length+1]) ⋯ ⋯];simp
 have h:Lg (Qg.seq [b.D,c.D]).nx a.length (jc 0) Ej (No$ Fa (yf$ Fa (eC$ Z 0)$ Fa (iy (ka 0) (SY$ eC$ Z 2)$ SY$ eC$ Z 4)$ Fa (yf ib) ib) ib) 1001 0 [ń,ń] (a++[ώ []])=U () (a++[ώ [Y$ a.length+1,Y$ a.length+2],ώ [(cS b.u b.v).D],ώ [(cS c.u c.v).D]]):=by
  rw[YI (i:=0) (d:=b.D) rfl (pW b _ _) (by simpa using f),YI (i:=1) (d:=c.D) rfl (pW c _ _) (by simpa using g)];exact OR rfl
 unfold u9;rw[DQ,(cT (src:=kg$ ka 6) (ix:=[]) (ρ:=vE ns (SY$ Z C) (SY$ Z e) (SY$ ύ [Z q,Z$ 1 - q]) (SY$ ύ [Z w0,Z w1]) (SY$ ύ [Z c0,Z c1]) (SY$ ύ [b.D,c.D]) (SY$ Y 0) ń ń ń ń ń ń ń ń) (σ:=a) (s:=.seq [b.D,c.D]) ⋯ h)];rfl
def TT(P:Nat->Pt)(p:Int):Int:=(P p.toNat).u+(P p.toNat).v
def FF(P:Nat->Pt)(p:Int):Sn:=cS (P p.toNat).u (P p.toNat).v
abbrev aR(P:Nat->Pt)(n:Nat):Ga:=[ώ [Y$ n+1,Y$ n+2],ώ [(cS (P 0).u (P 0).v).D],ώ [(cS (P 1).u (P 1).v).D]]
def O9{q e}{P}{K}{i k}{b}(d:BO q P)(h:Th 0 ⟨e,K,jr i k q P,[]⟩ b):LF (TT P) (FF P) q 0 b.length (λj=>b.length+1+j) ⟨e,K,jr i k q P,[]⟩ 0 (jr i k q P) (λj=>[cS (P j).u (P j).v])$ b++aR P b.length:=by
 have m:=d.hq;have c:∀ j,j<2->SO _ (sd q j) _:=λj f=>e6 _ (d.ok j f).1.u (d.ok j f).1.v;refine⟨h.app _,λx l=>?_,rfl,⟨by simp,λj f=>?_⟩,λj n=>by simp⟩
 ·simp[jr,Ba,oe,dm]at l;rcases l with rfl|rfl
  ·exact⟨⟨.Lb ⋯ m (c 0$ by lia) (by show (0:Int)<=_;lia) ⋯ (λz g=>by cases g) ⋯,ϑ rfl,λs a=>by simp[Lb]at a;subst a;simp[cS]⟩,rfl⟩
  ·exact⟨⟨.Lb ⋯ ⋯ (c 1$ by lia) (by show (0:Int)<=_;lia) ⋯ (λz g=>by cases g) ⋯,ϑ rfl,λs a=>by simp[Lb]at a;subst a;simp[cS]⟩,rfl⟩
 ·rcases(show j=0\/j=1 by lia)with rfl|rfl
  ·exact⟨by simp,by simp,by simp,λs a=>by simp at a;subst a;exact(c 0$ by lia).ok⟩
  ·exact⟨by rw[Nat.add_assoc,Gb ⋯,Nat.add_sub_cancel_left];rfl,by simp,by simp,λs a=>by simp at a;subst a;exact(c 1$ by lia).ok⟩
def mM{k}{a}(h:Th 0 k a):6<a.length:=by
 have:=(aa.mp h.h6).1;omega
theorem Y4 c r:∃ f:em,f.length<=18/\∀ d,iy (ka 0) (SY$ eC$ Z 12) (SY$ eC$ Z 30) (SY (.Vi c)::r) d=U (ύ$ f.map Z) d:=by
 refine⟨(c.drop$ min 12 c.length).take$ min 30 c.length - min 12 c.length,?_,λd=>?_⟩
 ·simp
  lia
 ·have e:Gv (c.map Z) (SY 12) (SY 30)=((c.drop$ min 12 c.length).take$ min 30 c.length - min 12 c.length).map Z:=by
   unfold Gv;have a:HT.Hf c.length 0 (SY 12)=min 12 c.length:=rfl;have b:HT.Hf c.length c.length (SY 30)=min 30 c.length:=rfl
   simp_all
  rw[<-e];rfl
def Th.ext{b}{k}{f g}(h:Th b k f)(e:Tc f g):Th b k g:=
 ⟨⟨e _ _ h.v.h0,e _ _ h.v.h1,e _ _ h.v.h3,e _ _ h.v.h4⟩,e _ _ h.h2,e _ _ h.h5,λx c=>⟨e _ _ (h.a x c).1,(h.a x c).2⟩,h.d,h.n,h.z,h.o,e _ _ h.h6⟩
def K2{q a b c d}(e:0<=a/\a<=1000000000000)(f:0<=b/\b<=1000000000000) p:TT (PP q a b c d) p<=2000000000000:=by
 unfold TT PP;split<;>split<;>simp<;>lia
noncomputable abbrev IG(f:em)(C e q b d h i:Int)(g:Nat)(j a:Option D)(c:Nat)(l m n o:Option D):Ev:=e7 f C e q b d h i (SY$ Y 0) (SY$ Y g) j a (SY$ Y c) l m n o
def m9{p}{C e q d f i k}(g:Bg p C e q d f i k):∃ P rr s n c u A B K,(∀ r:Ev->M Fl,(Sb u8$ Sb u9$ Sb rF$ Sb gO$ Sb lO r) (e7 p C e q d f i k ń ń ń ń ń ń ń ń ń) []=r (IG p C e q d f i k P s n c ń ń ń ń) K)/\LF (TT$ PP q d f i k) (FF$ PP q d f i k) q 0 P rr ⟨e,(Bw$ ro p 3).foldl Qh [],u,[]⟩ 8 u A K/\Fh c (PP q d f i k) B K/\BI (TT$ PP q d f i k) q 18 B/\6<c/\∀ x∈u,x.1<c:=by
 obtain⟨N,F⟩:=TN g.hq g.h0 g.h1 g.pL g.NO;obtain⟨n0,n1,m,s8,O⟩:=zZ g;have a0:=mM O;have ϊ:=O9 N O;obtain⟨s,n,u,A,b,G,t⟩:=ĝ ϊ (K2 g.h0 g.h1) ⋯ p _ (Z e) (ύ [Z i,Z k]) (ύ [Z d,Z f]) (ύ [(PP q d f i k 0).D,(PP q d f i k 1).D]) [ń,ń,ń,ń,ń];have v:6<b.length:=mM t.h;obtain⟨J,mb,S⟩:=zY (M0:=b) (c:=b.length) rfl F;have ό:Tc b$ b++J:=λr o h=>bj h;obtain⟨cs,E,y⟩:=Y4 p (e7 p C e q d f i k (SY$ Y 0) (SY$ Y m.length) s n (SY$ Y b.length) ń ń ń ń).tail;obtain⟨B,z,lb,T,L,ϋ⟩:=ľ S rfl ό ⟨by simp,λj _=>by simp,λj _=>ϑ rfl⟩ t.g g.hq (λj V=>⟨(N.ok j V).1,by simp[TT]⟩) E;refine⟨m.length,_,s,n,b.length,u,A,B,z,λr=>?_,⟨t.h.ext L,t.a,t.ps,t.g.ext L,t.l⟩,T,ϋ,v,λx X=>(aa.mp (t.h.a x X).1).1⟩;have H:gO (e7 p C e q d f i k (SY$ Y 0) (SY$ Y m.length) s n ń ń ń ń ń) b=U (Ϙ$ e7 p C e q d f i k (SY$ Y 0) (SY$ Y m.length) s n (SY$ Y b.length) ń ń ń ń) (b++J):=by
  unfold e7 vE;generalize (PP q d f i k 0).D=Q,(PP q d f i k 1).D=R at *;simp[mb]
 have I:lO (e7 p C e q d f i k (SY$ Y 0) (SY$ Y m.length) s n (SY$ Y b.length) ń ń ń ń) (b++J)=U (Ϙ$ e7 p C e q d f i k (SY$ Y 0) (SY$ Y m.length) s n (SY$ Y b.length) ń ń ń ń) z:=by
  have y:=y$ b++J;unfold e7 vE at y ⊢;generalize (PP q d f i k 0).D=Q,(PP q d f i k 1).D=R at *;simp only[List.tail_cons]at y;generalize cs.map Z=W at *;simp[y,lb,-HS]
 rw[Zf,s8,zd,ug,Zf,(ĩ (ns:=p) (C:=C) (e:=e) (q:=q) (c0:=d) (c1:=f) (w0:=i) (w1:=k) m),zd,ug,Zf];have w:rF (e7 p C e q d f i k _ (SY$ Y m.length) ń ń ń ń ń ń ń) (m++aR (PP q d f i k) m.length)=U (Ϙ$ e7 p C e q d f i k (SY$ Y 0) (SY$ Y m.length) s n ń ń ń ń ń) b:=G;rw[w,zd,ug,Zf,H,zd,ug,Zf,I,zd,ug]
def Fh.kN{c}{P}{B}{a b}(v:Fh c P B a)(e:6<c)(f:∀ r o,r≠0+6->a[r]?=SY o->b[r]?=SY o):Fh c P B b:=⟨f _ _ ⋯ v.h0,f _ _ ⋯ v.h1,f _ _ ⋯ v.h2,λi d=>f _ _ ⋯$ v.h3 i d⟩
def AI.il{T}{N}{a}(h:AI T N a):IL a.L:=by
 cases h with
 |Lb d e f g i c b=>exact c
 |xg d e f g i c b j=>exact b
 |wait d e f g i c b j=>exact b
structure S2(T:Int->Int)(q:Int)(P:Nat->Pt)(c:Nat)(B:Bs)(l:Lk)(L:Nat->em)(w0 w1:Bool)(n:Nat)(τ:Ga):Prop where
 kv:KV 0 c P B l q L τ
 pre:Pre T q P l L
 hn:∀ j,j<2->l.n j<c
 c6:6<c
 F:l.F=aO w0 w1
 g:τ[n]?=SY (ώ ((Cr w0 w1).map λ(i:Nat)=>Z i))
 K:l.K.length<=8/\l.K.Nodup
 hc:∀ j,j<2->Cg T (l.a j) j (B.C j)
 hC:∀ j,j<2->B.C j=.held\/∃ s x y,B.C j=.laid s x y
 hS:∀ j,j<2->(B.S j).length<=18
def yjr{w}{C e q d k o r}(g:Bg w C e q d k o r){F}{ϋ}{K z}{c}{I}{A}{B}{G}(E:LF (TT$ PP q d k o r) (FF$ PP q d k o r) q 0 F ϋ ⟨e,(Bw$ ro w 3).foldl Qh [],I,[]⟩ 8 I A G)(v:Fh c (PP q d k o r) B G)(N:BI (TT$ PP q d k o r) q 18 B)(c6:6<c)(R:∀ x∈I,x.1<c):∃ l L n H,aN (IG w C e q d k o r F K z c ń ń ń ń) G=U (Ϙ$ IG w C e q d k o r F K z c (SY$ Y n) ń ń ń) H/\S2 (TT$ PP q d k o r) q (PP q d k o r) c B l L (Xo C 0) (Xo C 1) n H/\l.e=e:=by
 obtain⟨Q,_⟩:=TN g.hq g.h0 g.h1 g.pL g.NO;have X:=mM E.h;obtain⟨H,P,ws⟩:=Y5 E.h ⋯ E.ps rfl C (ρ:=IG w C e q d k o r F K z c ń ń ń ń) rfl rfl;obtain⟨l,S,W,_,ό,T,V⟩:=Q3 ws.h E.ps;have u:∀ j:Nat,j<2->AG _ _ 4 _/\(l.a j).q=sd q j/\(l.a j).p=j/\l.n j<c:=λj b=>by
  obtain⟨m,p,_,_⟩:=V j b;obtain⟨a,e⟩:=E.a _ m;have t:(l.a j).p.toNat=j:=by lia
  have e:(l.a j).q=sd q (l.a j).p.toNat:=e;exact⟨a.up (by dsimp only;lia),by rw[e,t],p,R _ m⟩
 have J:∀ j,j<2->(l.a j).q=sd q j:=λj b=>(u j b).2.1;have M:∀ j,j<2->(l.a j).L=((l.a j).L.map jF).map Z:=λj b=>(u j b).1.i.il.eq;have O:=N.c;refine⟨l,λj=>(l.a j).L.map jF,G.length,H,by unfold aN;rw[DQ,P];rfl,⟨⟨S,v.kN c6 ws.f,M,J⟩,⟨g.hq,λj b=>⟨4,(u j b).1.i⟩,λj b=>(u j b).1.l,M,λj b=>(u j b).2.2.1,J,λj b=>⟨(Q.ok j b).1,by simp[TT]⟩,λj b=>?_⟩,λj b=>(u j b).2.2.2,c6,T,ws.g,?_,λj b=>?_,λj b=>?_,N.s⟩,W⟩
 ·obtain⟨a,_,p,_⟩:=u j b;have h:=a.g;rw[p]at h;refine h.imp (λe=>?_) id;rw[e];rfl
 ·rw[ό];have:=jI (Bw$ ro w 3) [];have:=LQ$ ro w 3;exact⟨by simp[ri]at *;omega,iR ⋯⟩
 ·rcases O j b with e|⟨x,y,e,ϊ,_⟩
  ·exact ϑ e
  ·exact ϕ$ ϑ ⟨x,y,by rw[J j b];exact e,ϊ⟩
 ·rcases O j b with e|⟨x,y,e,_⟩
  ·exact ϑ e
  ·exact ϕ ⟨_,x,y,e⟩
def ZQ{a}{m}{ds}(h:a[m]?=SY (ώ ds))(b:pl 8 (ύ ds)=U2):Og a 8 (Y m) (ύ ds)=SY U2:=by
 have k:Lake.kd a (Y m)=Lake.kd a (ύ ds):=by
  have l:Ce a m=SY ds:=by unfold Ce;rw[h]
  simp[Lake.kd,l]
 show Rj _ _ _=_;rw[k];exact(HD 8 _ b)
def ğ{q}{l}{B}{ds}(h:∀ d∈ds,Bh q l B d):pl 8 (ύ ds)=U2:=by
 simp[pla,plb,plc,pld,ple];intro d a;rcases h d a with⟨j,_,rfl,_⟩|⟨j,w,_,rfl,_⟩|⟨j,_,rfl,_⟩<;>simp[pla,plb,plc,pld,ple,ci,vx]
noncomputable abbrev tE(s0 s1:Option D)(e q k l:Int)(g h i j a:Option D)(c n:Nat)(b d f:Option D):Ev:=[s0,s1,SY$ Z e,SY$ ύ [Z q,Z$ 1 - q],SY$ ύ [Z k,Z l],g,h,SY$ Y 0,i,j,a,SY$ Y c,SY$ Y n,b,d,f]
section
variable{T:Int->Int}{q:Int}{P:Nat->Pt}{c:Nat}{B:Bs}{l:Lk}{L:Nat->em}{w0 w1:Bool}{n:Nat}{τ:Ga}(s:S2 T q P c B l L w0 w1 n τ)
include s
theorem ķ N{j}(b:j<2):Cg T (l.a j) j$ (b3 l P L B N).C j:=by
 rw[Fy l P L B N b];split
 ·exact ϕ$ ϕ$ ϕ rfl
 ·split
  ·exact ϕ$ ϕ$ ϑ ⟨_,rfl⟩
  ·exact s.hc j b
theorem RK{j}(b:j<2):(((Bd l P L B).C j).tt$ l.a j).length<=8:=z8 s.pre b$ DW s.pre b (s.hc j b) rfl
theorem Q6{e v0 v1}(he:l.e=e)(ϊ:(P 0).w=v0)(a0:(P 1).w=v1) s0 s1 i o r t b:∃ b8,(Sb PN$ Sb jK$ Sb ON$ Sb MK$ Sb FJ$ Sb gN$ Sb QK ZV) (tE s0 s1 e q v0 v1 i o r t b c n ń ń ń) τ=U (.rt$ ϓ U2) b8:=by
 subst he ϊ a0;have X:=s.kv.k;have v:=s.kv.v;have S0:=s.hS 0 ⋯;have S1:=s.hS 1 ⋯;have c6:=s.c6;have K8:=s.K.1;have hM:(bf (bf []$ B.S 0)$ B.S 1).length<=36:=by
  have h1:=uz []$ B.S 0;have h2:=uz (bf []$ B.S 0)$ B.S 1;simp only[ri]at h1;omega
 obtain⟨N,V,m,f,lk,kd⟩:=tX s.pre X v ⋯ s.hn s.hc (λj x=>by have:=s.hS j x;omega) ⋯;rw[iS]at kd;have bh:=nY l P L B N s.kv.q;have dp:=ğ bh;have t0:=RK s (j:=0) ⋯;have t1:=RK s (j:=1) ⋯;have n0:=xC (Rc l B N) (((Bd l P L B).C 0).tt$ l.a 0)$ B.S 0;have n1:=xC (Rc l B N) (((Bd l P L B).C 1).tt$ l.a 1)$ B.S 1;have hW:∀ w,w∈Wd l.K (bf (bf []$ B.S 0)$ B.S 1) ↔ w∈(Rc l B N).K:=λw=>qX _ _ w;have b7:ks (Rc l B N).K=Wd l.K (bf (bf []$ B.S 0)$ B.S 1):=ō s.K.2 _;have fl:(Rc l B N).K.length<=60:=by
  have h1:=jI (nk$ bf (bf []$ B.S 0)$ B.S 1) l.K;have h2:(nk$ bf (bf []$ B.S 0)$ B.S 1).length<=36:=by unfold nk;rw[(Uq _).length_eq,Ha];exact hM
  show (List.foldl Qh l.K _).length<=60;omega
 have wk:=mP X ⋯;have mw:=lq X "words" 1 jt;have al:=BP v ⋯;have ma:=Wl v "all_shown" 1 Vx;have ad:=λu=>Û (K:=l.K) (M:=bf (bf []$ B.S 0)$ B.S 1) ⋯ u;have so:=AZ (K:=l.K) (M:=bf (bf []$ B.S 0)$ B.S 1) ⋯ τ;have O:=kd.kb.k;have T:=mP O fl;rw[show (({ Rc l B N with C:=V }:Lk)).K=(Rc l B N).K from rfl,b7]at T;have a6:=lq O "words" 1 jt;have a8:∀ u,ah (ύ$ (Wd l.K$ bf (bf []$ B.S 0)$ B.S 1).map Z) (ύ$ (Wd l.K$ bf (bf []$ B.S 0)$ B.S 1).map Z) u=U (ϓ ŝ) u:=λu=>sv (by simp[pla,plb,plc,pld,ple]);have st:=q7 s.kv;have sh:og [Y c,Y 0,ύ [Z q,Z$ 1 - q],Z l.e,ύ$ ye l P L B 0++ye l P L B 1,ύ$ (Wd l.K$ bf (bf []$ B.S 0)$ B.S 1).map Z] τ=_:=š s.kv (l1:=Rc l B N) rfl hW s.hC (λj x=>by
  obtain⟨a,_,d⟩:=oM s.pre x (s.hc j x);exact⟨a,λz hz=>(d z hz).1⟩)
 have l1:(ye l P L B 0++ye l P L B 1).length<=2:=by unfold ye;split<;>split<;>simp
 have l2:((df (Rc l B N) (((Bd l P L B).C 0).tt$ l.a 0)$ B.S 0).1.map (ci 0)++(df (Rc l B N) (((Bd l P L B).C 1).tt$ l.a 1)$ B.S 1).1.map (ci 1)).length<=16:=by
  rw[db,Ha,Ha];omega
 have l3:(Ng l B 0++Ng l B 1).length<=2:=by unfold Ng;split<;>split<;>simp
 have dl:(Due l P L B N).length<=20:=by unfold Due;rw[db,db];omega
 have hD:Due l P L B N=ye l P L B 0++ye l P L B 1++((df (Rc l B N) (((Bd l P L B).C 0).tt$ l.a 0)$ B.S 0).1.map (ci 0)++(df (Rc l B N) (((Bd l P L B).C 1).tt$ l.a 1)$ B.S 1).1.map (ci 1))++(Ng l B 0++Ng l B 1):=rfl;have R:∀ ό:Option D,_:=λό=>zuv v w0 w1 s.g (ρ:=tE s0 s1 l.e q (P 0).w (P 1).w i o r t b c n (SY$ ύ$ (Wd l.K$ bf (bf []$ B.S 0)$ B.S 1).map Z) ό ń) rfl rfl;rw[ι l B w0 w1 s.F]at R;generalize nk (bf (bf []$ B.S 0)$ B.S 1)=M1 at *;generalize (Wd l.K$ bf (bf []$ B.S 0)$ B.S 1).map Z=W at *;generalize ye l P L B 0++ye l P L B 1=E,(df (Rc l B N) (((Bd l P L B).C 0).tt$ l.a 0)$ B.S 0).1.map (ci 0)++(df (Rc l B N) (((Bd l P L B).C 1).tt$ l.a 1)$ B.S 1).1.map (ci 1)=R2,Ng l B 0++Ng l B 1=R3 at *;have a2:∀ u,lh (ύ E) (ύ R2) u=U (ύ$ E++R2) u:=λu=>Jz (by unfold Uf;omega);have a3:∀ u,lh (ύ$ E++R2) (ύ R3) u=U (ύ$ Due l P L B N) u:=λu=>by rw[hD];exact Jz (by rw[db];unfold Uf;omega)
 have a9:PN (tE s0 s1 l.e q (P 0).w (P 1).w i o r t b c n ń ń ń) τ=U (Ϙ$ tE s0 s1 l.e q (P 0).w (P 1).w i o r t b c n (SY$ ύ W) ń ń) τ:=by
  simp only[tE];generalize ύ [Z q,Z$ 1 - q]=G,ύ [Z (P 0).w,Z (P 1).w]=H at *;simp[wk,mw,al,ma,ad,so,-List.map_append]
 have b0:jK (tE s0 s1 l.e q (P 0).w (P 1).w i o r t b c n (SY$ ύ W) ń ń) τ=U (Ϙ$ tE s0 s1 l.e q (P 0).w (P 1).w i o r t b c n (SY$ ύ W) (SY$ ύ E) ń) τ:=by
  simp only[tE];generalize ύ [Z q,Z$ 1 - q]=G,ύ [Z (P 0).w,Z (P 1).w]=H at *;simp[st]
 have b1:ON (tE s0 s1 l.e q (P 0).w (P 1).w i o r t b c n (SY$ ύ W) (SY$ ύ E) ń) τ=U (Ϙ$ tE s0 s1 l.e q (P 0).w (P 1).w i o r t b c n (SY$ ύ W) (SY$ ύ$ E++R2) ń) τ:=by
  simp only[tE];generalize ύ [Z q,Z$ 1 - q]=G,ύ [Z (P 0).w,Z (P 1).w]=H at *;simp[sh,a2]
 have b2:MK (tE s0 s1 l.e q (P 0).w (P 1).w i o r t b c n (SY$ ύ W) (SY$ ύ$ E++R2) ń) τ=U (Ϙ$ tE s0 s1 l.e q (P 0).w (P 1).w i o r t b c n (SY$ ύ W) (SY$ ύ$ Due l P L B N) ń) τ:=by
  have R:=R$ SY$ ύ$ E++R2;simp only[tE]at R ⊢;generalize ύ [Z q,Z$ 1 - q]=G,ύ [Z (P 0).w,Z (P 1).w]=H at *;simp[R,a3,-bp]
 have ml:=lq X "look" 2 Hw;have b4:FJ (tE s0 s1 l.e q (P 0).w (P 1).w i o r t b c n (SY$ ύ W) (SY$ ύ$ Due l P L B N) ń) τ=U (Ϙ$ tE s0 s1 l.e q (P 0).w (P 1).w i o r t b c n (SY$ ύ W) (SY$ ύ$ Due l P L B N)$ SY$ Y m) f:=by
  simp only[tE];generalize ύ [Z q,Z$ 1 - q]=G,ύ [Z (P 0).w,Z (P 1).w]=H at *;simp[ml,lk]
 have a1:Ut .list (Y m) f=U (ϓ U2) f:=by
  unfold Ut BE;simp[kd.g]
 have a7:ah (Y m) (ύ$ Due l P L B N) f=U (ϓ ŝ) f:=wu$ ZQ kd.g dp;have b5:gN (tE s0 s1 l.e q (P 0).w (P 1).w i o r t b c n (SY$ ύ W) (SY$ ύ$ Due l P L B N)$ SY$ Y m) f=U (Ϙ$ tE s0 s1 l.e q (P 0).w (P 1).w i o r t b c n (SY$ ύ W) (SY$ ύ$ Due l P L B N)$ SY$ Y m) f:=by
  simp only[tE];generalize ύ [Z q,Z$ 1 - q]=G,ύ [Z (P 0).w,Z (P 1).w]=H at *;simp[a1,a7,a6,T,a8]
 obtain⟨ap,I⟩:=kd.add ⋯ (ϒ [ϐ "lay",Z 7]);have am:=λfs=>zz kd.g fs;have A:KV 0 c P (b3 l P L B N) { Rc l B N with C:=V } q L$ f.set m$ ώ$ Due l P L B N++[ϒ [ϐ "lay",Z 7]]:=⟨I.kb.k,I.kb.v,s.kv.L,s.kv.q⟩
 have lb:=ε A I.y bh ⋯;have h:=s.pre;have S3:∀ j,j<2->((b3 l P L B N).S j).length<=30:=λj x=>by
  have:=s.hS j x;have:=RK s x;have:=HN (Rc l B N) (((Bd l P L B).C j).tt$ l.a j)$ B.S j;rw[HG l P L B N x];omega
 apply b_;intro z_;obtain⟨N2,C2,m2,J,a4,Q⟩:=tX (l:={ Rc l B N with C:=V }) (B:=b3 l P L B N) ⟨h.hq,h.a,h.ln,h.LL,h.p,h.q,h.PP,h.g⟩ A.k A.v ⋯ s.hn (λj x=>ķ s N x) S3 (by show (Rc l B N).K.length<=300;omega);rw[iS,T0 l P L B N V N2 (λj x=>gH h x)]at Q;have ϋ:Hh (Y m2) (ύ []) J=U (ϓ U2) J:=uB$ ZQ Q.g rfl;have a5:=lq A.k "look" 2 Hw;apply z_;generalize f.set m (ώ$ Due l P L B N++[ϒ [ϐ "lay",Z 7]])=b9 at *;have b6:QK (tE s0 s1 l.e q (P 0).w (P 1).w i o r t b c n (SY$ ύ W) (SY$ ύ$ Due l P L B N)$ SY$ Y m) f=U (Ϙ$ tE s0 s1 l.e q (P 0).w (P 1).w i o r t b c n (SY$ ύ W) (SY$ ύ$ Due l P L B N)$ SY$ Y m) b9:=by
  simp only[tE];generalize ύ [Z q,Z$ 1 - q]=G,ύ [Z (P 0).w,Z (P 1).w]=H at *;simp[am,ap]
 refine⟨J,?_⟩;rw[Zf,a9,zd,ug,Zf,b0,zd,ug,Zf,b1,zd,ug,Zf,b2,zd,ug,Zf,b4,zd,ug,Zf,b5,zd,ug,Zf,b6,zd,ug];simp only[tE];generalize ύ [Z q,Z$ 1 - q]=G,ύ [Z (P 0).w,Z (P 1).w]=H at *;simp[lb,a5,a4,ϋ]
end
theorem GU q c d a b:(PP q c d a b 0).w=a/\(PP q c d a b 1).w=b:=by
 unfold PP;constructor<;>(simp;split<;>rfl)
def cu b(u:b.length<=63):∃ k,Bn [.Vi b] []=U (ϓ U2) k:=by
 apply b_;intro z_;obtain⟨C,e,q,f,h,i,j,g,o⟩:=TZ b;obtain⟨D,E,y,d,c,z,A,B,k,p,x,v,m,c6,t⟩:=m9 g;obtain⟨l,L,n,F,r,s2,w⟩:=yjr g x v m c6 t;obtain⟨a,s⟩:=Q6 s2 w (GU q f h i j).1 (GU q f h i j).2 _ _ _ _ _ y d;apply z_;refine⟨a,?_⟩;have Df:NM (vE b ń ń ń ń ń ń ń ń ń ń ń ń ń ń ń) []=U (.rt$ ϓ U2) a:=by
  unfold NM;rw[o,p,Zf,r,zd,ug];exact s
 unfold Bn
 simp_all
end Internal
end
open PySem PySem.W PyProof.Rows
set_option maxRecDepth 100000 in
set_option maxHeartbeats 0 in
theorem PySem.Challenge.cw_sidebook_k45_a_look_holds : PySem.Challenge.rw_sidebook_k45_a_look.Holds := by
 w_on;refine hd ?_
 k_fill
 refine Lake.n8 (l:=PySem.Challenge.rw_sidebook_k45_a_look) (k:=15) (x:="_law_script") (fn:=Internal.Bn) ["least_fate","paper"] rfl rfl ⟨rfl,by decide,by decide⟩ (λw h ϋ=>km2_in ϋ) ?hK ?hrec ?F Internal.cu;case hK=>intro w;kernel_rfl
 case hrec=>as_aux_lemma=>kernel_rfl
 case F=>
  intro w mg h KX G TT;refine⟨λn=>([0,114,126,0,0,360,388,414,440,472,806,827,862,909,949,1100,343,350,357,378,385,404,411,430,437,469,644,651,658,665,672,0,686,693,700,707,0,721,728,735,0,749,756,763,770,777,782,789,796,803,824,845,0,0,878,885,892,0,906,925,932,0,0,998,1005,1012,1019,1026,1033,1041,1048,1055,1062,0,0,0,1090,1097]:List Addr).getD n 0,(Internal.tx$ L2.QQ KX).eo,Internal.k6 _,Internal.Z3 ?_⟩;constructor;all_goals (try (repeat' (first|exact Internal.Al.n|with_reducible refine' Internal.Al.c ?_ ?_)))
  all_goals (try dsimp only[L2.QQ,List.getD]);all_goals (try dsimp only[List.getElem?_cons_succ,List.getElem?_cons_zero,Option.getD]);all_goals (first
   |(refine' Internal.F9 ?p ?q$ Lake.rK KX G (λ_ _ _ _ _ _ us hl=>?z) ?a ?l ?c ?k;(case p=>conv=>lhs;whnf);(case q=>dsimp only[Internal.fX,L2.Vl,List.map]);(case a|l=>as_aux_lemma=>k_is);(case z=>exact Internal.QF.ap _ us hl (by(repeat intro _);exact rfl));(case c|k=>as_aux_lemma=>k_is))
   |(refine' Internal.K5 ?p ?q$ Lake.mT (λ_ _ _ _ _ _ us hl=>?z) ?l ?c ?k;(case p=>conv=>lhs;whnf);(case q=>dsimp only[Internal.fX,L2.Vl,List.map]);(case l=>as_aux_lemma=>k_is);(case z=>exact Internal.QF.ap _ us hl (by(repeat intro _);exact rfl));(case c|k=>as_aux_lemma=>k_is))
   |(refine' Lake.rK KX G (λ_ _ _ _ _ _ us hl=>?z) ?a ?l ?c ?k;(case z=>exact Internal.QF.ap _ us hl (by(repeat intro _);exact rfl));(case a|l|c|k=>as_aux_lemma=>k_is))
   |(refine' Lake.mT (λ_ _ _ _ _ _ us hl=>?z) ?l ?c ?k;(case z=>exact Internal.QF.ap _ us hl (by(repeat intro _);exact rfl));(case l|c|k=>as_aux_lemma=>k_is))
   |(refine' Lake.x3 KX G Internal.S6 ?a ?l ?c ?k ?d;(case a|l|c|k|d=>as_aux_lemma=>k_is))
   |(refine' Lake.IV Internal.M4 ?l ?c ?d;(case l|c|d=>as_aux_lemma=>k_is))
   |(refine' Lake.IV Internal.ř ?l ?c ?d;(case l|c|d=>as_aux_lemma=>k_is))
   |(refine' Lake.δ KX G ?a ?b;(case a=>as_aux_lemma=>k_is);(case b=>as_aux_lemma=>kernel_rfl))
   |(refine' Lake.U5 KX G ?a;(case a=>as_aux_lemma=>k_is))
   |(refine' mg_of KX G ?a;(case a=>as_aux_lemma=>k_is))
   |(refine' mg_none_of KX G ?a;(case a=>as_aux_lemma=>k_is))
   |(refine' ⟨⟨?a,?b,?c,?d⟩,?e,?f,?g,?h⟩;(case a|b|c|d|e|f|g|h=>as_aux_lemma=>k_is))
   |(refine' ⟨?a,?b,?c,?d⟩;(case a|b|c|d=>as_aux_lemma=>k_is))
   |(refine' ⟨?a,?b,?c⟩;(case a|b|c=>as_aux_lemma=>k_is))
   |(refine' ⟨?a,?b⟩;(case a|b=>as_aux_lemma=>k_is))
   |exact λt h t' h' _=>(Oa.mp h').trans (Oa.mp h).symm
   |(refine' Lake.mkC KX G (Lake.rK KX G (λ_ _ _ _ _ _ us hl=>?z) ?a ?l ?c ?k) TT ?d;(case z=>exact Internal.QF.ap _ us hl (by(repeat intro _);exact rfl));(case a|l|c|k=>as_aux_lemma=>k_is);(case d=>decide))
   |(refine' (mg_of KX G ?a).trans (mg_of KX G ?b).symm;(case a|b=>as_aux_lemma=>k_is))
   |exact TT
   |exact mg_of KX G TT.bm
   |(refine' Lake.uY ?a;(case a=>as_aux_lemma=>kernel_rfl))
   |decide
   |as_aux_lemma=>k_is
   |k_exc
   |rfl)
