import PyProof.Rows.All
import Wide.All
import OpenK.AllK
import Wide.FinOn
import Lean
import PyProof.EqAt
import PyProof.EqKinds
import PyProof.TupleCall
import PyProof.StrLawsIdx
import PyProof.StrBlockH
import PyProof.EnumStmt
import PyProof.ListNew
import PyProof.AutoListH
import PyProof.TupleIter
import KE.KDictOf
import PyProof.ZipIter
import PyProof.Rows.ZipGen
import PyProof.ListIndex
import PyProof.AttrMissHeap
import PyProof.NeKinds
import KE.KLam
import KE.KNestM
import KE.KDictLaws
import PyProof.SeqI3
import PyProof.DictWalks
import KE.KIntText
import PyProof.StrLawsIn
import PySem.Challenge.RW_menutree_k02_houses_read_back
set_option Elab.async false
set_option linter.all false
set_option maxRecDepth 100000
set_option maxHeartbeats 16000000
open Array renaming forIn_toList->Sm,getElem?_eq_getElem->Ms,getElem?_eq_none->Pf,getElem?_toList->Oa,length_toList->M5,toArray_toList->SL,toList_push->QW
open Bool renaming and_eq_true->M6,and_false->O5,and_self->Rl,and_true->Rj,eq_iff_iff->Nc,false_and->O4,false_eq_true->Mp,false_ne_true->LX,false_or->Ri,not_eq_true->Pb,not_eq_true'->Qb,not_true->QJ,or_false->OJ,true_and->Nt
open Eq renaming refl->Lr
open False renaming elim->LP
open ForInStep renaming yield->NU
open Function renaming comp->TV,comp_def->Ox
open Int renaming emod_lt_of_pos->TU,toNat_natCast->Qf,zero_add->SK
open LawfulBEq renaming eq_of_beq->RO
open List renaming all_cons->OI,all_eq_true->MY,all_map->S5,any_cons->Nh,any_eq_true->Pa,any_map->Ou,append_assoc->Nd,append_nil->Mh,cons_append->PZ,dropLast_concat->Q6,dropWhile_append_of_pos->Qw,drop_eq_getElem_cons->RN,drop_length->PY,eq_nil_of_length_eq_zero->Mc,ext_getElem?->TR,filterMap_cons->QD,find?_append->TQ,find?_cons->Nb,find?_eq_none->Sx,flatMap_append->Sk,flatMap_cons->Qa,foldl_cons->Qv,forIn_cons->Pw,getD_eq_getElem?_getD->MN,getElem?_append_left->MI,getElem?_append_right->MX,getElem?_cons_succ->Lu,getElem?_cons_zero->MH,getElem?_eq_getElem->LU,getElem?_eq_none->MQ,getElem?_eq_some_iff->Lw,getElem?_map->LR,getElem?_range->OB,getElem?_replicate->MW,getElem?_set->QZ,getElem?_set_ne->SY,getElem?_set_self->S0,getElem?_take_of_lt->Rh,getElem?_toArray->SJ,getElem?_zipWith->Ob,getElem_mem->MV,getElem_of_mem->Sj,getLast?_concat->NH,head?->QM,le_antisymm->Ql,length->NS,length_append->M1,length_cons->LS,length_drop->O9,length_eraseIdx->SX,length_map->LI,length_nil->Pu,length_replicate->Py,length_singleton->SI,length_take->MS,length_zipWith->QC,lookup_cons->Mj,map_append->MD,map_congr_left->Ni,map_cons->LQ,map_id->Qq,map_map->M4,map_nil->Ot,map_zipWith->PR,mem_append->MA,mem_append_left->Oj,mem_append_right->MP,mem_cons->LJ,mem_cons_of_mem->Lq,mem_cons_self->Lp,mem_filterMap->Sw,mem_iff_getElem?->Nu,mem_map->M8,mem_map_of_mem->NO,mem_of_getElem?->O3,mem_range->P0,mem_singleton->NA,nil_append->Ol,nodup_append->NK,nodup_cons->M7,not_lt->PD,not_mem_nil->Ln,of_mem_zip->Pr,pairwise_cons->Mo,pairwise_iff_getElem->RK,range->M9,range'->SW,range'_succ->Oc,range_succ_eq_map->Pl,replicate->Mg,size_toArray->M0,sum_cons->Rg,tail->Qk,takeWhile_append_dropWhile->Qe,take_add_one->PC,take_of_length_le->OU,take_sublist->TN,zipWith_cons_cons->Pk
open List.Pairwise renaming map->RB,nil->Px
open List.cons renaming injEq->QV
open Min renaming min->Si
open Nat renaming add_assoc->OM,add_lt_add_left->Sv,add_sub_cancel_left->Pe,add_zero->SH,le_add_right->Ml,le_of_eq->Qd,le_of_lt->Ow,le_refl->LZ,le_succ->OR,le_trans->MR,lt_add_of_pos_right->OQ,lt_irrefl->Mk,lt_of_le_of_lt->P8,lt_of_lt_of_le->LK,lt_of_succ_lt_succ->SG,lt_succ_of_lt->N0,lt_succ_self->Nk,ne_of_gt->ML,ne_of_lt->Lo,not_lt->Oi,not_lt_zero->Nr,succ_ne_self->Qp,zero_add->Pq,zero_le->Mr
open Ne renaming symm->NG
open Option renaming bind_eq_some_iff->LW,bind_some->PL,getD_none->Su,isSome_iff_exists->RA,map_eq_some_iff->LV
open Option.some renaming inj->MK,injEq->OG
open Or renaming inl->Qu,inr->Qt
open PyProof.Rows renaming AllBare->QA,IntsAre->TM,StrsAre->Rz,callWith_builtin1->Q5,callWith_type1->NF,envOfC->Oh,slot_tuple_getitem->OH,subscriptTail->Sh,subscriptTail_builtinR->TL
open PyProof.Rows.F renaming entry_set_update_loop->PJ,plain_set_update_loop->Np
open PySem renaming Around->M3,BindsTo->Ry,CmpOp->SE,Draws->Rf,Env->Qo,IsPair->OF,IsPart->RH,IsTupleKey->Qm,IsZip->QT,Keyword->TK,NameKind->OS,Paired->SD,Pos->Nf,Program->LY,Result->TF,SetTable->NT,Shared->LG,Tok->Sf,Value->LD,World->Ly,argsOk->T8,assign->QS,assignEach->NI,atKey->SA,attributeBase->O0,backTo->Nj,backToKw->PM,behindInMarks->Oq,binaryOp->Nz,bindC->Ss,bindL->Sr,bootBuiltins->N4,builtinsNs->Q8,call->Sb,call_meets->On,callerA->R1,codeAny->P9,codeAny_builtin->Ny,codeAny_call_builtin->QR,codeAny_mono->Oe,codeAny_of_tree->Ro,compareOp->MG,concat_meets->T7,eqIsQuiet->RF,eval->Mu,field->Sq,firstArgMember->Od,foldedSetIterable->O8,getItem->QX,holding->T6,intText?->Qz,isSubtype_stop->S9,isSubtype_type->QQ,keywordEach->OE,lastMarks->So,letOwnedTupleGo->QB,limitOf->Ru,mainGlobals->Lv,mem_of_lookup->Mt,model->Lz,newFunctionEnv->S8,newList->T5,noFill_tuple_add->RE,pickOrder->PH,plainId_quiet->Pp,pyIter->T4,pyNext->Om,rawInt->OD,relabel->T3,relayAll->Q0,seqItems?->Sn,seq_tuple_add->Sa,setEntries->S7,setNext->Sz,setsByText->S6,sizeLine_eq->MJ,sliceBounds->Ov,starEach->Ls,strIterType->OC,subscripted->RU,swapsWith->OY,sysModules->Mb,typeIs_str->OW,valueAt->NJ,wpAny->LO,wpAny_Call_Name_kw->Nv,wpAny_Call_method_late->Sy,wpAny_askSetting->OK,wpAny_attempt->Oo,wpAny_bind->LA,wpAny_callSpecial?_slot->Ma,wpAny_call_entry->MF,wpAny_comprehension_free->Po,wpAny_dictEntries->Pi,wpAny_execs_nil->Rn,wpAny_field->Mz,wpAny_fieldsOf->QP,wpAny_forIn_list->RD,wpAny_handled->SZ,wpAny_holding->N3,wpAny_isInstance->Na,wpAny_letGo->RT,wpAny_mono->Mx,wpAny_newObj_type->MO,wpAny_of_eq->QO,wpAny_onRaise->Pn,wpAny_passesOwn->P4,wpAny_pure->LF,wpAny_pyIter_enum->O7,wpAny_pyIter_list->NP,wpAny_pyIter_slot->Pg,wpAny_pyIter_zip->RC,wpAny_richCompare_same_room->Rt,wpAny_rule->OV,wpAny_seqItems->Mv,wpAny_setEntries_of->OO,wpAny_setEpoch_of->Qx,wpAny_setField_rec->Mi,wpAny_setState_of->O6,wpAny_specialOf->OT,wpAny_standAt->Qg,wpAny_truthy_bool->Me,wpAny_typeOf->Q7,wpAny_updateSeq->P3,wpAny_updateSeq_pair->QN
open PySem.Around renaming under_plain->SU,under_plainId->Nx
open PySem.AutoSeq1 renaming wpAny_loadPart'->Oz
open PySem.Builtin.Dict renaming dictSlotArgs->Nq,samePairs->Qj
open PySem.Builtin.Frozenset renaming sizeOf->Q9
open PySem.Builtin.List renaming listExtendWith->ND,listItems->Qi,listLengthHint->QI,listSameRef->QY,listTouch->Qh
open PySem.Builtin.Slice renaming sliceAdjust->Og,sliceApplied->QH,slicePlaces->Nn
open PySem.Builtin.SmallTypes renaming nextOf->MM,ownedTupleHandOut->Oy,ownedTupleIsFree->N9
open PySem.Builtin.Str renaming occurrences->Lx,partsBetween->N1,strKind->Mq
open PySem.Builtin.Tuple renaming tupleExact->Nw,tupleHashOf->Mw,tupleItemsOf->QG
open PySem.Calls renaming Name_function_global->R4,callWith_builtin->Pd,evalArgs_plain->SF,spliced_cons->QF,spliced_nil->QU
open PySem.Data renaming cell->PQ,fields->Q4
open PySem.Draws renaming list->Sg
open PySem.F renaming args_str_split_2->P7,args_str_split_3->P6,args_tuple_add_2->P5,args_tuple_iterator_next_1->RJ,called_set->N5,entry_str_split->NC,entry_tuple_add->PB,entry_tuple_iterator_next->Re,entry_type_call->SS,plainAttrs_dict->R9,plainAttrs_list->R8,plainAttrs_str->RI,plain_extend_loop->Qs,plain_list_iadd->R7,plain_set_new->Rc,slot_dict_clear->R6,slot_dict_eq->Rr,slot_dict_get->Rb,slot_dict_getitem->Qr,slot_dict_ne->Rq,slot_list_append->Pc,slot_set_iter->Ra,slot_str_partition->Qn,slot_str_split->My,slot_tuple_add->PN,slot_tuple_hash->PP,slot_tuple_iterator_next->OA,slot_zip_next->Q3,sub_dict_dict->RZ,type_list_append->R3
open PySem.Heap renaming ExtBut->SR,SameBut->NB,get?_push_of_some->LH,get?_push_size->LN,get?_update_other->NQ,get?_update_self->N6,lt_size->LM,size_push->MC
open PySem.Heap.SameBut renaming update->OX
open PySem.IsTupleKey renaming inj->SQ
open PySem.NameKind renaming cell->Q1,free->Mf
open PySem.Obj renaming data_mapFields->TJ,mapSeq->Mm,putSet->TH
open PySem.Paired renaming length->MZ
open PySem.PassesOwn renaming never->SO
open PySem.SeqAt renaming EqAt->OL
open PySem.SeqAt.EqAt renaming int_str->RY,of_refs->RW,same->QL,str_int->RV
open PySem.SeqAt.RcAt renaming tuples->Rp
open PySem.SetTable renaming below->ON,fits->TC,grown->Ng,orStandIn->Rx
open PySem.SetTable.below renaming go->Pj
open PySem.Shared renaming heap->Rv
open PySem.Str renaming join->NY,length->Nm,ofString->LB
open PySem.StrLaws renaming occBody->Of,partsBetween_eq->R5,partsFrom->SN
open PySem.Value renaming bool->Se,int->T9,none->Md,ref->Mn,str->Os,type->N8
open PySem.W renaming Frag->LC,OpenLaw->Qc,cellsFrom_some->RG,codeIn->OP,fnOf->N7,keepIn->NR,kia_one->NZ,kitx_dict->SM,methodObj->QE,mg_none_of->MB,mg_of->OZ,nsIn->ME
open PySem.Walks renaming list->Sd
open PySem.WalksT renaming enumerateD->QK
open PySem.pickOrder renaming go->Qy
open Sum renaming inl->Pm,inr->MU
open Sum.inr renaming inj->Rm
open ToString renaming toString->Pz
open True renaming intro->Nl
section
namespace L2
open PySem PySem.Spec PyProof.Rows
abbrev Key:=Sum Int Str
def q0:Key->LD->Bool
 | .inl k,v=>Value.isInt k v
 | .inr x,v=>Value.isStrOf x v
def KB(w:Ly):Key->Int
 | .inl k=>hashInt k
 | .inr x=>hashStr w x
theorem aN:∀{k:Key}{v:LD},q0 k v=true->(∃i t,k=Pm i/\v=T9 i t)\/(∃x t,k=MU x/\v=Os x t)
 | .inl i,v,h=>by
  obtain⟨t,e⟩:=Value.isInt_shape (k:=i) (v:=v) h;exact .inl ⟨i,t,rfl,e⟩
 | .inr x,v,h=>by
  obtain⟨t,e⟩:=Value.isStrOf_shape (x:=x) (v:=v) h;exact .inr ⟨x,t,rfl,e⟩
theorem xq(i:Int)(t:Sf):q0 (.inl i) (.int i t)=true:=by simp[q0,Value.isInt]
theorem xp(x:Str)(t:Sf):q0 (.inr x) (.str x t)=true:=by simp[q0,Value.isStrOf]
theorem FF(a b:Int):decide ((Pm a:Key)=Pm b)=(a == b):=by
 by_cases e:a=b
 ·subst e;simp
 ·have h:¬ (Pm a:Key)=Pm b:=fun q=>e (Sum.inl.inj q)
  rw[decide_eq_false h];exact(beq_eq_false_iff_ne.mpr e).symm
theorem FC(a b:Str):decide ((MU a:Key)=MU b)=decide (a=b):=by
 by_cases e:a=b
 ·subst e;simp
 ·have h:¬ (MU a:Key)=MU b:=fun q=>e (Rm q)
  rw[decide_eq_false h,decide_eq_false e]
theorem FE(a:Int)(b:Str):decide ((Pm a:Key)=MU b)=false:=decide_eq_false (fun q=>nomatch q)
theorem FD(a:Str)(b:Int):decide ((MU a:Key)=Pm b)=false:=decide_eq_false (fun q=>nomatch q)
def aj(prog:LY)(w:Ly):PySem.KeyKind prog w Key where
 is:=q0
 hash:=KB w
 inj:=fun v a b ha hb=>by
  rcases aN ha with⟨i,t,rfl,rfl⟩|⟨x,t,rfl,rfl⟩
  ·rcases aN hb with⟨j,u,rfl,e⟩|⟨y,u,rfl,e⟩
   ·injection e with e1 _;rw[e1]
   ·exact nomatch e
  ·rcases aN hb with⟨j,u,rfl,e⟩|⟨y,u,rfl,e⟩
   ·exact nomatch e
   ·injection e with e1 _;rw[e1]
 byValue:=fun k v h=>by
  rcases aN h with⟨i,t,rfl,rfl⟩|⟨x,t,rfl,rfl⟩ <;> rfl
 pyHash:=fun hv h=>by
  rcases aN hv with⟨i,t,rfl,rfl⟩|⟨x,t,rfl,rfl⟩
  ·exact wpAny_pyHash_int h
  ·exact wpAny_pyHash_str h
 eqBool:=fun hu hv h=>by
  rcases aN hu with⟨i,t,rfl,rfl⟩|⟨x,t,rfl,rfl⟩
  ·rcases aN hv with⟨j,u,rfl,rfl⟩|⟨y,u,rfl,rfl⟩
   ·rw[FF] at h;exact wpAny_eqBool_int h
   ·rw[FE] at h;exact RY i t y u _ _ _ _ h
  ·rcases aN hv with⟨j,u,rfl,rfl⟩|⟨y,u,rfl,rfl⟩
   ·rw[FD] at h;exact RV x t j u _ _ _ _ h
   ·rw[FC] at h;exact wpAny_eqBool_str h
 «strs»:=fun k x t v h=>by
  rcases aN h with⟨i,u,rfl,e⟩|⟨y,u,rfl,e⟩
  ·exact nomatch e
  ·injection e with e1 _
   subst e1;cases v <;> rfl
theorem rb(prog:LY)(w:Ly)(i:Int)(t:Sf):(aj prog w).is (.inl i) (.int i t)=true:=xq i t
theorem eT(prog:LY)(w:Ly)(x:Str)(t:Sf):(aj prog w).is (.inr x) (.str x t)=true:=xp x t
abbrev jF:=List (Key ⊕ List Key)
section
variable{prog : LY}{w : Ly}{K : Type}[DecidableEq K](knd : KeyKind prog w K)
inductive NItems (h:Heap):List (K ⊕ List K)->List LD->Prop
 | nil:NItems h [] []
 | sc {k:K} {v:LD} {ks:List (K ⊕ List K)} {vs:List LD}:knd.is k v=true->NItems h ks vs->NItems h (.inl k::ks) (v::vs)
 | tp {k:List K} {b:Addr} {ks:List (K ⊕ List K)} {vs:List LD}:Qm knd h k b->NItems h ks vs->NItems h (.inr k::ks) (.ref b::vs)
def br (h:Heap) (ks:List (K ⊕ List K)) (a:Addr):Prop:=∃o items n,h.get? a=some o/\o.cls=.type "tuple"/\o.data=.seq items n/\NItems knd h ks items.toList
variable{knd}
theorem sE{h:Heap}{k:K}{b:Addr}(h1:knd.is k (.ref b)=true):False:=by
 have:=knd.byValue _ _ h1;simp[carriedByValue] at this
theorem NItems.inj{h:Heap}{x y:List (K ⊕ List K)}{vs:List LD}(hx:NItems knd h x vs)(hy:NItems knd h y vs):x=y:=by
 induction hx generalizing y with
 | nil=>cases hy;rfl
 | sc h1 _ ih=>
  cases hy with
  | sc h2 t2=>rw[knd.inj _ _ _ h1 h2,ih t2]
  | tp h2 t2=>exact(sE (h:=h) h1).elim
 | tp h1 _ ih=>
  cases hy with
  | sc h2 t2=>exact(sE (h:=h) h2).elim
  | tp h2 t2=>rw[SQ h1 h2,ih t2]
theorem br.typeIs {s:LG} {ks:List (K ⊕ List K)} {a:Addr} (x:br knd s.heap ks a):s.TypeIs (.ref a) "tuple":=let ⟨o,_,_,ho,hc,_⟩:=x;⟨o,ho,hc⟩
theorem br.inj{h:Heap}{a:Addr}{x y:List (K ⊕ List K)}(hx:br knd h x a)(hy:br knd h y a):x=y:=by
 obtain⟨o,items,n,ho,_,hd,hi⟩:=hx;obtain⟨o',items',n',ho',_,hd',hi'⟩:=hy;obtain rfl:o=o':=MK (ho.symm.trans ho');rw[hd] at hd';injection hd' with h1 _;subst h1;exact hi.inj hi'
theorem NItems.keeps{h h':Heap}{ks:List (K ⊕ List K)}{vs:List LD}{d:Addr}{o:Obj}{es ep}(x:NItems knd h ks vs)(ho:h.get? d=some o)(hd:o.data=.dict es ep)(hs:NB d h h'):NItems knd h' ks vs:=by
 induction x with
 | nil=>exact .nil
 | sc h1 _ ih=>exact .sc h1 ih
 | tp h1 _ ih=>exact .tp (h1.keeps ho hd hs) ih
theorem br.keeps{h h':Heap}{ks:List (K ⊕ List K)}{a d:Addr}{o:Obj}{es ep}(x:br knd h ks a)(ho:h.get? d=some o)(hd:o.data=.dict es ep)(hs:NB d h h'):br knd h' ks a:=by
 obtain⟨o',items,n,ho',hc,hd',hi⟩:=x
 have hne:a≠d:=by
  rintro rfl;obtain rfl:o'=o:=MK (ho'.symm.trans ho);rw[hd] at hd';exact nomatch hd'
 exact⟨o',items,n,(hs.2 a hne).trans ho',hc,hd',hi.keeps ho hd hs⟩
def mj(knd:KeyKind prog w K):K ⊕ List K->Int
 | .inl k=>knd.hash k
 | .inr ks=>tupleKeyHash knd ks
def ra:K ⊕ List K->Nat
 | .inl _=>1
 | .inr ks=>ks.length+1
def o6(knd:KeyKind prog w K)(ks:List (K ⊕ List K)):Int:=reduceHash (Mw (ks.map (mj knd)))
variable{A : M3}{E : LD → LG → Prop}{s : LG}
theorem qQ{ks:List (K ⊕ List K)}{a:Addr}{Q:Int->LG->Prop}(hu:A.units+8<cLine)(hk:br knd s.heap ks a)(h:Q (o6 knd ks) { s with toks:=s.toks+((ks.map ra).sum+1) }) :
  LO (Lz prog w) A (pyHash (.ref a)) Q E s:=by
 have hT:=hk.typeIs;obtain⟨o,items,n,ho,_,hd,hi⟩:=hk;unfold pyHash
 first | unfold pyHashByItsType | skip
 first | refine LA (wpAny_cRoomFor_or (.inr (show A.units<cLine by omega)) ?_) | skip
 refine LA (OT hT PP.lookup ?_);show LO _ _ (if (some (Value.builtin "tuple.__hash__") == some Md)=true then _ else _) Q E s;rw[if_neg (by rw[beq_builtin_none];exact LX)];refine LA (OT hT PP.lookup ?_);show LO _ _ (callSpecialIfBoundUnlessNone? (.ref a) "__hash__" _ >>= _) Q E s;refine LA (wpAny_callSpecialIfBoundUnlessNone?_slot hT PP (MF PP hT F.entry_tuple_hash ?_ (F.args_tuple_hash_1 _)));show LO _ _ (QG (.ref a) >>= _) _ _ s;refine LA (wpAny_tupleItemsOf ho hd ?_);refine LA ?_;rw[← Sm]
 refine RD _
  (fun rest (b:Array Int) s'=>∃done left,ks=done++left/\NItems knd s.heap left rest/\b.toList=done.map (mj knd)/\s'={ s with toks:=s.toks+(done.map ra).sum })
  _ ?_ ?_ _ _ ⟨[],ks,rfl,hi,rfl,rfl⟩
 ·rintro x rest b s' ⟨done,left,rfl,hl,hb,rfl⟩
  cases hl with
  | @sc k _ ks' _ h1 hl'=>
   refine LA (knd.pyHash h1 ?_)
   first
    | exact LF ⟨done++[.inl k],ks',by simp,hl',by simp[hb,mj],by simp[OM,ra]⟩
    | exact LA (LF (LF ⟨done++[.inl k],ks',by simp,hl',by simp[hb,mj],by simp[OM,ra]⟩))
  | @tp k b' ks' _ h1 hl'=>
   refine LA (wpAny_pyHash_tuple (knd:=knd) (ks:=k) (show A.units+1<cLine by omega) h1 ?_)
   first
    | exact LF ⟨done++[.inr k],ks',by simp,hl',by simp[hb,mj],by simp[OM,ra]⟩
    | exact LA (LF (LF ⟨done++[.inr k],ks',by simp,hl',by simp[hb,mj],by simp[OM,ra]⟩))
 ·rintro b s' ⟨done,left,rfl,hl,hb,rfl⟩
  cases hl;rw[Mh] at h;show LO _ _ (retInt (Mw b.toList)) _ _ _;rw[hb];refine wpAny_ret_mkInt ?_;show LO _ _ (if (decide (-(2:Int) ^ 63<=Mw (done.map (mj knd))) && decide (Mw (done.map (mj knd))<2 ^ 63))=true then _ else _) Q E _;unfold o6 reduceHash at h
  by_cases hr:(decide (-(2:Int) ^ 63<=Mw (done.map (mj knd))) && decide (Mw (done.map (mj knd))<2 ^ 63))=true
  ·rw[if_pos hr]
   rw[if_pos hr] at h;exact LF (by simpa [OM] using h)
  ·rw[if_neg hr]
   rw[if_neg hr] at h;exact LA (OV (LF (by simpa [OM] using h)))
end
theorem rF{α:Type}[DecidableEq α]:∀k j:List α,((M9 (Si k.length j.length)).all (fun i=>decide (k[i]?=j[i]?)) && k.length == j.length)=decide (k=j)
 | [],[]=>by simp
 | [],_::_=>by simp
 | _::_,[]=>by simp
 | x::k,y::j=>by
  have ih:=rF k j;have hm:Si (x::k).length (y::j).length=Si k.length j.length+1:=by simp only[LS];omega
  rw[hm,Pl,OI,S5];have hs:((fun i=>decide ((x::k)[i]?=(y::j)[i]?)) ∘ Nat.succ)=fun i=>decide (k[i]?=j[i]?):=by funext i;simp
  rw[hs,LS,LS];have h0:decide ((x::k)[0]?=(y::j)[0]?)=decide (x=y):=by simp
  rw[h0];have e2:(k.length+1 == j.length+1)=(k.length == j.length):=by simp
  rw[e2,Bool.and_assoc,ih,Nc];simp
theorem Bc{P P':LY}{w w':Ly}{A:M3}{s:LG}{k j:Key}{v u:LD}(h1:(aj P w).is k v=true)(h2:(aj P' w').is j u=true):OL A s v u (decide (k=j)):=fun prog ww E Q q=>(aj prog ww).eqBool (a:=k) (b:=j) h1 h2 q
theorem mZ{P:LY}{w:Ly}{A:M3}{s:LG}:∀{k j:List Key}{vs us:List LD},ItemsAre (aj P w) k vs->ItemsAre (aj P w) j us->∀(i:Nat)(h1:i<vs.length)(h2:i<us.length),OL A s vs[i] us[i] (decide (k[i]?=j[i]?))
 | _,_,_,_,.nil,_,i,h1,_=>absurd h1 (Nr _)
 | _,_,_,_,.cons _ _,.nil,i,_,h2=>absurd h2 (Nr _)
 | _,_,_,_,.cons (k:=k) a1 t1,.cons (k:=j) a2 t2,0,_,_=>by
  rw[MH,MH,show decide (some k=some j)=decide (k=j) by simp];exact Bc a1 a2
 | _,_,_,_,.cons a1 t1,.cons a2 t2,i+1,h1,h2=>by
  rw[Lu,Lu];exact mZ t1 t2 i (by simpa using h1) (by simpa using h2)
theorem D7{P:LY}{w:Ly}{A:M3}{s:LG}{k j:List Key}{a b:Addr}(hu:A.units+1<cLine)(h1:Qm (aj P w) s.heap k a)(h2:Qm (aj P w) s.heap j b):OL A s (.ref a) (.ref b) (decide (k=j)):=by
 by_cases e:a=b
 ·subst e
  rw[SQ h1 h2,decide_eq_true rfl];exact QL _
 ·obtain⟨o1,i1,n1,g1,c1,d1,m1⟩:=h1
  obtain⟨o2,i2,n2,g2,c2,d2,m2⟩:=h2;have l1:=m1.length;have l2:=m2.length;have z:=rF k j;rw[l1,l2,M5,M5] at z;rw[← z];refine RW (fun q=>e q) (Rp ⟨o1,g1,c1,n1,d1⟩ ⟨o2,g2,c2,n2,d2⟩ (by omega) fun i h1 h2=>?_);have:=mZ (A:=A.in1) (s:=s) m1 m2 i (by simpa using h1) (by simpa using h2);simpa using this
theorem B7{P:LY}{w:Ly}{A:M3}{s:LG}{k:Key}{j:List Key}{v:LD}{b:Addr}(hu:A.units<cLine)(h1:(aj P w).is k v=true)(h2:Qm (aj P w) s.heap j b):OL A s v (.ref b) false/\OL A s (.ref b) v false:=by
 obtain⟨o2,i2,n2,g2,c2,d2,m2⟩:=h2;have pl:s.heap.IsTuple b i2:=⟨o2,g2,c2,n2,d2⟩;rcases aN h1 with⟨i,t,rfl,rfl⟩|⟨x,t,rfl,rfl⟩
 ·exact⟨SeqAt.EqAt.int_tuple i t pl hu,SeqAt.EqAt.tuple_int i t pl hu⟩
 ·exact⟨SeqAt.EqAt.str_tuple x t pl hu,SeqAt.EqAt.tuple_str x t pl hu⟩
theorem uz{P:LY}{w:Ly}{A:M3}{s:LG}(hu:A.units+1<cLine):∀{k j:List (Key ⊕ List Key)}{vs us:List LD},NItems (aj P w) s.heap k vs->NItems (aj P w) s.heap j us->∀(i:Nat)(h1:i<vs.length)(h2:i<us.length),OL A s vs[i] us[i] (decide (k[i]?=j[i]?)):=by
 intro k j vs us h1
 induction h1 generalizing j us with
 | nil=>intro _ i h;exact absurd h (Nr _)
 | @sc k v ks vs a1 t1 ih=>
  intro h2 i l1 l2;cases h2 with
  | nil=>exact absurd l2 (Nr _)
  | @sc j u js us a2 t2=>
   cases i with
   | zero=>
    rw[MH,MH,show decide (some (Pm k:Key ⊕ List Key)=some (.inl j))=decide (k=j) by simp];exact Bc a1 a2
   | succ i=>rw[Lu,Lu];exact ih t2 i (by simpa using l1) (by simpa using l2)
  | @tp j b js us a2 t2=>
   cases i with
   | zero=>
    rw[MH,MH,show decide (some (Pm k:Key ⊕ List Key)=some (.inr j))=false by simp];exact(B7 (by omega) a1 a2).1
   | succ i=>rw[Lu,Lu];exact ih t2 i (by simpa using l1) (by simpa using l2)
 | @tp k b ks vs a1 t1 ih=>
  intro h2 i l1 l2;cases h2 with
  | nil=>exact absurd l2 (Nr _)
  | @sc j u js us a2 t2=>
   cases i with
   | zero=>
    rw[MH,MH,show decide (some (MU k:Key ⊕ List Key)=some (.inl j))=false by simp];exact(B7 (by omega) a2 a1).2
   | succ i=>rw[Lu,Lu];exact ih t2 i (by simpa using l1) (by simpa using l2)
  | @tp j c js us a2 t2=>
   cases i with
   | zero=>
    rw[MH,MH,show decide (some (MU k:Key ⊕ List Key)=some (.inr j))=decide (k=j) by simp];exact D7 hu a1 a2
   | succ i=>rw[Lu,Lu];exact ih t2 i (by simpa using l1) (by simpa using l2)
theorem NItems.length{P:LY}{w:Ly}{h:Heap}{k:List (Key ⊕ List Key)}{vs:List LD}(x:NItems (aj P w) h k vs):k.length=vs.length:=by
 induction x with
 | nil=>rfl
 | sc _ _ ih=>simp[ih]
 | tp _ _ ih=>simp[ih]
theorem Ct{P:LY}{w:Ly}{A:M3}{s:LG}{k j:List (Key ⊕ List Key)}{a b:Addr}(hu:A.units+8<cLine)(h1:br (aj P w) s.heap k a)(h2:br (aj P w) s.heap j b):OL A s (.ref a) (.ref b) (decide (k=j)):=by
 by_cases e:a=b
 ·subst e
  rw[br.inj h1 h2,decide_eq_true rfl];exact QL _
 ·obtain⟨o1,i1,n1,g1,c1,d1,m1⟩:=h1
  obtain⟨o2,i2,n2,g2,c2,d2,m2⟩:=h2;have l1:=m1.length;have l2:=m2.length;have z:=rF k j;rw[l1,l2,M5,M5] at z;rw[← z];refine RW (fun q=>e q) (Rp ⟨o1,g1,c1,n1,d1⟩ ⟨o2,g2,c2,n2,d2⟩ (by omega) fun i h1 h2=>?_);have:=uz (A:=A.in1) (s:=s) (show A.units+1+1<cLine by omega) m1 m2 i (by simpa using h1) (by simpa using h2);simpa using this
section
variable{prog : LY}{w : Ly}{A : M3}{E : LD → LG → Prop}{s : LG}
theorem pD{n:Nat}{a:Addr}{items:Array LD}{Q:Bool->LG->Prop}(ht:s.heap.IsTuple a items)(hq:∀v∈items.toList,∀(Q':Bool->LG->Prop),Q' true s->LO (Lz prog w) A (RF n v) Q' E s)(h:Q true s):LO (Lz prog w) A (RF (n+1) (.ref a)) Q E s:=by
 have hT:=ht.typeIs;obtain⟨o,ho,hc,m,hd⟩:=ht;unfold RF;refine LA (OT hT F.slot_tuple_eq.lookup ?_);show LO _ _ (isInstance (.ref a) (.type "tuple") >>= _) _ _ s;refine LA (Na hT isSubtype_tuple_tuple ?_);simp only[QJ,Mp,if_false];refine LA (Mv ho hd ?_);refine LA ?_;show LO _ _ (forIn items _ _) _ _ s;rw[← Sm];refine RD _ (fun rest r s'=>r.1=none/\s'=s/\∀v∈rest,v∈items.toList) _ ?_ ?_ _ _ ⟨rfl,rfl,fun v h=>h⟩
 ·rintro v rest r s' ⟨hr,rfl,hall⟩
  refine LA (hq v (hall v Lp) _ ?_);simp only[QJ,Mp,if_false];exact LF ⟨rfl,rfl,fun u hu'=>hall u (Lq _ hu')⟩
 ·rintro⟨r1,r2⟩ s' ⟨hr,rfl,_⟩
  simp only at hr;subst hr;exact LF h
theorem NItems.quiet{n:Nat}{k:List (Key ⊕ List Key)}{vs:List LD}(x:NItems (aj prog w) s.heap k vs):∀v∈vs,∀(Q':Bool->LG->Prop),Q' true s->LO (Lz prog w) A (RF (n+1) v) Q' E s:=by
 induction x with
 | nil=>intro v h;cases h
 | sc h1 _ ih=>
  intro v hv Q' hQ;rcases LJ.mp hv with rfl | hv
  ·rw[eqIsQuiet_byValue _ ((aj prog w).byValue _ _ h1)]
   exact LF hQ
  ·exact ih v hv Q' hQ
 | tp h1 _ ih=>
  intro v hv Q' hQ;rcases LJ.mp hv with rfl | hv
  ·obtain⟨o,items,m,ho,hc,hd,hi⟩:=h1
   refine pD ⟨o,ho,hc,m,hd⟩ (fun u hu Q2 h2=>?_) hQ;rw[eqIsQuiet_byValue _ (hi.byValue u hu)];exact LF h2
  ·exact ih v hv Q' hQ
theorem uq{k:List (Key ⊕ List Key)}{a:Addr}{Q:Bool->LG->Prop}(hk:br (aj prog w) s.heap k a)(h:Q true s):LO (Lz prog w) A (RF 8 (.ref a)) Q E s:=by
 obtain⟨o,items,m,ho,hc,hd,hi⟩:=hk;exact pD ⟨o,ho,hc,m,hd⟩ hi.quiet h
end
def jg(prog:LY)(w:Ly):HeapKind prog w (List (Key ⊕ List Key)) where
 is:=br (aj prog w)
 hash:=o6 (aj prog w)
 draws:=fun ks=>(ks.map ra).sum+1
 room:=fun A=>A.units+8<cLine
 inj:=fun hx hy=>hx.inj hy
 keeps:=fun x ho hd hs=>x.keeps ho hd hs
 pyHash:=fun hu hk h=>qQ hu hk h
 eqBool:=fun hu hx hy h=>Ct hu hx hy _ _ _ _ h
 quiet:=fun hk h=>uq hk h
end L2
namespace L2
open PySem PySem.Spec PyProof.Rows
inductive V where
 | non | bl (b:Bool) | int (i:Int) | str (x:Str) | byt (b:Array UInt8) | flt (b:UInt64) | ref (a:Addr) | ty (n:String)
 deriving DecidableEq
def RelV:V->LD->Prop
 | .non,u=>u=Md
 | .bl b,u=>u=Se b
 | .int i,u=>∃t,u=T9 i t
 | .str x,u=>∃t,u=Os x t
 | .byt b,u=>∃t,u=Value.bytes b t
 | .flt b,u=>∃t,u=Value.float b t
 | .ref a,u=>u=Mn a
 | .ty n,u=>u=N8 n
abbrev Vals:List V->List LD->Prop:=SD RelV
theorem Vals.length{xs:List V}{us:List LD}(r:Vals xs us):xs.length=us.length:=MZ r
theorem Vals.get:∀{xs:List V}{us:List LD}{i:Nat}{x:V},Vals xs us->xs[i]?=some x->∃u,us[i]?=some u/\RelV x u
 | _,_,_,_,.nil,e=>by simp at e
 | _,_,0,_,.cons r _,e=>by simp at e;subst e;exact⟨_,rfl,r⟩
 | _,_,i+1,x,.cons _ t,e=>by
  obtain⟨u,h1,h2⟩:=Vals.get (i:=i) (x:=x) t (by simpa using e);exact⟨u,by simpa using h1,h2⟩
theorem Vals.append:∀{xs ys:List V}{us ws:List LD},Vals xs us->Vals ys ws->Vals (xs++ys) (us++ws)
 | _,_,_,_,.nil,s=>s
 | _,_,_,_,.cons r t,s=>.cons r (Vals.append t s)
theorem Vals.take:∀{xs:List V}{us:List LD}(n:Nat),Vals xs us->Vals (xs.take n) (us.take n)
 | _,_,0,_=>.nil
 | _,_,_+1,.nil=>.nil
 | _,_,n+1,.cons r t=>.cons r (Vals.take n t)
theorem Vals.drop:∀{xs:List V}{us:List LD}(n:Nat),Vals xs us->Vals (xs.drop n) (us.drop n)
 | _,_,0,r=>r
 | _,_,_+1,.nil=>.nil
 | _,_,n+1,.cons _ t=>Vals.drop n t
def rS:Option V->Option LD->Prop
 | some v,some u=>RelV v u
 | none,none=>True
 | _,_=>False
def KV{κ:Type}:List (κ×V)->List (κ×LD)->Prop:=SD fun (p:κ×V) (q:κ×LD)=>p.1=q.1/\RelV p.2 q.2
def kV:Key->V
 | .inl i=>.int i
 | .inr x=>.str x
inductive HO where
  | lst (xs:List V)
  | tup (xs:List V)
  | dK (kvs:List (Key×V)) | dT (kvs:List (jF×V))
  | set (S:Int->Bool) (n:Nat)
  | ins (C dx:Addr) (fs:List (Str×V))
  | own (x:Addr)
  | xd (fs:List (Str×V))
  | met (f x:Addr)
  | rng (lo hi:Int)
  | frz (o:Obj) (u:HO)
  | tbl (ps:Array LD)
  | ext (φ:Heap->Prop)
abbrev Hp:=Addr->Option HO
def upd(H:Hp)(a:Addr)(o:HO):Hp:=fun b=>if b=a then some o else H b
theorem ao{H:Hp}{a:Addr}{o:HO}:upd H a o a=some o:=by unfold upd;rw[if_pos rfl]
theorem aw{H:Hp}{a b:Addr}{o:HO}(h:b≠a):upd H a o b=H b:=by unfold upd;rw[if_neg h]
theorem Io{H:Hp}{a b:Addr}{o u:HO}(h:H a=some o)(h':H b=some u)(d:o≠u):a≠b:=by
 intro e;subst e;rw[h] at h';exact d (MK h')
theorem bB{H:Hp}{a b:Addr}{o:HO}(h:H a=some o)(h':H b=none):a≠b:=by
 intro e;subst e;rw[h] at h';cases h'
def AE (h:Heap) (a:Addr) (items:Array LD):Prop:=∃o,h.get? a=some o/\o.cls=.type "tuple"/\(∃n,o.data=.seq items n)/\((∀v∈items.toList,∃b,v=Mn b)->o.dict=none)
theorem AE.up{h:Heap}{a:Addr}{items:Array LD}(x:AE h a items):IsTup h a items:=by
 obtain⟨o,e,c,d,_⟩:=x;exact⟨o,e,c,d⟩
theorem AE.new (h:Heap) (items:Array LD):AE (h.push { cls:=.type "tuple",data:=.seq items }) h.objs.size items:=⟨_,LN _ rfl,rfl,⟨_,rfl⟩,fun _=>rfl⟩
def NV(H:Hp):jF->List V->Prop
 | [],vs=>vs=[]
 | .inl k::ks,vs=>∃r,vs=kV k::r/\NV H ks r
 | .inr l::ks,vs=>∃c r,vs=.ref c::r/\H c=some (.tup (l.map kV))/\NV H ks r
def jE(H:Hp)(b:Addr)(k:jF):Prop:=∃vs,H b=some (.tup vs)/\NV H k vs
theorem NV.keeps{H H':Hp}(ht:∀b ys,H b=some (.tup ys)->H' b=some (.tup ys)):∀{k:jF}{vs:List V},NV H k vs->NV H' k vs
 | [],_,h=>h
 | .inl _::_,_,⟨r,e,t⟩=>⟨r,e,NV.keeps ht t⟩
 | .inr _::_,_,⟨c,r,e,hc,t⟩=>⟨c,r,e,ht _ _ hc,NV.keeps ht t⟩
theorem jE.keeps{H H':Hp}{b:Addr}{k:jF}(x:jE H b k)(ht:∀b ys,H b=some (.tup ys)->H' b=some (.tup ys)):jE H' b k:=let ⟨vs,e,t⟩:=x;⟨vs,ht _ _ e,t.keeps ht⟩
section
variable(P : LY)(w : Ly)
def dQ(H:Hp)(h:Heap)(a:Addr):HO->Prop
 | .lst xs=>xs.length<=sizeLine/\∃(its:List LD) (n:Nat),Vals xs its/\h.get? a=some { cls:=.type "list",data:=.seq its.toArray n }
 | .tup xs=>xs.length<=sizeLine/\∃its:List LD,Vals xs its/\AE h a its.toArray
 | .dK kvs=>kvs.length<=sizeLine/\(a == Mb)=false/\∃vs,KV kvs vs/\h.DictOf (aj P w) a vs
 | .dT kvs=>kvs.length<=sizeLine/\(a == Mb)=false/\∃xs:List (jF×Addr×LD),
   SD (fun (p:jF×V) (q:jF×Addr×LD)=>p.1=q.1/\jE H q.2.1 p.1/\RelV p.2 q.2.2) kvs xs/\
   ∃o es ep,h.get? a=some o/\o.ExactDict/\o.data=.dict es ep/\es.toList=xs.map (entryOfKey (jg P w))/\(xs.map (·.1)).Nodup
 | .set S n=>h.SetOf (intKind P w) a S n
 | .ins C dx fs=>H dx=some (.own a)/\fs.length<=1000/\dx≠a/\h.get? a=some (PySem.W.instObj C dx)/\
   ∃mA,h.Ns1 dx mA/\(∀f,rS (fs.lookup f) (mA f))/\PySem.Within mA (fs.map (·.1))
 | .own _=>∃o,h.get? a=some o
 | .xd fs=>∃mA,h.Ns1 a mA/\∀f,rS (fs.lookup f) (mA f)
 | .rng lo hi=>∃t u v,h.get? a=some { cls:=.type "range",data:=.fields #[.int lo t,.int hi u,.int 1 v] }
 | .frz o u=>h.get? a=some o/\dQ H h a u
 | .tbl ps=>h.get? a=some { cls:=.none,data:=.fields ps }
 | .met f x=>h.get? a=some (QE (.ref f) (.ref x))
 | .ext φ=>φ h/\(∃o,h.get? a=some o)/\∀h1 h2:Heap,φ h1->(∀o,h1.get? a=some o->h2.get? a=some o)->φ h2
def HOk(H:Hp)(h:Heap):Prop:=∀a o,H a=some o->dQ P w H h a o
end
section
variable{P : LY}{w : Ly}{H H' : Hp}{h h' : Heap}{a : Addr}{o : HO}
theorem dQ.lt(x:dQ P w H h a o):a<h.objs.size:=by
 cases o with
 | lst xs=>obtain⟨_,_,_,_,e⟩:=x;exact LM e
 | tup xs=>obtain⟨_,_,_,p⟩:=x;exact p.up.lt
 | dK kvs=>obtain⟨_,_,_,_,o,_,_,e,_⟩:=x;exact LM e
 | dT kvs=>obtain⟨_,_,_,_,o,_,_,e,_⟩:=x;exact LM e
 | set S n=>obtain⟨o,_,_,_,e,_⟩:=x;exact LM e
 | ins C dx fs=>obtain⟨_,_,_,e,_⟩:=x;exact LM e
 | own y=>obtain⟨_,e⟩:=x;exact LM e
 | xd fs=>obtain⟨_,⟨_,_,_,e,_⟩,_⟩:=x;exact LM e
 | rng lo hi=>obtain⟨_,_,_,e⟩:=x;exact LM e
 | frz ob u=>obtain⟨e,_⟩:=x;exact LM e
 | tbl ps=>exact LM (show h.get? a=some _ from x)
 | met f y=>exact LM (show h.get? a=some _ from x)
 | ext φ=>obtain⟨_,⟨_,e⟩,_⟩:=x;exact LM e
theorem Paired.mapP{α β:Type}{F G:α->β->Prop}:∀{l₁:List α}{l₂:List β},SD F l₁ l₂->(∀a b,F a b->G a b)->SD G l₁ l₂
 | _,_,.nil,_=>.nil
 | _,_,.cons r t,f=>.cons (f _ _ r) (Paired.mapP t f)
theorem dQ.stay(x:dQ P w H h a o)(k:∀b u,(b=a\/H b=some (.own a))->h.get? b=some u->h'.get? b=some u)
  (ho:∀b,H b=some (.own a)->H' b=some (.own a)) (ht:∀b xs,H b=some (.tup xs)->H' b=some (.tup xs)):dQ P w H' h' a o:=by
 induction o with
 | lst xs=>obtain⟨z,its,n,r,e⟩:=x;exact⟨z,its,n,r,k _ _ (.inl rfl) e⟩
 | tup xs=>obtain⟨z,its,r,ob,e,c⟩:=x;exact⟨z,its,r,ob,k _ _ (.inl rfl) e,c⟩
 | dK kvs=>obtain⟨z,y,vs,r,ob,es,ep,e,c⟩:=x;exact⟨z,y,vs,r,ob,es,ep,k _ _ (.inl rfl) e,c⟩
 | dT kvs=>
  obtain⟨z,y,xs,r,ob,es,ep,e,c⟩:=x;exact⟨z,y,xs,Paired.mapP r fun p q z=>⟨z.1,z.2.1.keeps ht,z.2.2⟩,ob,es,ep,k _ _ (.inl rfl) e,c⟩
 | set S n=>obtain⟨ob,es,ep,t,e,c⟩:=x;exact⟨ob,es,ep,t,k _ _ (.inl rfl) e,c⟩
 | ins C dx fs=>
  obtain⟨d,z,ne,e,mA,⟨od,es,ep,e2,c⟩,r⟩:=x;exact⟨ho _ d,z,ne,k _ _ (.inl rfl) e,mA,⟨od,es,ep,k _ _ (.inr d) e2,c⟩,r⟩
 | own y=>obtain⟨ob,e⟩:=x;exact⟨ob,k _ _ (.inl rfl) e⟩
 | xd fs=>obtain⟨mA,⟨od,es,ep,e,c⟩,r⟩:=x;exact⟨mA,⟨od,es,ep,k _ _ (.inl rfl) e,c⟩,r⟩
 | rng lo hi=>obtain⟨t,u,v,e⟩:=x;exact⟨t,u,v,k _ _ (.inl rfl) e⟩
 | frz ob u ih=>obtain⟨e,q⟩:=x;exact⟨k _ _ (.inl rfl) e,ih q⟩
 | tbl ps=>
  have e:h.get? a=some { cls:=.none,data:=.fields ps }:=x;show h'.get? a=some { cls:=.none,data:=.fields ps };exact k a _ (.inl rfl) e
 | met f y=>
  have e:h.get? a=some (QE (.ref f) (.ref y)):=x;show h'.get? a=some (QE (.ref f) (.ref y));exact k a _ (.inl rfl) e
 | ext φ=>obtain⟨p,⟨o,e⟩,st⟩:=x;exact⟨st _ _ p fun o q=>k _ _ (.inl rfl) q,⟨o,k _ _ (.inl rfl) e⟩,st⟩
theorem HOk.lt(x:HOk P w H h)(e:H a=some o):a<h.objs.size:=(x a o e).lt
theorem HOk.fresh(x:HOk P w H h)(e:h.objs.size<=a):H a=none:=by
 cases q:H a with
 | none=>rfl
 | some u=>exact absurd (LK (x.lt q) e) (Mk _)
theorem HOk.kept(x:HOk P w H h)(k:∀b u,h.get? b=some u->h'.get? b=some u):HOk P w H h':=fun a o e=>
 (x a o e).stay (fun b u _ q=>k b u q) (fun _ q=>q) fun _ _ q=>q
theorem HOk.laid(x:HOk P w H h)(k:∀b u,h.get? b=some u->h'.get? b=some u)(hp:h.objs.size<=a)(new:dQ P w (upd H a o) h' a o):HOk P w (upd H a o) h':=fun b u e=>by
 have hn:=x.fresh hp
 by_cases hb:b=a
 ·subst hb;rw[ao] at e;cases e;exact new
 ·rw[aw hb] at e
  exact(x b u e).stay (fun c v _ q=>k c v q) (fun c q=>by rw[aw (bB q hn)];exact q) fun c xs q=>by rw[aw (bB q hn)];exact q
end
def Rd(H:Hp)(a:Addr)(u:HO):Prop:=H a=some u\/∃o,H a=some (.frz o u)
theorem Rd.ok{P:LY}{w:Ly}{H:Hp}{h:Heap}{a:Addr}{u:HO}(r:Rd H a u)(x:HOk P w H h):dQ P w H h a u:=by
 rcases r with r | ⟨o,r⟩
 ·exact x a u r
 ·obtain⟨_,q⟩:=x a _ r
  exact q
def Mut:Option HO->Prop
 | some (.lst _)=>True
 | some (.dK _)=>True
 | some (.dT _)=>True
 | some (.set _ _)=>True
 | some (.ins _ _ _)=>True
 | some (.ext _)=>True
 | _=>False
section
variable{P : LY}{w : Ly}{H : Hp}{h h' : Heap}{x e : Addr}{o' : HO}
theorem HOk.write(ok:HOk P w H h)(mu:Mut (H x))(he:e=x\/H e=some (.own x))(k:∀b u,b≠e->h.get? b=some u->h'.get? b=some u)(heo:∃u,h'.get? e=some u)
  (new:dQ P w (upd H x o') h' x o'):HOk P w (upd H x o') h':=fun b u q=>by
 have nown:∀c y,H c=some (.own y)->c≠x:=fun c y r z=>by subst z;rw[r] at mu;exact mu
 have ntup:∀c xs,H c=some (.tup xs)->c≠x:=fun c xs r z=>by subst z;rw[r] at mu;exact mu
 by_cases hb:b=x
 ·subst hb;rw[ao] at q;cases q;exact new
 ·rw[aw hb] at q
  by_cases hbe:b=e
  ·have q':H b=some (.own x):=by
    rcases he with z | z
    ·exact absurd (hbe.trans z) hb
    ·rw[hbe];exact z
   rw[q] at q';cases q';obtain⟨v,hv⟩:=heo;exact⟨v,by rw[hbe];exact hv⟩
  ·refine(ok b u q).stay (fun c v hc r=>k c v ?_ r) (fun c r=>by rw[aw (nown c b r)];exact r) fun c xs r=>by rw[aw (ntup c xs r)];exact r
   rcases hc with rfl | hc
   ·exact hbe
   ·rintro rfl
    rcases he with z | z
    ·exact nown c b hc z
    ·rw[hc] at z;cases z;exact hb rfl
end
structure Un(fs ex:List Addr)(H H':Hp)(h h':Heap):Prop where
 keep:∀b o,h.get? b=some o->H b=none->b ∉ fs->b ∉ ex->h'.get? b=some o
 slot:∀b o,h.get? b=some o->H b=none->b∈fs->b ∉ ex->∃sl,h'.get? b=some { o with slots:=sl }
 free:∀b o,h.get? b=some o->H b=none->b ∉ ex->H' b=none
 there:∀b o,h.get? b=some o->b ∉ ex->∃o',h'.get? b=some o'
 tups:∀b xs,H b=some (.tup xs)->H' b=some (.tup xs)
 frzs:∀b o u,H b=some (.frz o u)->H' b=some (.frz o u)
 tbls:∀b ps,H b=some (.tbl ps)->∃more,H' b=some (.tbl (ps++more))
section
variable{fs fs' ex ex' : List Addr}{H H1 H2 : Hp}{h h1 h2 h' : Heap}{a x e : Addr}{o : HO}
theorem Un.any(u:Un fs ex H H1 h h1){b:Addr}{ob:Obj}(q:h.get? b=some ob)(n:H b=none)(hx:b ∉ ex):∃sl,h1.get? b=some { ob with slots:=sl }:=by
 by_cases hb:b∈fs
 ·exact u.slot b ob q n hb hx
 ·exact⟨ob.slots,u.keep b ob q n hb hx⟩
theorem Un.kept(k:∀b u,h.get? b=some u->h'.get? b=some u):Un fs ex H H h h':=
 ⟨fun b ob q _ _ _=>k b ob q,fun b ob q _ _ _=>⟨ob.slots,k b ob q⟩,fun _ _ _ n _=>n,fun b ob q _=>⟨ob,k b ob q⟩,fun _ _ q=>q,fun _ _ _ q=>q,fun _ ps q=>⟨#[],by rw[q];simp⟩⟩
theorem Un.refl:Un fs ex H H h h:=Un.kept fun _ _ q=>q
theorem Un.laid(k:∀b u,h.get? b=some u->h'.get? b=some u)(hp:h.objs.size<=a)(hn:H a=none):Un fs ex H (upd H a o) h h' where
 keep:=fun b u q _ _ _=>k b u q
 slot:=fun b u q _ _ _=>⟨u.slots,k b u q⟩
 free:=fun b u q n _=>by rw[aw (Lo (LK (LM q) hp))];exact n
 there:=fun b u q _=>⟨u,k b u q⟩
 tups:=fun b xs q=>by rw[aw (bB q hn)];exact q
 frzs:=fun b u xs q=>by rw[aw (bB q hn)];exact q
 tbls:=fun b ps q=>⟨#[],by rw[aw (bB q hn),q];simp⟩
theorem Un.write(mu:Mut (H x))(he:e=x\/H e=some (.own x))(k:∀b u,b≠e->h.get? b=some u->h'.get? b=some u)(heo:∃u,h'.get? e=some u):Un fs ex H (upd H x o) h h':=by
 have hx:∀b,H b=none->b≠x:=fun b n z=>by subst z;rw[n] at mu;exact mu
 have hb:∀b,H b=none->b≠e:=fun b n z=>by
  subst z;rcases he with r | r
  ·exact hx b n r
  ·rw[n] at r;cases r
 have hm:∀b u,H b=some u->¬ Mut (some u)->b≠x:=fun b u q nm z=>by subst z;rw[q] at mu;exact nm mu
 refine⟨fun b u q n _ _=>k b u (hb b n) q,fun b u q n _ _=>⟨u.slots,k b u (hb b n) q⟩,fun b u q n _=>by rw[aw (hx b n)];exact n,fun b u q _=>?_,
  fun b xs q=>by rw[aw (hm b _ q fun z=>z)];exact q,fun b u xs q=>by rw[aw (hm b _ q fun z=>z)];exact q,fun b ps q=>⟨#[],by rw[aw (hm b _ q fun z=>z),q];simp⟩⟩
 by_cases hbe:b=e
 ·subst hbe;exact heo
 ·exact⟨u,k b u hbe q⟩
end
def trk(h:Heap)(H:Hp):List Addr:=(M9 h.objs.size).filter fun a=>(H a).isSome
def A7(h:Heap)(H:Hp):Heap:=PySem.W.hideAll h (trk h H)
theorem xD(h:Heap)(H:Hp):(A7 h H).objs.size=h.objs.size:=PySem.W.hideAll_size _ _
theorem A6{h:Heap}{H:Hp}{b:Addr}{o:Obj}(e:h.get? b=some o)(n:H b=none):(A7 h H).get? b=some o:=
 PySem.W.hideAll_get _ e fun hm=>by
  have q:(H b).isSome=true:=(List.mem_filter.mp hm).2;rw[n] at q;simp at q
theorem Cq{h:Heap}{H:Hp}{b:Addr}{o:Obj}(e:(A7 h H).get? b=some o):h.get? b=some o/\H b=none:=by
 have e':h.get? b=some o:=PySem.W.of_hideAll (trk h H) e;refine⟨e',?_⟩;cases q:H b with
 | none=>rfl
 | some x=>
  have hm:b∈trk h H:=List.mem_filter.mpr ⟨P0.mpr (LM e'),by simp[q]⟩;have z:(A7 h H).get? b=none:=PySem.W.hideAll_none (trk h H) hm;rw[z] at e;cases e
def DF(g h:Heap)(L:Addr):List (Addr×Obj):=(M9 h.objs.size).filterMap fun a=>if a=L\/(g.get? a).isSome=true then none else (h.get? a).map fun o=>(a,o)
def rest(g h:Heap)(L d:Addr):List (Addr×Obj):=(DF g h L).filter fun p=>decide (p.1≠d)
end L2
namespace L2
open PySem PySem.Spec PyProof.Rows
structure Mod(K:LC)(mg:Str->Option LD)(base:Heap):Prop where
 kin:K.In base
 glob:base.Ns Lv mg
 blt:∃mb,base.Ns Q8 mb/\∀x:Str,x≠"__name__"->mb x=N4 x
 nolimit:base.NoLimit
structure Cx where
 prog:LY
 w:Ly
 K:LC
 mg:Str->Option LD
 base:Heap
 A:M3
 N:List Str
 s₀:LG
 H₀:Hp
 env:Qo
 outer:List Qo
 stack:List Qo
 ex:List Addr
 fn:Str->Bool
 calm:Bool
 pn:List (Addr×Obj)
 xe:LD->LG->Prop
def frs(l:List Qo):List Addr:=l.filterMap (·.frame)
abbrev Cx.fs(X:Cx):List Addr:=frs X.outer
def Vis(sc:Scope)(x:Str):Prop:=sc.names.lookup x=some .local\/sc.names.lookup x=some .cell\/sc.names.lookup x=some .free
def Loc(sc:Scope)(x:Str):Prop:=sc.names.lookup x=some .local\/sc.names.lookup x=some .cell
def Look(env:Qo)(h:Heap)(m:Str->Option LD)(x:Str)(u:LD):Prop:=
 (env.kindOf x=some .local/\m x=some u)\/((env.kindOf x=some .cell\/env.kindOf x=some .free)/\∃c,env.cells.lookup x=some c/\h.IsCell c (some u))
structure Cx.Ok(X:Cx):Prop where
 mod:Mod X.K X.mg X.base
 kind:X.env.scope.kind=.function
 glob:X.env.globals=Lv
 blt:X.env.builtins=Q8
 above:X.s₀.heap.objs.size<=X.env.locals
 inj:∀x y c,X.env.cells.lookup x=some c->X.env.cells.lookup y=some c->x=y
 has:∀x,(X.env.kindOf x=some .cell\/X.env.kindOf x=some .free)->∃c,X.env.cells.lookup x=some c
 cab:∀x c,X.fn x=true->X.env.cells.lookup x=some c->X.s₀.heap.objs.size<=c
 hd:X.calm=true->X.A.handled=none
 frames:X.A.frames=some X.stack
 stk:X.stack=X.outer\/(X.stack=X.env::X.outer/\X.env.frame=some X.env.locals)
 exf:∀b∈X.ex,b≠X.env.locals/\∀x c,X.env.cells.lookup x=some c->c≠b
 bs:∀b o,X.base.get? b=some o->X.s₀.heap.get? b=some o/\X.H₀ b=none
 bsz:X.base.objs.size<=X.s₀.heap.objs.size
 noex:∀b o,X.base.get? b=some o->b ∉ X.ex
 exfs:∀b∈X.ex,b ∉ X.fs
 funs:X.s₀.heap.FunFrames X.base X.outer
 frf:∀b∈X.fs,X.H₀ b=none
structure Inv(X:Cx)(pins:List (Addr×Obj))(σ:List (Option V))(H:Hp)(s:LG):Prop where
 ok:X.Ok
 os:s.os=X.s₀.os
 bare:QA s.gens
 base:Un X.fs X.ex X.H₀ H X.s₀.heap s.heap
 loc:∃m,s.heap.Ns X.env.locals m/\∀(i:Nat)(x:Str)(v:V),X.N[i]?=some x->σ[i]?=some (some v)->Vis X.env.scope x->∃u,RelV v u/\Look X.env s.heap m x u
 cell:∀x c,X.env.cells.lookup x=some c->∃v,s.heap.IsCell c v
 free:H X.env.locals=none
 freeC:∀x c,X.env.cells.lookup x=some c->H c=none
 pin:∀p∈X.pn++pins,s.heap.get? p.1=some p.2/\H p.1=none/\p.1≠X.env.locals/\p.1 ∉ X.fs/\∀v,p.2.data≠.cell v
 hok:HOk X.prog X.w H s.heap
 len:σ.length=X.N.length
section
variable{X : Cx}{pins : List (Addr×Obj)}{σ : List (Option V)}{H H' : Hp}{s : LG}{h' : Heap}
theorem Cx.Ok.nofr(ok:X.Ok){b:Addr}{o:Obj}(e:X.base.get? b=some o):b ∉ X.fs:=fun hb=>by
 have:=(ok.funs.mem hb).1;rw[e] at this;cases this
theorem Inv.bs(I:Inv X pins σ H s):∀b o,X.base.get? b=some o->s.heap.get? b=some o/\H b=none:=fun b o e=>
 ⟨I.base.keep b o (I.ok.bs b o e).1 (I.ok.bs b o e).2 (I.ok.nofr e) (I.ok.noex b o e),I.base.free b o (I.ok.bs b o e).1 (I.ok.bs b o e).2 (I.ok.noex b o e)⟩
theorem Inv.bk(I:Inv X pins σ H s):∀b o,X.base.get? b=some o->s.heap.get? b=some o:=fun b o e=>(I.bs b o e).1
theorem Inv.mod(I:Inv X pins σ H s):Mod X.K X.mg X.base:=I.ok.mod
theorem Inv.kIn(I:Inv X pins σ H s):X.K.In s.heap:=I.ok.mod.kin.keeps I.bk
theorem Inv.lt(I:Inv X pins σ H s):X.env.locals<s.heap.objs.size:=let ⟨_,hn,_⟩:=I.loc;hn.lt
theorem Inv.sz(I:Inv X pins σ H s):X.s₀.heap.objs.size<=s.heap.objs.size:=MR I.ok.above (Ow I.lt)
theorem Inv.nofs(I:Inv X pins σ H s){a:Addr}(h:s.heap.objs.size<=a):a ∉ X.fs:=fun hb=>by
 obtain⟨_,o,ho,_⟩:=I.ok.funs.mem hb;exact absurd (LK (LM ho) (MR I.sz h)) (Mk _)
theorem Inv.cne(I:Inv X pins σ H s):∀x c,X.env.cells.lookup x=some c->c≠X.env.locals:=fun x c e z=>by
 obtain⟨v,o,ho,hd⟩:=I.cell x c e;obtain⟨m,⟨o',es,ep,ho',hd',_⟩,_⟩:=I.loc;rw[z,ho'] at ho;cases ho;rw[hd'] at hd;cases hd
theorem Inv.funs(I:Inv X pins σ H s):s.heap.FunFrames X.base X.outer:=by
 have all:∀(l:List Qo),(∀b∈frs l,b∈X.fs)->X.s₀.heap.FunFrames X.base l->s.heap.FunFrames X.base l:=by
  intro l
  induction l with
  | nil=>intro _ _;trivial
  | cons env r ih=>
   intro hs hl;obtain⟨hk,⟨L,o,hf,hn,ho,hd⟩,hr⟩:=hl;have hL:L∈X.fs:=hs L (by unfold frs;rw[QD,hf];exact Lp);obtain⟨sl,e⟩:=I.base.slot L o ho (I.ok.frf L hL) hL fun z=>I.ok.exfs L z hL;exact⟨hk,⟨L,_,hf,hn,e,hd⟩,ih (fun b hb=>hs b (by unfold frs;rw[QD,hf];exact Lq _ hb)) hr⟩
 exact all X.outer (fun _ hb=>hb) I.ok.funs
theorem Inv.stack(I:Inv X pins σ H s):s.heap.FunFrames X.base X.stack:=by
 rcases I.ok.stk with e | ⟨e,hf⟩
 ·rw[e];exact I.funs
 ·rw[e]
  obtain⟨m,hn,_⟩:=I.loc;refine .cons (by rw[I.ok.kind];decide) hf hn ?_ I.funs;exact Heap.get?_none_of_le (MR I.ok.bsz I.ok.above)
theorem Inv.stkSub(I:Inv X pins σ H s):∀b∈frs X.stack,b∈X.env.locals::X.fs:=fun b hb=>by
 rcases I.ok.stk with e | ⟨e,hf⟩
 ·rw[e] at hb;exact Lq _ hb
 ·rw[e] at hb
  unfold frs at hb;rw[QD,hf] at hb;exact hb
theorem Inv.stkFree(I:Inv X pins σ H s):∀b∈frs X.stack,H b=none:=fun b hb=>by
 rcases LJ.mp (I.stkSub b hb) with e | hb
 ·rw[e];exact I.free
 ·obtain⟨_,o,ho,_⟩:=I.ok.funs.mem hb
  exact I.base.free b o ho (I.ok.frf b hb) fun z=>I.ok.exfs b z hb
theorem Inv.step{g':Array GenState}{t':Nat}{d':Drawn}{ch:List Addr}(I:Inv X pins σ H s)
  (hch:∀b∈ch,(b∈X.ex\/X.s₀.heap.objs.size<=b)/\b≠X.env.locals/\(∀x c,X.env.cells.lookup x=some c->c≠b)/\∀p∈X.pn++pins,p.1≠b)
  (keep:∀b o,b≠X.env.locals->b ∉ X.fs->b ∉ ch->s.heap.get? b=some o->H b=none->h'.get? b=some o)
  (slot:∀b o,b≠X.env.locals->b∈X.fs->b ∉ ch->s.heap.get? b=some o->H b=none->∃sl,h'.get? b=some { o with slots:=sl }) (free:∀b o,b ∉ ch->s.heap.get? b=some o->H b=none->H' b=none)
  (there:∀b o,b ∉ ch->s.heap.get? b=some o->∃o',h'.get? b=some o')
  (tups:∀b xs,H b=some (.tup xs)->H' b=some (.tup xs)) (frzs:∀b o u,H b=some (.frz o u)->H' b=some (.frz o u)) (tbls:∀b ps,H b=some (.tbl ps)->∃more,H' b=some (.tbl (ps++more)))
  (ns:∀m,s.heap.Ns X.env.locals m->h'.Ns X.env.locals m) (hok:HOk X.prog X.w H' h') (hg:QA g') :
  Inv X pins σ H' { s with heap:=h',gens:=g',drawn:=d',toks:=t' }:=by
 have neL:∀b o,X.s₀.heap.get? b=some o->b≠X.env.locals:=fun b o e=>Lo (LK (LM e) I.ok.above)
 have neC:∀b o,X.s₀.heap.get? b=some o->b ∉ X.ex->b ∉ ch:=fun b o e hx hb=>by
  rcases (hch b hb).1 with z | z
  ·exact hx z
  ·exact absurd (LK (LM e) z) (Mk _)
 have cellK:∀x c,X.env.cells.lookup x=some c->∀v,s.heap.IsCell c v->h'.IsCell c v:=fun x c e v ⟨o,ho,hd⟩=>by
  have nch:c ∉ ch:=fun z=>(hch c z).2.2.1 x c e rfl
  by_cases hc:c∈X.fs
  ·obtain⟨sl,q⟩:=slot c o (I.cne x c e) hc nch ho (I.freeC x c e)
   exact⟨_,q,hd⟩
  ·exact⟨o,keep c o (I.cne x c e) hc nch ho (I.freeC x c e),hd⟩
 refine⟨I.ok,I.os,hg,⟨fun b o e n hb hx=>?_,fun b o e n hb hx=>?_,fun b o e n hx=>?_,fun b o e hx=>?_,fun b xs e=>tups b xs (I.base.tups b xs e),fun b o xs e=>frzs b o xs (I.base.frzs b o xs e),fun b ps e=>?_⟩,?_,fun x c e=>?_,?_,fun x c e=>?_,fun p hp=>?_,hok,I.len⟩
 ·exact keep b o (neL b o e) hb (neC b o e hx) (I.base.keep b o e n hb hx) (I.base.free b o e n hx)
 ·obtain⟨sl,e1⟩:=I.base.slot b o e n hb hx
  obtain⟨sl',e2⟩:=slot b _ (neL b o e) hb (neC b o e hx) e1 (I.base.free b o e n hx);exact⟨sl',e2⟩
 ·obtain⟨o',e1⟩:=I.base.there b o e hx
  exact free b o' (neC b o e hx) e1 (I.base.free b o e n hx)
 ·obtain⟨o',e1⟩:=I.base.there b o e hx
  exact there b o' (neC b o e hx) e1
 ·obtain⟨m1,e1⟩:=I.base.tbls b ps e
  obtain⟨m2,e2⟩:=tbls b _ e1;exact⟨m1++m2,by rw[e2,Array.append_assoc]⟩
 ·obtain⟨m,hn,hl⟩:=I.loc
  refine⟨m,ns m hn,fun i x v e1 e2 e3=>?_⟩;obtain⟨u,r,l⟩:=hl i x v e1 e2 e3;refine⟨u,r,?_⟩;rcases l with l | ⟨k,c,e,z⟩
  ·exact .inl l
  ·exact .inr ⟨k,c,e,cellK x c e _ z⟩
 ·obtain⟨v,z⟩:=I.cell x c e
  exact⟨v,cellK x c e v z⟩
 ·obtain⟨m,⟨o,_,_,ho,_⟩,_⟩:=I.loc
  exact free _ o (fun z=>(hch _ z).2.1 rfl) ho I.free
 ·obtain⟨v,o,ho,hd⟩:=I.cell x c e
  exact free c o (fun z=>(hch c z).2.2.1 x c e rfl) ho (I.freeC x c e)
 ·obtain⟨e,n,ne,nf,d⟩:=I.pin p hp
  have nch:p.1 ∉ ch:=fun z=>(hch p.1 z).2.2.2 p hp rfl;exact⟨keep p.1 p.2 ne nf nch e n,free p.1 p.2 nch e n,ne,nf,d⟩
theorem Inv.un{t':Nat}(I:Inv X pins σ H s)(u:Un X.fs [] H H' s.heap h')(hok:HOk X.prog X.w H' h'):Inv X pins σ H' { s with heap:=h',toks:=t' }:=by
 obtain⟨m,⟨o,es,ep,ho,r⟩,_⟩:=id I.loc;obtain⟨sl,hL⟩:=u.any ho I.free (by simp)
 exact I.step (g':=s.gens) (d':=s.drawn) (ch:=[]) (fun _ z=>nomatch z) (fun b o _ hb _ e n=>u.keep b o e n hb (by simp)) (fun b o _ hb _ e n=>u.slot b o e n hb (by simp)) (fun b o _ e n=>u.free b o e n (by simp)) (fun b o _ e=>u.there b o e (by simp)) u.tups u.frzs u.tbls (fun m' hm=>by
  obtain⟨o',es',ep',ho',r'⟩:=hm;rw[ho] at ho';cases ho';exact⟨_,es',ep',hL,r'⟩) hok I.bare
theorem Inv.call{g':Array GenState}{t':Nat}{d':Drawn}{ch:List Addr}(I:Inv X pins σ H s)(u:Un (frs X.stack) ch H H' s.heap h')(hok:HOk X.prog X.w H' h')(hg:QA g')
  (hch:∀b∈ch,(b∈X.ex\/X.s₀.heap.objs.size<=b)/\b≠X.env.locals/\(∀x c,X.env.cells.lookup x=some c->c≠b)/\∀p∈X.pn++pins,p.1≠b) :
  Inv X pins σ H' { s with heap:=h',gens:=g',drawn:=d',toks:=t' }:=by
 obtain⟨m,⟨o,es,ep,ho,r⟩,_⟩:=id I.loc;obtain⟨sl,hL⟩:=u.any ho I.free fun z=>(hch _ z).2.1 rfl
 exact I.step (ch:=ch) hch (fun b o hL hb hc e n=>u.keep b o e n (fun z=>(LJ.mp (I.stkSub b z)).elim hL hb) hc) (fun b o _ _ hc e n=>u.any e n hc) (fun b o hc e n=>u.free b o e n hc) (fun b o hc e=>u.there b o e hc) u.tups u.frzs u.tbls (fun m' hm=>by
  obtain⟨o',es',ep',ho',r'⟩:=hm;rw[ho] at ho';cases ho';exact⟨_,es',ep',hL,r'⟩) hok hg
theorem Inv.turned{t':Nat}{it:Addr}(I:Inv X pins σ H s)(k:∀b o,b≠it->s.heap.get? b=some o->h'.get? b=some o)(hn:H it=none)(hL:it≠X.env.locals)
  (h1:it∈X.ex\/X.s₀.heap.objs.size<=it) (h2:∀x c,X.env.cells.lookup x=some c->c≠it) (h3:∀p∈X.pn++pins,p.1≠it):Inv X pins σ H { s with heap:=h',toks:=t' }:=by
 have nit:∀b u,H b=some u->b≠it:=fun b u e z=>by rw[z,hn] at e;cases e
 refine I.step (g':=s.gens) (d':=s.drawn) (ch:=[it]) (fun b hb=>?_) (fun b o _ _ hc e _=>k b o (fun z=>hc (by simp[z])) e) (fun b o _ _ hc e _=>⟨o.slots,k b o (fun z=>hc (by simp[z])) e⟩) (fun _ _ _ _ n=>n)
  (fun b o hc e=>⟨o,k b o (fun z=>hc (by simp[z])) e⟩) (fun _ _ e=>e) (fun _ _ _ e=>e) (fun b ps e=>⟨#[],by rw[e];simp⟩) (fun m hm=>?_) (fun b u e=>?_) I.bare
 ·have e:b=it:=by simpa using hb
  subst e;exact⟨h1,hL,h2,h3⟩
 ·obtain⟨o,es,ep,ho,r⟩:=hm
  exact⟨o,es,ep,k _ o (NG hL) ho,r⟩
 ·refine(I.hok b u e).stay (fun c v hc q=>k c v ?_ q) (fun _ q=>q) fun _ _ q=>q
  rcases hc with z | z
  ·rw[z];exact nit b u e
  ·exact nit c _ z
theorem Inv.tok(I:Inv X pins σ H s)(t:Nat):Inv X pins σ H { s with toks:=t }:=I.un (h':=s.heap) (t':=t) Un.refl I.hok
theorem Inv.kept{t':Nat}(I:Inv X pins σ H s)(k:∀b u,s.heap.get? b=some u->h'.get? b=some u):Inv X pins σ H { s with heap:=h',toks:=t' }:=I.un (Un.kept k) (I.hok.kept k)
theorem Inv.laid{a:Addr}{o:HO}{t':Nat}(I:Inv X pins σ H s)(k:∀b u,s.heap.get? b=some u->h'.get? b=some u)(hp:s.heap.objs.size<=a)(new:dQ X.prog X.w (upd H a o) h' a o) :
  Inv X pins σ (upd H a o) { s with heap:=h',toks:=t' }:=I.un (Un.laid k hp (I.hok.fresh hp)) (I.hok.laid k hp new)
theorem Inv.write{x e:Addr}{o:HO}{t':Nat}(I:Inv X pins σ H s)(mu:Mut (H x))(he:e=x\/H e=some (.own x))(k:∀b u,b≠e->s.heap.get? b=some u->h'.get? b=some u)(heo:∃u,h'.get? e=some u)
  (new:dQ X.prog X.w (upd H x o) h' x o):Inv X pins σ (upd H x o) { s with heap:=h',toks:=t' }:=I.un (Un.write mu he k heo) (I.hok.write mu he k heo new)
theorem Inv.pins_of{pins':List (Addr×Obj)}(I:Inv X pins σ H s)(h:∀p∈pins',s.heap.get? p.1=some p.2/\H p.1=none/\p.1≠X.env.locals/\p.1 ∉ X.fs/\∀v,p.2.data≠.cell v):Inv X pins' σ H s:=
 ⟨I.ok,I.os,I.bare,I.base,I.loc,I.cell,I.free,I.freeC,fun p hp=>(MA.mp hp).elim (fun z=>I.pin p (Oj _ z)) (h p),I.hok,I.len⟩
theorem sF{N:List Str}(hN:N.Nodup){i j:Nat}{x:Str}(a:N[i]?=some x)(b:N[j]?=some x):i=j:=by
 obtain⟨h1,e1⟩:=Lw.mp a;obtain⟨h2,e2⟩:=Lw.mp b;exact(List.getElem_inj hN).mp (e1.trans e2.symm)
theorem vM{M:Model}{A:M3}{E:LD->LG->Prop}{i:Nat}{x:Str}{v:V}{u:LD}{Q:Unit->LG->Prop}(I:Inv X pins σ H s)(hN:X.N.Nodup)(hi:X.N[i]?=some x)(hx:Loc X.env.scope x)(r:RelV v u)
  (h:∀s',Inv X pins (σ.set i (some v)) H s'->(∃a,NB a s.heap s'.heap/\(a=X.env.locals\/X.env.cells.lookup x=some a))->Q () s') (hf:X.fn x=true\/X.env.scope.names.lookup x=some .local:=by first | exact .inl rfl | exact .inr rfl | assumption):LO M A (storeName X.env x u) Q E s:=by
 obtain⟨m,hn,hl⟩:=id I.loc;have hcls:(X.env.scope.kind == .class || (X.env.scope.kind == .module && X.env.locals != X.env.globals))=false:=by rw[I.ok.kind];rfl
 have hiσ:i<σ.length:=by rw[I.len];exact(Lw.mp hi).1
 have cne:=I.cne
 have tracked:∀{a:Addr}{h':Heap},(∃o,s.heap.get? a=some o/\H a=none)->NB a s.heap h'->HOk X.prog X.w H h':=fun {a h'} ha hs b ob e=>by
  obtain⟨_,_,hfree⟩:=ha;refine(I.hok b ob e).stay (fun c w' hc q=>(hs.2 c ?_).trans q) (fun _ q=>q) fun _ _ q=>q;rintro rfl;rcases hc with rfl | hc
  ·rw[hfree] at e;cases e
  ·rw[hfree] at hc;cases hc
 rcases hx with hk | hk
 ·refine wpAny_storeName_local hk hn (fun h' hn' hs=>?_) hcls
  obtain⟨oL,_,_,hoL,_⟩:=id hn;refine h _ ⟨I.ok,I.os,I.bare,⟨fun b o e n hb hx=>?_,fun b o e n hb hx=>?_,I.base.free,fun b o e hx=>?_,I.base.tups,I.base.frzs,I.base.tbls⟩,⟨_,hn',fun j y v' e1 e2 e3=>?_⟩,fun y c e=>?_,I.free,I.freeC,fun p hp=>?_,tracked ⟨oL,hoL,I.free⟩ hs,by simpa using I.len⟩ ⟨_,hs,.inl rfl⟩
  ·exact(hs.2 b (Lo (LK (LM e) I.ok.above))).trans (I.base.keep b o e n hb hx)
  ·obtain⟨sl,e1⟩:=I.base.slot b o e n hb hx
   exact⟨sl,(hs.2 b (Lo (LK (LM e) I.ok.above))).trans e1⟩
  ·obtain⟨o',e1⟩:=I.base.there b o e hx
   exact⟨o',(hs.2 b (Lo (LK (LM e) I.ok.above))).trans e1⟩
  ·by_cases hj:j=i
   ·subst hj
    rw[hi] at e1;cases e1;rw[S0 hiσ] at e2;cases e2;exact⟨u,r,.inl ⟨hk,by simp⟩⟩
   ·rw[SY (NG hj)] at e2
    obtain⟨u',r',q⟩:=hl j y v' e1 e2 e3;refine⟨u',r',?_⟩;rcases q with⟨k,e⟩|⟨k,c,e,z⟩
    ·refine .inl ⟨k,?_⟩
     have:y≠x:=fun e=>hj (sF hN e1 (e▸hi));simp[this,e]
    ·exact .inr ⟨k,c,e,z.sameBut hs (cne y c e)⟩
  ·obtain⟨w',z⟩:=I.cell y c e
   exact⟨w',z.sameBut hs (cne y c e)⟩
  ·obtain⟨e,n,ne,nf,d⟩:=I.pin p hp
   exact⟨(hs.2 p.1 ne).trans e,n,ne,nf,d⟩
 ·have hfn:X.fn x=true:=by
   rcases hf with z | z
   ·exact z
   ·rw[z] at hk;cases hk
  obtain⟨c,hc⟩:=I.ok.has x (.inl hk);obtain⟨w',z⟩:=I.cell x c hc;refine wpAny_storeName_cell I.ok.kind hk hc z (fun h' hc' hs=>?_);obtain⟨oc,hoc,hocd⟩:=id z;refine h { s with heap:=h' } ⟨I.ok,I.os,I.bare,⟨fun b o e n hb hx=>?_,fun b o e n hb hx=>?_,I.base.free,fun b o e hx=>?_,I.base.tups,I.base.frzs,I.base.tbls⟩,⟨m,hn.sameBut hs (NG (cne x c hc)),fun j y v' e1 e2 e3=>?_⟩,fun y c' e=>?_,I.free,I.freeC,fun p hp=>?_,tracked ⟨oc,hoc,I.freeC x c hc⟩ hs,by simpa using I.len⟩ ⟨c,hs,.inr hc⟩
  ·exact(hs.2 b (Lo (LK (LM e) (I.ok.cab x c hfn hc)))).trans (I.base.keep b o e n hb hx)
  ·obtain⟨sl,e1⟩:=I.base.slot b o e n hb hx
   exact⟨sl,(hs.2 b (Lo (LK (LM e) (I.ok.cab x c hfn hc)))).trans e1⟩
  ·obtain⟨o',e1⟩:=I.base.there b o e hx
   exact⟨o',(hs.2 b (Lo (LK (LM e) (I.ok.cab x c hfn hc)))).trans e1⟩
  ·by_cases hj:j=i
   ·subst hj
    rw[hi] at e1;cases e1;rw[S0 hiσ] at e2;cases e2;exact⟨u,r,.inr ⟨.inl hk,c,hc,hc'⟩⟩
   ·rw[SY (NG hj)] at e2
    obtain⟨u',r',q⟩:=hl j y v' e1 e2 e3;refine⟨u',r',?_⟩;rcases q with q | ⟨k,c',e,z'⟩
    ·exact .inl q
    ·refine .inr ⟨k,c',e,z'.sameBut hs ?_⟩
     rintro rfl;exact hj (sF hN e1 (I.ok.inj _ _ _ e hc▸hi))
  ·by_cases hcc:c'=c
   ·subst hcc;exact⟨_,hc'⟩
   ·obtain⟨w2,z2⟩:=I.cell y c' e
    exact⟨w2,z2.sameBut hs hcc⟩
  ·obtain⟨e,n,ne,nf,d⟩:=I.pin p hp
   refine⟨(hs.2 p.1 ?_).trans e,n,ne,nf,d⟩;intro q;rw[q,hoc] at e;have q':oc=p.2:=MK e;exact d w' (by rw[← q'];exact hocd)
theorem rX{M:Model}{A:M3}{E:LD->LG->Prop}{i:Nat}{x:Str}{v:V}{u:LD}{Q:Unit->LG->Prop}(I:Inv X pins σ H s)(hN:X.N.Nodup)(hi:X.N[i]?=some x)(hx:Loc X.env.scope x)(r:RelV v u)
  (h:∀s',Inv X pins (σ.set i (some v)) H s'->Q () s') (hf:X.fn x=true\/X.env.scope.names.lookup x=some .local:=by first | exact .inl rfl | exact .inr rfl | assumption):LO M A (storeName X.env x u) Q E s:=
 vM I hN hi hx r (fun s' I' _=>h s' I') hf
theorem Inv.call'{s':LG}{ch:List Addr}(I:Inv X pins σ H s)(ho:s'.os=s.os)(u:Un (frs X.stack) ch H H' s.heap s'.heap)(hok:HOk X.prog X.w H' s'.heap)(hg:QA s'.gens)
  (hch:∀b∈ch,(b∈X.ex\/X.s₀.heap.objs.size<=b)/\b≠X.env.locals/\(∀x c,X.env.cells.lookup x=some c->c≠b)/\∀p∈X.pn++pins,p.1≠b):Inv X pins σ H' s':=by
 obtain⟨h',g',d',t',o'⟩:=s';have e:o'=s.os:=ho;subst e;exact I.call (g':=g') (t':=t') (d':=d') u hok hg hch
end
abbrev XK:=LD->Option Addr->Hp->Prop
abbrev St:=List (Option V)
abbrev VK:=V->Hp->Prop
abbrev TE:=St->Hp->VK->Prop
abbrev TT:=St->Hp->(Bool->Hp->Prop)->Prop
abbrev TA:=St->Hp->(List V->Hp->Prop)->Prop
structure Ends where
 nx:St->Hp->Prop
 rt:VK
 bk:St->Hp->Prop:=fun _ _=>False
 ct:St->Hp->Prop:=fun _ _=>False
abbrev TS:=Ends->St->Hp->Prop
def EP(X:Cx)(pins:List (Addr×Obj))(σ:St)(Q:VK)(u:LD)(s':LG):Prop:=∃v H',Inv X pins σ H' s'/\RelV v u/\Q v H'
def TP(X:Cx)(pins:List (Addr×Obj))(σ:St)(Q:Bool->Hp->Prop)(b:Bool)(s':LG):Prop:=∃H',Inv X pins σ H' s'/\Q b H'
def AP(X:Cx)(pins:List (Addr×Obj))(σ:St)(Q:List V->Hp->Prop)(us:List LD)(s':LG):Prop:=∃vs H',Inv X pins σ H' s'/\Vals vs us/\Q vs H'
def SP(X:Cx)(pins:List (Addr×Obj))(D:Ends)(f:Flow)(s':LG):Prop:=
 match f with
 | .next=>∃σ' H',Inv X pins σ' H' s'/\D.nx σ' H'
 | .brk=>∃σ' H',Inv X pins σ' H' s'/\D.bk σ' H'
 | .cont=>∃σ' H',Inv X pins σ' H' s'/\D.ct σ' H'
 | .ret u=>∃v σ' H',Inv X pins σ' H' s'/\RelV v u/\D.rt v H'
def PE(X:Cx)(e:Expr)(t:TE):Prop:=
 ∀(pins:List (Addr×Obj))(s:LG)(σ:St)(H:Hp)(Q:VK),Inv X pins σ H s->t σ H Q->LO (Lz X.prog X.w) X.A (Mu e X.env) (EP X pins σ Q) X.xe s
def PT(X:Cx)(e:Expr)(t:TT):Prop:=
 ∀(pins:List (Addr×Obj))(s:LG)(σ:St)(H:Hp)(Q:Bool->Hp->Prop),Inv X pins σ H s->t σ H Q->LO (Lz X.prog X.w) X.A (isTrue e X.env (Mu e X.env)) (TP X pins σ Q) X.xe s
def PW(X:Cx)(e:Expr)(t:TT):Prop:=
 ∀(whole:Sem LD)(pins:List (Addr×Obj))(s:LG)(σ:St)(H:Hp)(Q:Bool->Hp->Prop),Inv X pins σ H s->t σ H Q->LO (Lz X.prog X.w) X.A (isTrue e X.env whole) (TP X pins σ Q) X.xe s
theorem PW.pt{X:Cx}{e:Expr}{t:TT}(h:PW X e t):PT X e t:=h _
def PA(X:Cx)(es:List Expr)(t:TA):Prop:=
 ∀(pos:Nf)(pins:List (Addr×Obj))(s:LG)(σ:St)(H:Hp)(Q:List V->Hp->Prop),Inv X pins σ H s->t σ H Q->LO (Lz X.prog X.w) X.A (spliced (Nj pos (Ls es X.env))) (AP X pins σ Q) X.xe s
def PS(X:Cx)(st:Stmt)(t:TS):Prop:=
 ∀(pins:List (Addr×Obj))(s:LG)(σ:St)(H:Hp)(D:Ends),Inv X pins σ H s->t D σ H->LO (Lz X.prog X.w) X.A (exec st X.env) (SP X pins D) X.xe s
def PSs(X:Cx)(st:List Stmt)(t:TS):Prop:=
 ∀(pins:List (Addr×Obj))(s:LG)(σ:St)(H:Hp)(D:Ends),Inv X pins σ H s->t D σ H->LO (Lz X.prog X.w) X.A (execs st X.env) (SP X pins D) X.xe s
theorem thn{α:Type}{t:Sem α}{Q Q':α->LG->Prop}{M:Model}{A:M3}{E:LD->LG->Prop}{s:LG}(h:LO M A t Q E s)(hQ:∀a s,Q a s->Q' a s):LO M A t Q' E s:=Mx h hQ fun _ _ x=>x
end L2
namespace L2
open PySem PySem.Spec PyProof.Rows
section
variable{X : Cx}
def Ke(i:Nat):TE:=fun σ H Q=>∃v,σ[i]?=some (some v)/\Q v H
def tC(v:V):TE:=fun _ H Q=>Q v H
theorem gI {i:Nat} {x:Str} {pos:Nf} (hN:X.N[i]?=some x) (hv:Vis X.env.scope x) (hd:(x == ("__debug__":Str))=false:=by decide) (hcd:(x == ("__classdict__":Str))=false:=by decide):PE X (.Name x pos) (Ke i):=by
 intro pins s σ H Q I h;obtain⟨v,e,h⟩:=h;obtain⟨m,hn,hl⟩:=I.loc;obtain⟨u,r,l⟩:=hl i x v hN e hv;have fin:EP X pins σ Q u s:=⟨v,H,I,r,h⟩;rcases l with⟨hk,hm⟩|⟨hk,c,hc,hcell⟩
 ·exact wpAny_Name (wpAny_loadName_local I.ok.kind hk hn hm fin) hd
 ·rcases hk with hk | hk
  ·exact wpAny_Name (wpAny_loadName_cell I.ok.kind hk hc hcell fin) hd
  ·exact wpAny_Name (wpAny_loadName_free I.ok.kind hk hc hcell fin hcd) hd
theorem B0{i j pos}:PE X (.Constant (.int i) j pos) (tC (.int i)):=fun _ _ _ H _ I h=>wpAny_Constant_int ⟨.int i,H,I.tok _,⟨_,rfl⟩,h⟩
theorem HZ{b j pos}:PE X (.Constant (.bool b) j pos) (tC (.bl b)):=fun _ _ _ H _ I h=>Constant_bool ⟨.bl b,H,I,rfl,h⟩
theorem F4{j pos}:PE X (.Constant .none j pos) (tC .non):=fun _ _ _ H _ I h=>Constant_none ⟨.non,H,I,rfl,h⟩
theorem lg{x j pos}:PE X (.Constant (.str x) j pos) (tC (.str x)):=fun _ _ _ H _ I h=>Calls.Constant_str ⟨.str x,H,I.tok _,⟨_,rfl⟩,h⟩
def Gl(X:Cx)(x:Str):Prop:=X.env.kindOf x=some .globalImplicit
theorem xh{E:LD->LG->Prop}{pins:List (Addr×Obj)}{s:LG}{σ:St}{H:Hp}{x:Str}{u:LD}{pos:Nf}{Q:LD->LG->Prop}(I:Inv X pins σ H s)(hg:Gl X x)(hm:X.mg x=some u)(h:Q u s)
  (hd:(x == ("__debug__":Str))=false:=by decide):LO (Lz X.prog X.w) X.A (Mu (.Name x pos) X.env) Q E s:=
 R4 I.ok.kind hg (Calls.loadGlobal_global (by rw[I.ok.glob];exact I.mod.glob.keeps I.bk) hm h) hd
theorem jl{E:LD->LG->Prop}{pins:List (Addr×Obj)}{s:LG}{σ:St}{H:Hp}{x:Str}{u:LD}{pos:Nf}{Q:LD->LG->Prop}(I:Inv X pins σ H s)(hg:Gl X x)(hm:X.mg x=none)(hv:N4 x=some u)(h:Q u s)
  (hn:x≠"__name__":=by decide) (hd:(x == ("__debug__":Str))=false:=by decide):LO (Lz X.prog X.w) X.A (Mu (.Name x pos) X.env) Q E s:=by
 obtain⟨mb,h1,h2⟩:=I.mod.blt;exact R4 I.ok.kind hg (Calls.loadGlobal_builtin (by rw[I.ok.glob];exact I.mod.glob.keeps I.bk) hm (by rw[I.ok.blt];exact h1.keeps I.bk) ((h2 x hn).trans hv) h) hd
theorem Cf {x:Str} {v:V} {u:LD} {pos:Nf} (hg:Gl X x) (hm:X.mg x=some u) (r:RelV v u) (hd:(x == ("__debug__":Str))=false:=by decide):PE X (.Name x pos) (tC v):=
 fun _ _ _ H _ I h=>xh I hg hm ⟨v,H,I,r,h⟩ hd
theorem Ci {x:Str} {v:V} {u:LD} {pos:Nf} (hg:Gl X x) (hm:X.mg x=none) (hv:N4 x=some u) (r:RelV v u) (hn:x≠"__name__":=by decide) (hd:(x == ("__debug__":Str))=false:=by decide):PE X (.Name x pos) (tC v):=
 fun _ _ _ H _ I h=>jl I hg hm hv ⟨v,H,I,r,h⟩ hn hd
variable{a b : Expr}{ta tb : TE}{pos : Nf}
def tB(t:TE):TT:=fun σ H Q=>t σ H fun x H1=>∃c,x=.bl c/\Q c H1
theorem ES{e:Expr}{t:TE}(h:PE X e t)(he:∀whole,isTrue e X.env whole=(do let v<- whole;standAt e.pos;T6 [v] (truthy v)):=by intro _;rfl):PT X e (tB t):=by
 intro pins s σ H Q I hw;refine isTrue_plain (thn (h pins s σ H _ I hw) fun v s1 ⟨x,H1,I1,r1,q1⟩=>?_) (he _);obtain⟨d,rfl,q⟩:=q1;cases r1;exact Me ⟨H1,I1,q⟩
variable{tA tB' : TT}{rest : List Expr}
def Kr(t u:TT):TT:=fun σ H Q=>t σ H fun c H1=>if c=true then u σ H1 Q else Q false H1
def tOr(t u:TT):TT:=fun σ H Q=>t σ H fun c H1=>if c=true then Q true H1 else u σ H1 Q
def Kl(t:TT):TT:=fun σ H Q=>t σ H fun c H1=>Q (!c) H1
theorem C5(ha:PT X a tA):PW X (.BoolOp .And [a] pos) tA:=by
 intro wh pins s σ H Q I h;refine isTrue_and (thn (ha pins s σ H Q I h) fun c s1 e=>?_);cases c with
 | true=>exact isTrue_and_nil e
 | false=>exact e
theorem EL(ha:PT X a tA):PW X (.BoolOp .Or [a] pos) tA:=by
 intro wh pins s σ H Q I h;refine isTrue_or (thn (ha pins s σ H Q I h) fun c s1 e=>?_);cases c with
 | false=>exact isTrue_or_nil e
 | true=>exact e
theorem ER(ha:PT X a tA)(hb:PW X (.BoolOp .And (b::rest) pos) tB'):PW X (.BoolOp .And (a::b::rest) pos) (Kr tA tB'):=by
 intro wh pins s σ H Q I h;refine isTrue_and (thn (ha pins s σ H _ I h) fun c s1 ⟨H1,I1,q1⟩=>?_);cases c with
 | true=>exact hb wh pins s1 σ H1 Q I1 q1
 | false=>exact⟨H1,I1,q1⟩
theorem HP(ha:PT X a tA)(hb:PW X (.BoolOp .Or (b::rest) pos) tB'):PW X (.BoolOp .Or (a::b::rest) pos) (tOr tA tB'):=by
 intro wh pins s σ H Q I h;refine isTrue_or (thn (ha pins s σ H _ I h) fun c s1 ⟨H1,I1,q1⟩=>?_);cases c with
 | true=>exact⟨H1,I1,q1⟩
 | false=>exact hb wh pins s1 σ H1 Q I1 q1
theorem AW(ha:PT X a tA):PT X (.UnaryOp .Not a pos) (Kl tA):=by
 intro pins s σ H Q I h;exact isTrue_not (ha pins s σ H (fun c H1=>Q (!c) H1) I h)
def HF(ta tb:TE):TE:=fun σ H Q=>ta σ H fun x H1=>∃c,x=.bl c/\if c=true then tb σ H1 Q else Q (.bl false) H1
def Kk(ta tb:TE):TE:=fun σ H Q=>ta σ H fun x H1=>∃c,x=.bl c/\if c=true then Q (.bl true) H1 else tb σ H1 Q
theorem F3{op}{t:TE}(h:PE X a t):PE X (.BoolOp op [a] pos) t:=fun pins s σ H Q I hw=>BoolOp_one (h pins s σ H Q I hw)
theorem F7(ha:PE X a ta)(hb:PE X (.BoolOp .And (b::rest) pos) tb):PE X (.BoolOp .And (a::b::rest) pos) (HF ta tb):=by
 intro pins s σ H Q I h;refine BoolOp_and (thn (ha pins s σ H _ I h) fun v s1 ⟨x,H1,I1,r1,q1⟩=>?_);obtain⟨c,rfl,q1⟩:=q1;cases r1;refine Me ?_;cases c with
 | true=>exact hb pins s1 σ H1 Q I1 q1
 | false=>exact⟨.bl false,H1,I1,rfl,q1⟩
theorem HW(ha:PE X a ta)(hb:PE X (.BoolOp .Or (b::rest) pos) tb):PE X (.BoolOp .Or (a::b::rest) pos) (Kk ta tb):=by
 intro pins s σ H Q I h;refine BoolOp_or (thn (ha pins s σ H _ I h) fun v s1 ⟨x,H1,I1,r1,q1⟩=>?_);obtain⟨c,rfl,q1⟩:=q1;cases r1;refine Me ?_;cases c with
 | false=>exact hb pins s1 σ H1 Q I1 q1
 | true=>exact⟨.bl true,H1,I1,rfl,q1⟩
def tIf(t:TT)(ta tb:TE):TE:=fun σ H Q=>t σ H fun c H1=>if c=true then ta σ H1 Q else tb σ H1 Q
theorem zw{c:Expr}(hc:PT X c tA)(ha:PE X a ta)(hb:PE X b tb):PE X (.IfExp c a b pos) (tIf tA ta tb):=by
 intro pins s σ H Q I h;refine wpAny_IfExp (thn (hc pins s σ H _ I h) fun d s1 ⟨H1,I1,q1⟩=>?_);cases d with
 | true=>exact ha pins s1 σ H1 Q I1 q1
 | false=>exact hb pins s1 σ H1 Q I1 q1
end
end L2
namespace L2
open PySem PySem.Spec PyProof.Rows
def SqL(K:LC)(H:Hp)(a:Addr)(xs:List V):Prop:=
 Rd H a (.lst xs) ∨
  ∃(o:Obj) (its:Array LD) (n:Nat),K.lookup a=some o/\o.cls=.type "list"/\o.dict=none/\o.data=.seq its n/\its.size<=sizeLine/\Vals xs its.toList
def SqT(K:LC)(H:Hp)(a:Addr)(xs:List V):Prop:=
 Rd H a (.tup xs) ∨
  ∃(o:Obj) (its:Array LD) (n:Nat),K.lookup a=some o/\o.cls=.type "tuple"/\o.data=.seq its n/\its.size<=sizeLine/\Vals xs its.toList/\o.dict=none
def L4:LD->Option V
 | .none=>some .non
 | .bool b=>some (.bl b)
 | .int i _=>some (.int i)
 | .str x _=>some (.str x)
 | .bytes b _=>some (.byt b)
 | .float b _=>some (.flt b)
 | .ref a=>some (.ref a)
 | .type n=>some (.ty n)
 | _=>none
theorem RelV.abs{x:V}{u:LD}(r:RelV x u):L4 u=some x:=by
 cases x with
 | non=>cases r;rfl
 | bl _=>cases r;rfl
 | int _=>obtain⟨t,rfl⟩:=r;rfl
 | str _=>obtain⟨t,rfl⟩:=r;rfl
 | byt _=>obtain⟨t,rfl⟩:=r;rfl
 | flt _=>obtain⟨t,rfl⟩:=r;rfl
 | ref _=>cases r;rfl
 | ty _=>cases r;rfl
theorem RelV.inj{x y:V}{u:LD}(r:RelV x u)(q:RelV y u):x=y:=MK (r.abs.symm.trans q.abs)
theorem Vals.inj:∀{xs ys:List V}{us:List LD},Vals xs us->Vals ys us->xs=ys
 | _,_,_,.nil,.nil=>rfl
 | _,_,_,.cons r t,.cons r' t'=>by rw[r.inj r',Vals.inj t t']
section
variable{X : Cx}{pins : List (Addr×Obj)}{σ : St}{H : Hp}{s : LG}{a : Addr}{xs ys : List V}
theorem SqL.of{K:LC}(h:H a=some (.lst xs)):SqL K H a xs:=.inl (.inl h)
theorem Inv.list(I:Inv X pins σ H s)(h:SqL X.K H a xs):∃its:List LD,Vals xs its/\PlainL s.heap a its.toArray/\xs.length<=sizeLine:=by
 rcases h with h | ⟨o,its,n,hk,hc,hd,hs,hz,r⟩
 ·obtain⟨z,its,n,r,e⟩:=h.ok I.hok
  exact⟨its,r,⟨_,n,e,rfl,rfl,rfl⟩,z⟩
 ·refine⟨its.toList,r,⟨o,n,I.kIn a o hk,hc,hd,by simpa using hs⟩,?_⟩
  have e:=r.length;simp only[M5] at e;omega
theorem Inv.tuple(I:Inv X pins σ H s)(h:SqT X.K H a xs):∃its:List LD,Vals xs its/\IsTup s.heap a its.toArray/\xs.length<=sizeLine:=by
 rcases h with h | ⟨o,its,n,hk,hc,hs,hz,r,hdn⟩
 ·obtain⟨z,its,r,p⟩:=h.ok I.hok
  exact⟨its,r,p.up,z⟩
 ·refine⟨its.toList,r,⟨o,I.kIn a o hk,hc,n,by simpa using hs⟩,?_⟩
  have e:=r.length;simp only[M5] at e;omega
theorem Inv.list_inj(I:Inv X pins σ H s)(h:SqL X.K H a xs)(h':SqL X.K H a ys):xs=ys:=by
 obtain⟨its,r,⟨o,n,e,_,_,d⟩,_⟩:=I.list h;obtain⟨its',r',⟨o',n',e',_,_,d'⟩,_⟩:=I.list h';rw[e] at e';cases e';rw[d] at d';injection d' with d1 _;have:its=its':=by simpa using congrArg Array.toList d1
 subst this;exact r.inj r'
theorem Inv.tuple_inj(I:Inv X pins σ H s)(h:SqT X.K H a xs)(h':SqT X.K H a ys):xs=ys:=by
 obtain⟨its,r,⟨o,e,_,n,d⟩,_⟩:=I.tuple h;obtain⟨its',r',⟨o',e',_,n',d'⟩,_⟩:=I.tuple h';rw[e] at e';cases e';rw[d] at d';injection d' with d1 _;have:its=its':=by simpa using congrArg Array.toList d1
 subst this;exact r.inj r'
end
abbrev Cx.wish(X:Cx)(E:LD->LG->Prop):Cx:={ X with xe:=E }
abbrev Cx.nox(X:Cx):Cx:=X.wish fun _ _=>False
theorem Cx.Ok.wish{X:Cx}(ok:X.Ok)(E:LD->LG->Prop):(X.wish E).Ok:=
 ⟨ok.mod,ok.kind,ok.glob,ok.blt,ok.above,ok.inj,ok.has,ok.cab,ok.hd,ok.frames,ok.stk,ok.exf,ok.bs,ok.bsz,ok.noex,ok.exfs,ok.funs,ok.frf⟩
theorem Cx.Ok.unwish{X:Cx}{E:LD->LG->Prop}(ok:(X.wish E).Ok):X.Ok:=
 ⟨ok.mod,ok.kind,ok.glob,ok.blt,ok.above,ok.inj,ok.has,ok.cab,ok.hd,ok.frames,ok.stk,ok.exf,ok.bs,ok.bsz,ok.noex,ok.exfs,ok.funs,ok.frf⟩
section
variable{X : Cx}{pins : List (Addr×Obj)}{σ : St}{H : Hp}{s : LG}{E : LD → LG → Prop}
theorem Inv.wish(I:Inv X pins σ H s)(E:LD->LG->Prop):Inv (X.wish E) pins σ H s:=⟨I.ok.wish E,I.os,I.bare,I.base,I.loc,I.cell,I.free,I.freeC,I.pin,I.hok,I.len⟩
theorem Inv.unwish(I:Inv (X.wish E) pins σ H s):Inv X pins σ H s:=⟨I.ok.unwish,I.os,I.bare,I.base,I.loc,I.cell,I.free,I.freeC,I.pin,I.hok,I.len⟩
theorem SP.unwish{D:Ends}{f:Flow}{s':LG}(h:SP (X.wish E) pins D f s'):SP X pins D f s':=by
 cases f with
 | next=>obtain⟨σ',H',I,q⟩:=h;exact⟨σ',H',I.unwish,q⟩
 | brk=>obtain⟨σ',H',I,q⟩:=h;exact⟨σ',H',I.unwish,q⟩
 | cont=>obtain⟨σ',H',I,q⟩:=h;exact⟨σ',H',I.unwish,q⟩
 | ret u=>obtain⟨v,σ',H',I,r,q⟩:=h;exact⟨v,σ',H',I.unwish,r,q⟩
theorem PSs.nox{st:List Stmt}{t:TS}(h:PSs X.nox st t):PSs X st t:=fun pins s σ H D I hw=>
 Mx (h pins s σ H D (I.wish _) hw) (fun _ _ q=>q.unwish) fun _ _ z=>LP z
end
section
variable{X : Cx}{st : Stmt}{rest : List Stmt}{t u : TS}{e : Expr}{te : TE}{pos : Nf}
def HA:TS:=fun D σ H=>D.nx σ H
def Ki(t u:TS):TS:=fun D σ H=>t { D with nx:=u D } σ H
theorem wq:PSs X [] HA:=fun _ _ σ H _ I h=>Rn ⟨σ,H,I,h⟩
theorem sr(h1:PS X st t)(h2:PSs X rest u):PSs X (st::rest) (Ki t u):=by
 intro pins s σ H D I h;refine wpAny_execs_cons (thn (h1 pins s σ H { D with nx:=u D } I h) fun f s1 q=>?_);cases f with
 | next=>
  obtain⟨σ',H',I',q⟩:=q;exact h2 pins s1 σ' H' D I' q
 | ret v=>exact q
 | brk=>exact q
 | cont=>exact q
theorem wo(h1:PS X st t):PSs X [st] t:=by
 intro pins s σ H D I h;refine wpAny_execs_cons (thn (h1 pins s σ H D I h) fun f s1 q=>?_);cases f with
 | next=>exact Rn q
 | ret v=>exact q
 | brk=>exact q
 | cont=>exact q
theorem Inv.quiet{pins:List (Addr×Obj)}{σ:St}{H:Hp}{s:LG}(I:Inv X pins σ H s):interactive X.env=false:=by simp[interactive,I.ok.kind]
def HB(te:TE):TS:=fun D σ H=>te σ H fun _ H1=>D.nx σ H1
theorem qS(he:PE X e te)(hs:OY e none pos.line X.env=pure false:=by rfl):PS X (.Expr e pos) (HB te):=by
 intro pins s σ H D I h;exact wpAny_Expr_any (thn (he pins s σ H _ I h) fun v s1 ⟨x,H1,I1,r1,q1⟩=>⟨σ,H1,I1,q1⟩) I.quiet hs
def Kj(te:TE):TS:=fun D σ H=>te σ H D.rt
theorem wu(he:PE X e te):PS X (.Return (some e) pos) (Kj te):=by
 intro pins s σ H D I h;exact wpAny_Return_some (thn (he pins s σ H _ I h) fun v s1 ⟨x,H1,I1,r1,q1⟩=>⟨x,σ,H1,I1,r1,q1⟩)
def Kn(c:TT)(t u:TS):TS:=fun D σ H=>c σ H fun b H1=>if b=true then t D σ H1 else u D σ H1
theorem EU{c:Expr}{a b:List Stmt}{tc:TT}(hc:PT X c tc)(ha:PSs X a t)(hb:PSs X b u):PS X (.If c a b pos) (Kn tc t u):=by
 intro pins s σ H D I h;refine wpAny_If (thn (hc pins s σ H _ I h) fun d s1 ⟨H1,I1,q1⟩=>?_);cases d with
 | true=>exact ha pins s1 σ H1 D I1 q1
 | false=>exact hb pins s1 σ H1 D I1 q1
end
abbrev TG:=V->St->Hp->(St->Hp->Prop)->Prop
abbrev TGs:=List V->St->Hp->(St->Hp->Prop)->Prop
def PG(X:Cx)(target:Expr)(t:TG):Prop:=
 ∀(pins:List (Addr×Obj))(s:LG)(σ:St)(H:Hp)(v:V)(u:LD)(Q:St->Hp->Prop),Inv X pins σ H s->RelV v u->t v σ H Q->
  LO (Lz X.prog X.w) X.A (QS target X.env u) (fun _ s'=>∃σ' H',Inv X pins σ' H' s'/\Q σ' H') X.xe s
def PGs(X:Cx)(ts:List Expr)(t:TGs):Prop:=
 ∀(pins:List (Addr×Obj))(s:LG)(σ:St)(H:Hp)(vs:List V)(us:List LD)(Q:St->Hp->Prop),Inv X pins σ H s->Vals vs us->t vs σ H Q->
  LO (Lz X.prog X.w) X.A (assignInOrder ((NI ts X.env).map (·.2)) us) (fun _ s'=>∃σ' H',Inv X pins σ' H' s'/\Q σ' H') X.xe s
abbrev L6:=V->V->V->Hp->(Hp->Prop)->Prop
section
variable{X : Cx}{pos : Nf}
def FY(i:Nat):TG:=fun v σ H Q=>Q (σ.set i (some v)) H
theorem qV{i:Nat}{x:Str}(hN:X.N.Nodup)(hi:X.N[i]?=some x)(hx:Loc X.env.scope x)(hf:X.fn x=true\/X.env.scope.names.lookup x=some .local:=by first | exact .inl rfl | exact .inr rfl | assumption):PG X (.Name x pos) (FY i):=by
 intro pins s σ H v u Q I r h;exact wpAny_assign_Name (rX I hN hi hx r (fun s' I'=>⟨_,H,I',h⟩) hf)
def KR:TGs:=fun vs σ H Q=>vs=[]/\Q σ H
def IW(t:TG)(u:TGs):TGs:=fun vs σ H Q=>∃v r,vs=v::r/\t v σ H fun σ' H'=>u r σ' H' Q
theorem wF:PGs X [] KR:=by
 intro pins s σ H vs us Q I r h;obtain⟨e,h⟩:=h;subst e;cases r;exact assignInOrder_nil ⟨σ,H,I,h⟩
theorem su{e:Expr}{es:List Expr}{t:TG}{u:TGs}(h1:PG X e t)(h2:PGs X es u)
  (hs:(NI (e::es) X.env).map (·.2)=QS e X.env::(NI es X.env).map (·.2):=by rfl):PGs X (e::es) (IW t u):=by
 intro pins s σ H vs us Q I r h;obtain⟨v,vr,e1,h⟩:=h;subst e1;cases r with
 | cons r rr=>
  rw[hs];refine assignInOrder_cons (thn (h1 pins s σ H _ _ _ I r h) fun _ s1 ⟨σ1,H1,I1,q1⟩=>?_);exact h2 pins s1 σ1 H1 _ _ Q I1 rr q1
def KP(K:LC)(n:Nat)(t:TGs):TG:=fun v σ H Q=>∃a xs,v=.ref a/\SqT K H a xs/\xs.length=n/\t xs σ H Q
theorem AZ{es:List Expr}{k:Nat}{t:TGs}{n:Nat}(hc:X.calm=true)(h:PGs X es t)
  (hn:(NI es X.env).length=n:=by rfl) (hst:(NI es X.env).findIdx? (·.1)=none:=by rfl):PG X (.Tuple es k pos) (KP X.K n t):=by
 intro pins s σ H v u Q I r hw;obtain⟨a,xs,e1,hq,hl,hw⟩:=hw;subst e1;cases r;obtain⟨its,rv,ht,hz⟩:=I.tuple hq;refine assign_Tuple_tuple (I.ok.hd hc) ht (by simp[hn,← hl,rv.length]) hst fun h' hx=>?_;have I1:Inv X pins σ H { s with heap:=h' }:=I.kept (t':=s.toks) fun b o e=>hx b o (Lo (LM e)) e;exact h pins _ σ H xs _ Q I1 (by simpa using rv) hw
def FW(to ti:TE)(t:L6):TG:=fun v σ H Q=>to σ H fun o H1=>ti σ H1 fun i H2=>t o i v H2 fun H3=>Q σ H3
def JI(te:TE)(g:TG):TS:=fun D σ H=>te σ H fun x H1=>g x σ H1 D.nx
theorem EX{tg e:Expr}{te:TE}{g:TG}(he:PE X e te)(hg:PG X tg g)(hs:swapsWithSole [tg] e pos.line X.env=pure false:=by rfl)(hw:swappedStores [tg] e X.env=pure none:=by rfl)
  (h1:(NI [tg] X.env).map (·.2)=[QS tg X.env]:=by rfl):PS X (.Assign [tg] e pos) (JI te g):=by
 intro pins s σ H D I h;refine wpAny_Assign_stores (thn (he pins s σ H _ I h) fun v s1 ⟨x,H1,I1,r1,q1⟩=>?_) hs hw;rw[h1];exact thn (hg pins s1 σ H1 x v _ I1 r1 q1) fun _ s2 q=>q
theorem wt{i:Nat}{x:Str}{e:Expr}{te:TE}{pos':Nf}(hN:X.N.Nodup)(hi:X.N[i]?=some x)(hx:Loc X.env.scope x)(he:PE X e te)(hs:OY e (some (.Name x pos')) pos.line X.env=pure false:=by rfl)(hf:X.fn x=true\/X.env.scope.names.lookup x=some .local:=by first | exact .inl rfl | exact .inr rfl | assumption) :
  PS X (.Assign [.Name x pos'] e pos) (JI te (FY i)):=by
 intro pins s σ H D I h;refine wpAny_Assign_Name (thn (he pins s σ H _ I h) fun v s1 ⟨y,H1,I1,r1,q1⟩=>?_) hs;exact rX I1 hN hi hx r1 (fun s2 I2=>⟨_,H1,I2,q1⟩) hf
end
structure It where
 go:Nat->Hp->Prop
 yld:Nat->Hp->V->Hp->Prop
 stop:Nat->Hp->Prop
def qG(X:Cx)(pins:List (Addr×Obj))(H:Hp)(b:Addr):Prop:=
 H b=none/\b≠X.env.locals/\b ∉ X.fs/\(b∈X.ex\/X.s₀.heap.objs.size<=b)/\(∀x c,X.env.cells.lookup x=some c->c≠b)/\∀p∈X.pn++pins,p.1≠b
theorem Inv.fpOk{X:Cx}{pins:List (Addr×Obj)}{σ:St}{H H':Hp}{s:LG}{b:Addr}(I:Inv X pins σ H s)(hb:s.heap.objs.size<=b)(hn:H' b=none):qG X pins H' b:=by
 refine⟨hn,ML (LK I.lt hb),I.nofs hb,.inr (MR I.sz hb),fun x c e z=>?_,fun p hp z=>?_⟩
 ·obtain⟨v,q⟩:=I.cell x c e
  exact absurd (LK q.lt (by rw[z];exact hb)) (Mk _)
 ·exact absurd (LK (LM (I.pin p hp).1) (by rw[z];exact hb)) (Mk _)
structure Turn(P:LY)(w:Ly)(K:LC)(tg:Expr)(J:It)(fp:List Addr)(it:Addr)(tn:Nat->Heap->Prop):Prop where
 mem:it∈fp
 obj:∀i h,tn i h->∀b∈fp,∃o,h.get? b=some o/\∀v,o.data≠.cell v
 keep:∀i h h',tn i h->(∀b∈fp,∀o,h.get? b=some o->h'.get? b=some o)->tn i h'
 item:∀(X:Cx),X.prog=P->X.w=w->X.K=K->X.calm=true->∀(i:Nat)(pins:List (Addr×Obj))(s:LG)(σ:St)(H:Hp)(E:LD->LG->Prop),Inv X pins σ H s->(∀b∈fp,qG X pins H b)->tn i s.heap->J.go i H->
  LO (Lz P w) X.A (Om (.ref it)) (fun r s1=>∃u,r=some u/\
   LO (Lz P w) X.A (QB tg (.ref it) u) (fun _ s2=>∃x H',Inv X pins σ H' s2/\RelV x u/\J.yld i H x H'/\tn (i+1) s2.heap/\∀b∈fp,H' b=none) E s1) E s
 done:∀(X:Cx),X.prog=P->X.w=w->X.K=K->X.calm=true->∀(i:Nat)(pins:List (Addr×Obj))(s:LG)(σ:St)(H:Hp)(E:LD->LG->Prop),Inv X pins σ H s->(∀b∈fp,qG X pins H b)->tn i s.heap->J.stop i H->
  LO (Lz P w) X.A (Om (.ref it)) (fun r s1=>r=none/\Inv X pins σ H s1) E s
 self:∀(A:M3)(i:Nat)(s:LG)(Q:LD->LG->Prop)(E:LD->LG->Prop),tn i s.heap->Q (.ref it) s->LO (Lz P w) A (T4 (.ref it)) Q E s
abbrev TI:=St->Hp->(It->Hp->Prop)->Prop
def PIE(X:Cx)(pins:List (Addr×Obj))(σ:St)(tg:Expr)(R:It->Hp->Prop)(itv:LD)(s2:LG):Prop:=
 ∃(it:Addr)(fp:List Addr)(tn:Nat->Heap->Prop)(J:It)(H':Hp),itv=.ref it/\Inv X pins σ H' s2/\Turn X.prog X.w X.K tg J fp it tn/\tn 0 s2.heap/\(∀b∈fp,qG X pins H' b)/\R J H'
def PI(X:Cx)(tg iter:Expr)(wi:TI):Prop:=
 ∀(pins:List (Addr×Obj))(s:LG)(σ:St)(H:Hp)(R:It->Hp->Prop),Inv X pins σ H s->wi σ H R->
  LO (Lz X.prog X.w) X.A (Mu iter X.env) (fun v s1=>LO (Lz X.prog X.w) X.A (T4 v) (PIE X pins σ tg R) X.xe s1) X.xe s
theorem xF{M:Model}{A:M3}{E:LD->LG->Prop}{s:LG}{tg:Expr}{it:Addr}{u:LD}{o:Obj}{n:String}{vs:Array LD}{Q:Unit->LG->Prop}(ho:s.heap.get? it=some o)(hc:o.cls=.type n)(hd:o.data=.fields vs)
    (hn:["enumerate","zip","dict_itemiterator","dict_reverseitemiterator","odict_iterator","itertools.zip_longest","itertools.pairwise"].contains n=false) (hQ:Q () s):LO M A (QB tg (.ref it) u) Q E s:=by
  unfold QB
  cases tg <;> first
    | exact LF hQ
    | (cases u <;> first
        | exact LF hQ
        | (refine LA (wpAny_load ho ?_)
           rw[hc,hd];show LO M A (if (["enumerate","zip","dict_itemiterator","dict_reverseitemiterator","odict_iterator","itertools.zip_longest","itertools.pairwise"].contains n && vs[0]? == some (OD _))=true then _ else _) Q E s;rw[if_neg (by intro h;rw[hn,O4] at h;cases h)];exact LF hQ))
def Itl(K:LC)(a:Addr):It:=
 ⟨fun i H=>∃xs x,SqL K H a xs/\xs[i]?=some x,fun i H x H'=>H'=H/\∀xs,SqL K H a xs->xs[i]?=some x,fun i H=>∃xs,SqL K H a xs/\xs.length<=i⟩
def Itt(K:LC)(a:Addr):It:=
 ⟨fun i H=>∃xs x,SqT K H a xs/\xs[i]?=some x,fun i H x H'=>H'=H/\∀xs,SqT K H a xs->xs[i]?=some x,fun i H=>∃xs,SqT K H a xs/\xs.length<=i⟩
def Itr(lo:Int)(n:Nat):It:=⟨fun i _=>i<n,fun i H x H'=>H'=H/\x=.int (lo+i),fun i _=>n<=i⟩
theorem oP{P:LY}{w:Ly}{K:LC}{tg:Expr}(a it:Addr):Turn P w K tg (Itl K a) [it] it (fun i h=>h.IsListIter it a i) where
 mem:=by simp
 obj:=fun i h st b hb=>by
  have e:b=it:=by simpa using hb
  subst e;obtain⟨o,e,c,d⟩:=st;exact⟨o,e,fun v z=>by rw[d] at z;cases z⟩
 keep:=fun i h h' st k=>st.at fun o e=>k it (by simp) o e
 item:=by
  intro X hP hw hK hc i pins s σ H E I hf st hg;subst hP hw hK;obtain⟨xs,x,hq,hx⟩:=hg;obtain⟨its,rv,p,hz⟩:=I.list hq;obtain⟨u,hu,ru⟩:=rv.get hx;obtain⟨f0,f1,f2,f3,f4,f5⟩:=hf it (by simp);refine wpAny_pyNext_list_item st p.isList (x:=u) (by simpa using hu) fun h' st' sb=>?_;have I1:Inv X pins σ H { s with heap:=h' }:=I.turned (t':=s.toks) (fun b o hb e=>(sb.2 b hb).trans e) f0 f1 f3 f4 f5;obtain⟨o,e,c,d⟩:=id st';exact⟨u,rfl,xF (s:={ s with heap:=h' }) e c d (by decide) ⟨x,H,I1,ru,⟨rfl,fun ys hy=>by rw[I.list_inj hy hq];exact hx⟩,st',fun b hb=>(hf b hb).1⟩⟩
 done:=by
  intro X hP hw hK hc i pins s σ H E I hf st hg;subst hP hw hK;obtain⟨xs,hq,hx⟩:=hg;obtain⟨its,rv,p,hz⟩:=I.list hq;obtain⟨f0,f1,f2,f3,f4,f5⟩:=hf it (by simp);have hl:=rv.length;exact wpAny_pyNext_list_end (I.ok.hd hc) st p.isList (by simp;omega) fun h' eb=>⟨rfl,I.turned (t':=s.toks) (fun b o hb e=>eb b o hb e) f0 f1 f3 f4 f5⟩
 self:=fun _ _ _ _ _ st h=>wpAny_pyIter_listiter st h
theorem tY{P:LY}{w:Ly}{K:LC}{tg:Expr}(a it:Addr):Turn P w K tg (Itt K a) [it] it (fun i h=>h.IsTupleIter it a i) where
 mem:=by simp
 obj:=fun i h st b hb=>by
  have e:b=it:=by simpa using hb
  subst e;obtain⟨o,e,c,d⟩:=st;exact⟨o,e,fun v z=>by rw[d] at z;cases z⟩
 keep:=fun i h h' st k=>st.at fun o e=>k it (by simp) o e
 item:=by
  intro X hP hw hK hc i pins s σ H E I hf st hg;subst hP hw hK;obtain⟨xs,x,hq,hx⟩:=hg;obtain⟨its,rv,p,hz⟩:=I.tuple hq;obtain⟨u,hu,ru⟩:=rv.get hx;obtain⟨f0,f1,f2,f3,f4,f5⟩:=hf it (by simp);refine wpAny_pyNext_tuple_item st (show s.heap.IsTuple a its.toArray from p) (x:=u) (by simpa using hu) fun h' st' sb=>?_;have I1:Inv X pins σ H { s with heap:=h' }:=I.turned (t':=s.toks) (fun b o hb e=>(sb.2 b hb).trans e) f0 f1 f3 f4 f5;obtain⟨o,e,c,d⟩:=id st';exact⟨u,rfl,xF (s:={ s with heap:=h' }) e c d (by decide) ⟨x,H,I1,ru,⟨rfl,fun ys hy=>by rw[I.tuple_inj hy hq];exact hx⟩,st',fun b hb=>(hf b hb).1⟩⟩
 done:=by
  intro X hP hw hK hc i pins s σ H E I hf st hg;subst hP hw hK;obtain⟨xs,hq,hx⟩:=hg;obtain⟨its,rv,p,hz⟩:=I.tuple hq;obtain⟨f0,f1,f2,f3,f4,f5⟩:=hf it (by simp);have hl:=rv.length;exact wpAny_pyNext_tuple_end (I.ok.hd hc) st (show s.heap.IsTuple a its.toArray from p) (by simp;omega) fun h' eb=>⟨rfl,I.turned (t':=s.toks) (fun b o hb e=>eb b o hb e) f0 f1 f3 f4 f5⟩
 self:=fun _ _ _ _ _ st h=>wpAny_pyIter_tupleiter st h
theorem ua{P:LY}{w:Ly}{K:LC}{tg:Expr}(it:Addr)(lo:Int)(n:Nat):Turn P w K tg (Itr lo n) [it] it (fun i h=>IsRangeIter h it (lo+(i:Nat) * 1) ((n:Int)-(i:Nat)) 1) where
 mem:=by simp
 obj:=fun i h st b hb=>by
  have e:b=it:=by simpa using hb
  subst e
  exact⟨_,st,fun v z=>by
   have z':Q4 _=PQ v:=z;cases z'⟩
 keep:=fun i h h' st k=>k it (by simp) _ st
 item:=by
  intro X hP hw hK hc i pins s σ H E I hf st hg;subst hP hw hK;obtain⟨f0,f1,f2,f3,f4,f5⟩:=hf it (by simp);have W:=Walks.range (prog:=X.prog) (w:=X.w) (I.ok.hd hc) it lo 1 n;refine W.item i s _ _ hg st fun v h' tk hv st' kk=>?_;obtain⟨t,rfl⟩:=hv;have I1:Inv X pins σ H { s with heap:=h',toks:=tk }:=I.turned (fun b o hb e=>kk b o (by simpa using hb) e) f0 f1 f3 f4 f5;refine⟨_,rfl,xF (s:={ s with heap:=h',toks:=tk }) (n:="range_iterator") st' rfl rfl (by decide) ⟨.int (lo+i),H,I1,⟨t,?_⟩,⟨rfl,rfl⟩,st',fun b hb=>(hf b hb).1⟩⟩;rw[Int.mul_one]
 done:=by
  intro X hP hw hK hc i pins s σ H E I hf st hg;subst hP hw hK;obtain⟨f0,f1,f2,f3,f4,f5⟩:=hf it (by simp);exact wpAny_pyNext_range_end (I.ok.hd hc) st (by have:n<=i:=hg;omega) fun h' eb=>⟨rfl,I.turned (t':=s.toks) (fun b o hb e=>eb b o hb e) f0 f1 f3 f4 f5⟩
 self:=fun _ _ _ _ _ st h=>wpAny_pyIter_rangeiter st h
end L2
namespace L2
open PySem PySem.Spec PyProof.Rows
section
variable{X : Cx}{tg : Expr}
theorem zk{pins:List (Addr×Obj)}{σ:St}{H:Hp}{s:LG}{R:It->Hp->Prop}{E:LD->LG->Prop}{lo hi:Int}{t u v:Sf}{tk:Nat}(I:Inv X pins σ H s)(h1:-(2 ^ 62)<=lo)(h2:lo<2 ^ 62)(h3:-(2 ^ 62)<=hi)(h4:hi<2 ^ 62)
  (q:R (Itr lo (hi-lo).toNat) H):LO (Lz X.prog X.w) X.A (T4 (.ref s.heap.objs.size)) (PIE X pins σ tg R) E { s with heap:=s.heap.push { cls:=.type "range",data:=.fields #[.int lo t,.int hi u,.int 1 v] },toks:=tk }:=by
 refine wpAny_pyIter_range (IsRange.new ..) (small_one h1 h2 h3 h4) ?_;have I1:Inv X pins σ H { s with heap:=s.heap.push { cls:=.type "range",data:=.fields #[.int lo t,.int hi u,.int 1 v] },toks:=tk }:=I.kept fun b o e=>LH _ e
 refine⟨(s.heap.push { cls:=.type "range",data:=.fields #[.int lo t,.int hi u,.int 1 v] }).objs.size,[(s.heap.push { cls:=.type "range",data:=.fields #[.int lo t,.int hi u,.int 1 v] }).objs.size],_,_,H,rfl,
  I1.kept (t':=tk) fun b o e=>LH _ e,ua _ lo (hi-lo).toNat,?_,fun b hb=>?_,q⟩
 ·have e1:lo+((0:Nat):Int) * 1=lo:=by simp
  have e2:(((hi-lo).toNat:Nat):Int)-((0:Nat):Int)=Builtin.Range.rangeSize lo hi 1:=by rw[rangeSize_one];split <;> omega
  show IsRangeIter _ _ (lo+((0:Nat):Int) * 1) ((((hi-lo).toNat:Nat):Int)-((0:Nat):Int)) 1;rw[e1,e2];exact LN _ rfl
 ·have e:b=(s.heap.push { cls:=.type "range",data:=.fields #[.int lo t,.int hi u,.int 1 v] }).objs.size:=by simpa using hb
  subst e;exact I1.fpOk (LZ _) (I1.hok.fresh (LZ _))
def IV(ta:TA):TI:=fun σ H R=>ta σ H fun vs H1=>∃j:Int,vs=[.int j]/\-(2 ^ 62)<=j/\j<2 ^ 62/\R (Itr 0 j.toNat) H1
theorem wD {a:Expr} {ta:TA} {p pos:Nf} (hg:Gl X "range") (hm:X.mg "range"=none) (ha:PA X [a] ta) (hs:Ls [a] X.env=[(false,Mu a X.env)]:=by rfl):PI X tg (.Call (.Name "range" p) [a] [] pos) (IV ta):=by
 intro pins s σ H R I h;refine Call_ (jl I hg hm boot_range (NF (thn (ha pos pins s σ H _ I h) fun us s1 ⟨vs,H1,I1,r1,q1⟩=>?_) hs rfl));obtain⟨j,e,q1,q2,q⟩:=q1;subst e;cases r1 with
 | cons r rr=>
  cases rr;obtain⟨t,rfl⟩:=r;exact call_range_1 (zk I1 (by omega) (by omega) q1 q2 (by simpa using q))
def Ko(wi:TI)(g:TG)(tb:TS):TS:=fun D σ H=>wi σ H fun J H1=>∃W:Nat->Nat->St->Hp->Prop,(∃m,W 0 m σ H1)/\∀i m σ H,W i m σ H->
 (J.stop i H/\D.nx σ H)\/(J.go i H/\∃N:St->Hp->Prop,(∀σ' H',N σ' H'->∃m',m'<m/\W (i+1) m' σ' H')/\∀x H',J.yld i H x H'->g x σ H' fun σ2 H2=>tb { D with nx:=N,ct:=N,bk:=D.nx } σ2 H2)
def mK(fp:List Addr)(h:Heap):List (Addr×Obj):=fp.filterMap fun b=>(h.get? b).map fun o=>(b,o)
theorem iq{fp:List Addr}{h:Heap}{b:Addr}{o:Obj}(hb:b∈fp)(e:h.get? b=some o):(b,o)∈mK fp h:=Sw.mpr ⟨b,hb,by rw[e];rfl⟩
theorem wN{fp:List Addr}{h:Heap}{p:Addr×Obj}(hp:p∈mK fp h):p.1∈fp/\h.get? p.1=some p.2:=by
 obtain⟨b,hb,e⟩:=Sw.mp hp;cases q:h.get? b with
 | none=>rw[q] at e;cases e
 | some o=>
  rw[q] at e;have e':(b,o)=p:=MK e;subst e';exact⟨hb,q⟩
theorem Inv.pinned{pins:List (Addr×Obj)}{σ:St}{H:Hp}{s:LG}{fp:List Addr}(I:Inv X pins σ H s)(hf:∀b∈fp,qG X pins H b)(ho:∀b∈fp,∃o,s.heap.get? b=some o/\∀v,o.data≠.cell v):Inv X (pins++mK fp s.heap) σ H s:=
 I.pins_of fun p hp=>(MA.mp hp).elim (fun z=>I.pin p (MP _ z)) fun z=>by
  obtain⟨hb,e⟩:=wN z;obtain⟨f0,f1,f2,_⟩:=hf p.1 hb;obtain⟨o,e',d⟩:=ho p.1 hb;rw[e] at e';cases e';exact⟨e,f0,f1,f2,d⟩
theorem Inv.unpinned{pins pl:List (Addr×Obj)}{σ:St}{H:Hp}{s:LG}(I:Inv X (pins++pl) σ H s):Inv X pins σ H s:=I.pins_of fun p hp=>I.pin p (MP _ (Oj _ hp))
theorem AX{iter:Expr}{body:List Stmt}{wi:TI}{g:TG}{tb:TS}{pos:Nf}(hp:PassesOwn (Lz X.prog X.w) X.A X.env X.xe)(hc:X.calm=true)(hi:PI X tg iter wi)(hg:PG X tg g)(hb:PSs X body tb)
  (hs:∀x,O8 iter X.env x=pure x:=by intro _;rfl):PS X (.For tg iter body [] pos) (Ko wi g tb):=by
 intro pins s σ H D I h;refine wpAny_For (thn (hi pins s σ H _ I h) fun v s1 h1=>thn h1 fun itv s2 h2=>?_) hs;obtain⟨it,fp,tn,J,H2,e,I2,T,st2,f2,W,⟨m0,w0⟩,turn⟩:=h2;subst e;have stat:∀{H':Hp},(∀b∈fp,H' b=none)->∀b∈fp,qG X pins H' b:=fun hn b hb=>⟨hn b hb,(f2 b hb).2⟩;refine codeAny_forLoop_any (fun n s'=>∃i σ' H',Inv X pins σ' H' s'/\tn i s'.heap/\(∀b∈fp,H' b=none)/\W i n σ' H') ?_ m0 ⟨0,σ,H2,I2,st2,fun b hb=>(f2 b hb).1,w0⟩;rintro n s3 ⟨i,σ3,H3,I3,st3,fr3,w3⟩;rcases turn i n σ3 H3 w3 with⟨stop,qn⟩|⟨go,N,hN,step⟩
 ·refine P4 hp (thn (T.done X rfl rfl rfl hc i pins s3 σ3 H3 X.xe I3 (stat fr3) st3 stop) fun r s4 ⟨hr,I4⟩=>?_)
  subst hr;exact Rn ⟨σ3,H3,I4,qn⟩
 ·refine P4 hp (thn (T.item X rfl rfl rfl hc i pins s3 σ3 H3 X.xe I3 (stat fr3) st3 go) fun r s4 ⟨u,hr,h4⟩=>?_)
  subst hr;refine P4 hp (thn h4 fun _ s5 ⟨x,H5,I5,r5,y5,st5,fr5⟩=>?_);have I5':=I5.pinned (stat fr5) (T.obj _ _ st5);refine P4 hp (thn (hg _ s5 σ3 H5 x u _ I5' r5 (step x H5 y5)) fun _ s6 ⟨σ6,H6,I6,q6⟩=>?_);refine P4 hp (thn (hb _ s6 σ6 H6 _ I6 q6) fun f s7 q7=>?_)
  have again:∀{σ7:St}{H7:Hp},Inv X (pins++mK fp s5.heap) σ7 H7 s7->N σ7 H7->∃m,m<n/\∃i σ' H',Inv X pins σ' H' s7/\tn i s7.heap/\(∀b∈fp,H' b=none)/\W i m σ' H':=fun {σ7 H7} I7 n7=>by
   obtain⟨m',hm,w7⟩:=hN σ7 H7 n7;refine⟨m',hm,i+1,σ7,H7,I7.unpinned,T.keep _ _ _ st5 fun b hb o e=>(I7.pin (b,o) (MP _ (MP _ (iq hb e)))).1,fun b hb=>?_,w7⟩;obtain⟨o,e,d⟩:=T.obj _ _ st5 b hb;exact(I7.pin (b,o) (MP _ (MP _ (iq hb e)))).2.1
  cases f with
  | next=>obtain⟨σ7,H7,I7,n7⟩:=q7;exact again I7 n7
  | cont=>obtain⟨σ7,H7,I7,n7⟩:=q7;exact again I7 n7
  | brk=>obtain⟨σ7,H7,I7,q7⟩:=q7;exact⟨σ7,H7,I7.unpinned,q7⟩
  | ret v=>obtain⟨x7,σ7,H7,I7,r7,q7⟩:=q7;exact⟨x7,σ7,H7,I7.unpinned,r7,q7⟩
end
end L2
namespace L2
open PySem PySem.Spec PyProof.Rows
abbrev R2:=V->V->Hp->VK->Prop
def OpR(X:Cx)(f:LD->LD->Sem LD)(r:R2):Prop:=
 ∀(pins:List (Addr×Obj))(s:LG)(σ:St)(H:Hp)(x y:V)(v u:LD)(Q:VK),Inv X pins σ H s->RelV x v->RelV y u->r x y H Q->
  LO (Lz X.prog X.w) X.A (f v u) (EP X pins σ Q) X.xe s
def UnR(X:Cx)(f:LD->Sem LD)(r:V->Hp->VK->Prop):Prop:=
 ∀(pins:List (Addr×Obj))(s:LG)(σ:St)(H:Hp)(x:V)(v:LD)(Q:VK),Inv X pins σ H s->RelV x v->r x H Q->
  LO (Lz X.prog X.w) X.A (f v) (EP X pins σ Q) X.xe s
def fU(X:Cx)(f:LD)(r:List V->Hp->VK->Prop):Prop:=
 ∀(pins:List (Addr×Obj))(s:LG)(σ:St)(H:Hp)(xs:List V)(us:List LD)(Q:VK),Inv X pins σ H s->Vals xs us->r xs H Q->
  LO (Lz X.prog X.w) X.A (call f us) (EP X pins σ Q) X.xe s
def K4(X:Cx)(r:V->Hp->(Bool->Hp->Prop)->Prop):Prop:=
 ∀(pins:List (Addr×Obj))(s:LG)(σ:St)(H:Hp)(x:V)(v:LD)(Q:Bool->Hp->Prop),Inv X pins σ H s->RelV x v->r x H Q->
  LO (Lz X.prog X.w) X.A (truthy v) (TP X pins σ Q) X.xe s
def tOp(r:R2)(ta tb:TE):TE:=fun σ H Q=>ta σ H fun x H1=>tb σ H1 fun y H2=>r x y H2 Q
def tUn(r:V->Hp->VK->Prop)(ta:TE):TE:=fun σ H Q=>ta σ H fun x H1=>r x H1 Q
def rI(C:Int->Int->Prop)(g:Int->Int->V):R2:=fun x y H Q=>∃i j,x=.int i/\y=.int j/\C i j/\Q (g i j) H
def rI0(g:Int->Int->V):R2:=fun x y H Q=>∃i j,x=.int i/\y=.int j/\Q (g i j) H
def rU(g:Int->V):V->Hp->VK->Prop:=fun x H Q=>∃i,x=.int i/\Q (g i) H
section
variable{X : Cx}{a b c : Expr}{ta tb tc : TE}{pos : Nf}
theorem Je(ha:PE X a ta)(hb:PE X b tb){pins:List (Addr×Obj)}{s:LG}{σ:St}{H:Hp}{R:V->V->Hp->Prop}(I:Inv X pins σ H s)
  (h:ta σ H fun x H1=>tb σ H1 fun y H2=>R x y H2) {Q:LD->LG->Prop} {f:LD->LD->Sem LD}
  (hf:∀v u s2 x y H2,Inv X pins σ H2 s2->RelV x v->RelV y u->R x y H2->LO (Lz X.prog X.w) X.A (f v u) Q X.xe s2) :
  LO (Lz X.prog X.w) X.A (Mu a X.env) (fun v s₁=>LO (Lz X.prog X.w) X.A (Mu b X.env) (fun u s₂=>LO (Lz X.prog X.w) X.A (f v u) Q X.xe s₂) X.xe s₁) X.xe s:=by
 refine thn (ha pins s σ H _ I h) fun v s1 ⟨x,H1,I1,r1,q1⟩=>?_;refine thn (hb pins s1 σ H1 _ I1 q1) fun u s2 ⟨y,H2,I2,r2,q2⟩=>?_;exact hf v u s2 x y H2 I2 r1 r2 q2
theorem HX{op:Operator}{r:R2}(ho:OpR X (Nz op) r)(ha:PE X a ta)(hb:PE X b tb):PE X (.BinOp a op b pos) (tOp r ta tb):=by
 intro pins s σ H Q I h;exact wpAny_BinOp (Je ha hb I h fun v u s2 x y H2 I2 rx ry q=>ho pins s2 σ H2 x y v u Q I2 rx ry q)
theorem HV{op:UnaryOp}{r:V->Hp->VK->Prop}(ho:UnR X (unaryOp op) r)(ha:PE X a ta):PE X (.UnaryOp op a pos) (tUn r ta):=by
 intro pins s σ H Q I h;exact UnaryOp_ (thn (ha pins s σ H _ I h) fun v s1 ⟨x,H1,I1,r1,q1⟩=>ho pins s1 σ H1 x v Q I1 r1 q1)
theorem opI{f:LD->LD->Sem LD}{C:Int->Int->Prop}{g:Int->Int->Int}
  (rule:∀(i j:Int)(t u:Sf)(s:LG)(Q:LD->LG->Prop)(E:LD->LG->Prop),C i j->Q (.int (g i j) s.toks) { s with toks:=s.toks+1 }->LO (Lz X.prog X.w) X.A (f (.int i t) (.int j u)) Q E s) :
  OpR X f (rI C fun i j=>.int (g i j)):=by
 intro pins s σ H x y v u Q I rx ry h;obtain⟨i,j,rfl,rfl,hc,q⟩:=h;obtain⟨t,rfl⟩:=rx;obtain⟨t',rfl⟩:=ry;exact rule i j t t' s _ _ hc ⟨.int (g i j),H,I.tok _,⟨_,rfl⟩,q⟩
theorem JK{f:LD->LD->Sem LD}{g:Int->Int->Int}
  (rule:∀(i j:Int)(t u:Sf)(s:LG)(Q:LD->LG->Prop)(E:LD->LG->Prop),Q (.int (g i j) s.toks) { s with toks:=s.toks+1 }->LO (Lz X.prog X.w) X.A (f (.int i t) (.int j u)) Q E s) :
  OpR X f (rI0 fun i j=>.int (g i j)):=by
 intro pins s σ H x y v u Q I rx ry h;obtain⟨i,j,rfl,rfl,q⟩:=h;obtain⟨t,rfl⟩:=rx;obtain⟨t',rfl⟩:=ry;exact rule i j t t' s _ _ ⟨.int (g i j),H,I.tok _,⟨_,rfl⟩,q⟩
theorem Ii{f:LD->LD->Sem LD}{g:Int->Int->Bool}
  (rule:∀(i j:Int)(t u:Sf)(s:LG)(Q:LD->LG->Prop)(E:LD->LG->Prop),Q (.bool (g i j)) s->LO (Lz X.prog X.w) X.A (f (.int i t) (.int j u)) Q E s) :
  OpR X f (rI0 fun i j=>.bl (g i j)):=by
 intro pins s σ H x y v u Q I rx ry h;obtain⟨i,j,rfl,rfl,q⟩:=h;obtain⟨t,rfl⟩:=rx;obtain⟨t',rfl⟩:=ry;exact rule i j t t' s _ _ ⟨.bl (g i j),H,I,rfl,q⟩
def L9(i j:Int):Prop:=0<j/\j<1073741824
def Ji(i j:Int):Prop:=(-(2 ^ 64)<i/\i<2 ^ 64)\/(-(2 ^ 64)<j/\j<2 ^ 64)
theorem Ji.ok{i j:Int}(h:Ji i j):IntMulOk i j:=by
 rcases h with⟨h1,h2⟩|⟨h1,h2⟩
 ·exact .of_left (intBits_le_64 h1 h2)
 ·exact .of_right (intBits_le_64 h1 h2)
theorem Fg:OpR X (Nz .Add) (rI0 fun i j=>.int (i+j)):=JK fun _ _ _ _ _ _ _ q=>add_int q
theorem F9:OpR X (Nz .Sub) (rI0 fun i j=>.int (i-j)):=JK fun _ _ _ _ _ _ _ q=>sub_int q
theorem Fc:OpR X (Nz .Mult) (rI Ji fun i j=>.int (i * j)):=opI fun _ _ _ _ _ _ _ hc q=>mul_int q hc.ok
theorem Co:OpR X (Nz .FloorDiv) (rI L9 fun i j=>.int (i / j)):=opI fun i j _ _ _ _ _ hc q=>by
 have h1:(0:Int)<j:=hc.1;have h2:j<1073741824:=hc.2;exact floordiv_int (by omega) (by rw[Int.fdiv_eq_ediv_of_nonneg i (by omega)];exact q) (.inl (PyProof.noPylong_small (by omega)))
theorem Fe:OpR X (Nz .Mod) (rI (fun _ j=>0<j) fun i j=>.int (i % j)):=opI fun i j _ _ _ _ _ hc q=>by
 have h1:(0:Int)<j:=hc;exact mod_int' (by omega) (by rw[Int.fmod_eq_emod_of_nonneg i (by omega)];exact q)
theorem unI{f:LD->Sem LD}{g:Int->Int}
  (rule:∀(i:Int)(t:Sf)(s:LG)(Q:LD->LG->Prop)(E:LD->LG->Prop),Q (.int (g i) s.toks) { s with toks:=s.toks+1 }->LO (Lz X.prog X.w) X.A (f (.int i t)) Q E s) :
  UnR X f (rU fun i=>.int (g i)):=by
 intro pins s σ H x v Q I rx h;obtain⟨i,rfl,q⟩:=h;obtain⟨t,rfl⟩:=rx;exact rule i t s _ _ ⟨.int (g i),H,I.tok _,⟨_,rfl⟩,q⟩
theorem Es:UnR X (unaryOp .USub) (rU fun i=>.int (-i)):=unI fun _ _ _ _ _ q=>neg_int q
end
def AO:V->V->Bool
 | .non,.non=>true | .non,.int _=>true | .int _,.non=>true | .non,.bl _=>true | .bl _,.non=>true | .non,.str _=>true | .str _,.non=>true
 | .int _,.int _=>true | .bl _,.bl _=>true | .str _,.str _=>true | .byt _,.byt _=>true
 | .int _,.str _=>true | .str _,.int _=>true | .bl _,.str _=>true | .str _,.bl _=>true
 | _,_=>false
def rEq:R2:=fun x y H Q=>AO x y=true/\Q (.bl (decide (x=y))) H
def rNe:R2:=fun x y H Q=>AO x y=true/\Q (.bl (!decide (x=y))) H
theorem ye{i j:Int}:decide (V.int i=V.int j)=(i == j):=by
 rw[Nc];simp
theorem Bj{i j:Bool}:decide (V.bl i=V.bl j)=(i == j):=by
 rw[Nc];simp
theorem yd{i j:Str}:decide (V.str i=V.str j)=(i == j):=by
 rw[Nc];simp
theorem yf{i j:Array UInt8}:decide (V.byt i=V.byt j)=(i.toList == j.toList):=by
 rw[Nc];cases i;cases j;simp
section
variable{X : Cx}{a b c : Expr}{ta tb tc : TE}{pos : Nf}
theorem b8{pins:List (Addr×Obj)}{σ:St}{H:Hp}{s:LG}{Q:VK}{k k':Bool}(I:Inv X pins σ H s)(q:Q (.bl k) H)(e:k=k'):EP X pins σ Q (.bool k') s:=by
 subst e;exact⟨.bl k,H,I,rfl,q⟩
theorem Ie:OpR X (MG .Eq) rEq:=by
 intro pins s σ H x y v u Q I rx ry h;obtain⟨hs,q⟩:=h;cases x with
 | non=>
  cases rx;cases y with
  | non=>cases ry;exact PySem.EqNone.eq_none_none (b8 I q (by simp))
  | bl j=>cases ry;exact PySem.EqNone.eq_none_bool (b8 I q (by simp))
  | int j=>obtain⟨t',rfl⟩:=ry;exact PySem.EqNone.eq_none_int (b8 I q (by simp))
  | str j=>obtain⟨t',rfl⟩:=ry;exact PySem.EqNone.eq_none_str (b8 I q (by simp))
  | _=>exact absurd (show false=true from hs) LX
 | bl i=>
  cases rx;cases y with
  | non=>cases ry;exact PySem.EqNone.eq_bool_none (b8 I q (by simp))
  | bl j=>cases ry;exact eq_bool (b8 I q Bj)
  | str j=>obtain⟨t',rfl⟩:=ry;exact PySem.EqMixed.eq_bool_str (b8 I q (by simp))
  | _=>exact absurd (show false=true from hs) LX
 | int i=>
  obtain⟨t,rfl⟩:=rx;cases y with
  | non=>cases ry;exact PySem.EqNone.eq_int_none (b8 I q (by simp))
  | int j=>obtain⟨t',rfl⟩:=ry;exact eq_int (b8 I q ye)
  | str j=>obtain⟨t',rfl⟩:=ry;exact PySem.EqMixed.eq_int_str (b8 I q (by simp))
  | _=>exact absurd (show false=true from hs) LX
 | str i=>
  obtain⟨t,rfl⟩:=rx;cases y with
  | non=>cases ry;exact PySem.EqNone.eq_str_none (b8 I q (by simp))
  | bl j=>cases ry;exact PySem.EqMixed.eq_str_bool (b8 I q (by simp))
  | int j=>obtain⟨t',rfl⟩:=ry;exact PySem.EqMixed.eq_str_int (b8 I q (by simp))
  | str j=>obtain⟨t',rfl⟩:=ry;exact eq_str (b8 I q yd)
  | _=>exact absurd (show false=true from hs) LX
 | byt i=>
  obtain⟨t,rfl⟩:=rx;cases y with
  | byt j=>obtain⟨t',rfl⟩:=ry;exact PySem.W.eq_bytes (b8 I q yf)
  | _=>exact absurd (show false=true from hs) LX
 | _=>cases y <;> exact absurd (show false=true from hs) LX
theorem I9:OpR X (MG .NotEq) rNe:=by
 intro pins s σ H x y v u Q I rx ry h;obtain⟨hs,q⟩:=h;cases x with
 | non=>
  cases rx;cases y with
  | non=>cases ry;exact PySem.EqNone.ne_none_none (b8 I q (by simp))
  | bl j=>cases ry;exact PySem.EqNone.ne_none_bool (b8 I q (by simp))
  | int j=>obtain⟨t',rfl⟩:=ry;exact PySem.EqNone.ne_none_int (b8 I q (by simp))
  | str j=>obtain⟨t',rfl⟩:=ry;exact PySem.EqNone.ne_none_str (b8 I q (by simp))
  | _=>exact absurd (show false=true from hs) LX
 | bl i=>
  cases rx;cases y with
  | non=>cases ry;exact PySem.EqNone.ne_bool_none (b8 I q (by simp))
  | bl j=>cases ry;exact ne_bool (b8 I q (congrArg not Bj))
  | str j=>obtain⟨t',rfl⟩:=ry;exact PySem.EqMixed.ne_bool_str (b8 I q (by simp))
  | _=>exact absurd (show false=true from hs) LX
 | int i=>
  obtain⟨t,rfl⟩:=rx;cases y with
  | non=>cases ry;exact PySem.EqNone.ne_int_none (b8 I q (by simp))
  | int j=>obtain⟨t',rfl⟩:=ry;exact ne_int (b8 I q (congrArg not ye))
  | str j=>obtain⟨t',rfl⟩:=ry;exact PySem.EqMixed.ne_int_str (b8 I q (by simp))
  | _=>exact absurd (show false=true from hs) LX
 | str i=>
  obtain⟨t,rfl⟩:=rx;cases y with
  | non=>cases ry;exact PySem.EqNone.ne_str_none (b8 I q (by simp))
  | bl j=>cases ry;exact PySem.EqMixed.ne_str_bool (b8 I q (by simp))
  | int j=>obtain⟨t',rfl⟩:=ry;exact PySem.EqMixed.ne_str_int (b8 I q (by simp))
  | str j=>obtain⟨t',rfl⟩:=ry;exact ne_str (b8 I q (congrArg not yd))
  | _=>exact absurd (show false=true from hs) LX
 | byt i=>
  obtain⟨t,rfl⟩:=rx;cases y with
  | byt j=>obtain⟨t',rfl⟩:=ry;exact PySem.W.ne_bytes (b8 I q (congrArg not yf))
  | _=>exact absurd (show false=true from hs) LX
 | _=>cases y <;> exact absurd (show false=true from hs) LX
theorem Ia:OpR X (MG .Lt) (rI0 fun i j=>.bl (decide (i<j))):=Ii fun _ _ _ _ _ _ _ q=>lt_int q
theorem Ib:OpR X (MG .LtE) (rI0 fun i j=>.bl (decide (i<=j))):=Ii fun _ _ _ _ _ _ _ q=>le_int q
theorem Ic:OpR X (MG .Gt) (rI0 fun i j=>.bl (decide (j<i))):=Ii fun _ _ _ _ _ _ _ q=>gt_int q
theorem wJ:OpR X (MG .Lt) (fun x y H Q=>∃i j,x=.str i/\y=.str j/\Q (.bl (decide (i.cps.toList<j.cps.toList))) H):=by
 intro pins s σ H x y v u Q I rx ry h;obtain⟨i,j,rfl,rfl,q⟩:=h;obtain⟨t,rfl⟩:=rx;obtain⟨t',rfl⟩:=ry;exact lt_str (b8 I q rfl)
theorem wK:OpR X (MG .In) (fun x y H Q=>∃i j,x=.str i/\y=.str j/\Q (.bl (!(Lx j i 0 j.length 1).isEmpty)) H):=by
 intro pins s σ H x y v u Q I rx ry h;obtain⟨i,j,rfl,rfl,q⟩:=h;obtain⟨t,rfl⟩:=rx;obtain⟨t',rfl⟩:=ry;exact in_str (b8 I q rfl)
theorem Ff:OpR X (MG .Is) (fun x y H Q=>y=.non/\Q (.bl (decide (x=.non))) H):=by
 intro pins s σ H x y v u Q I rx ry h;obtain⟨rfl,q⟩:=h;cases ry;refine is_none_gen (b8 I q ?_)
 cases x <;> first
  | (cases rx;rfl)
  | (obtain⟨t,rfl⟩:=rx;rfl)
theorem B5(b:Expr){op:SE}(h:op≠.In:=by decide)(h2:op≠.NotIn:=by decide):Oq op b=false:=by
 have e1:(op == CmpOp.In)=false:=by cases op <;> first | rfl | exact absurd rfl h
 have e2:(op == CmpOp.NotIn)=false:=by cases op <;> first | rfl | exact absurd rfl h2
 cases b <;> simp[Oq,e1,e2]
theorem Cg{op:SE}{r:R2}(ho:OpR X (MG op) r)(ha:PE X a ta)(hb:PE X b tb)(hm:Oq op b=false):PE X (.Compare a [op] [b] pos) (tOp r ta tb):=by
 intro pins s σ H Q I h;exact wpAny_Compare1 (Je ha hb I h fun v u s2 x y H2 I2 rx ry q=>ho pins s2 σ H2 x y v u Q I2 rx ry q) hm
def Et(t:TE):TT:=fun σ H Q=>t σ H fun x H'=>∃k,x=.bl k/\Q k H'
theorem C8{op:SE}{r:R2}(ho:OpR X (MG op) r)(ha:PE X a ta)(hb:PE X b tb)(hm:Oq op b=false):PT X (.Compare a [op] [b] pos) (Et (tOp r ta tb)):=by
 intro pins s σ H Q I h
 refine wpAny_isTrue_Compare1 (thn (ha pins s σ H _ I h) fun v s1 ⟨x,H1,I1,r1,q1⟩=>thn (hb pins s1 σ H1 _ I1 q1) fun u s2 ⟨y,H2,I2,r2,q2⟩=>
  thn (ho pins s2 σ H2 x y v u _ I2 r1 r2 q2) fun c s3 ⟨z,H3,I3,r3,k,e,q3⟩=>?_) hm
 subst e;cases r3;exact Me ⟨H3,I3,q3⟩
def AL(r r':R2)(ta tb tc:TE):TE:=fun σ H Q=>ta σ H fun x H1=>tb σ H1 fun y H2=>r x y H2 fun z H3=>∃k,z=.bl k/\
 (if k=true then tc σ H3 fun w' H4=>r' y w' H4 Q else Q (.bl false) H3)
theorem zy{op op':SE}{r r':R2}(ho:OpR X (MG op) r)(ho':OpR X (MG op') r')(ha:PE X a ta)(hb:PE X b tb)(hc:PE X c tc)
  (hm:So [op,op'] [b,c]=false:=by with_unfolding_all rfl):PE X (.Compare a [op,op'] [b,c] pos) (AL r r' ta tb tc):=by
 intro pins s σ H Q I h
 refine Compare_chain (thn (ha pins s σ H _ I h) fun v s1 ⟨x,H1,I1,r1,q1⟩=>chain_link (thn (hb pins s1 σ H1 _ I1 q1) fun u s2 ⟨y,H2,I2,r2,q2⟩=>
  thn (ho pins s2 σ H2 x y v u _ I2 r1 r2 q2) fun d s3 ⟨z,H3,I3,r3,k,e,q3⟩=>?_)) hm
 subst e;cases r3;refine Me ?_;cases k with
 | false=>exact ite_ff ⟨.bl false,H3,I3,rfl,q3⟩
 | true=>exact ite_tt (chain_last (thn (hc pins s3 σ H3 _ I3 q3) fun w' s4 ⟨z',H4,I4,r4,q4⟩=>ho' pins s4 σ H4 y z' u w' Q I4 r2 r4 q4))
theorem zq{op op':SE}{r r':R2}(ho:OpR X (MG op) r)(ho':OpR X (MG op') r')(ha:PE X a ta)(hb:PE X b tb)(hc:PE X c tc)
  (hm:So [op,op'] [b,c]=false:=by with_unfolding_all rfl):PT X (.Compare a [op,op'] [b,c] pos) (Et (AL r r' ta tb tc)):=by
 intro pins s σ H Q I h
 refine isTrue_chain (thn (ha pins s σ H _ I h) fun v s1 ⟨x,H1,I1,r1,q1⟩=>test_link (thn (hb pins s1 σ H1 _ I1 q1) fun u s2 ⟨y,H2,I2,r2,q2⟩=>
  thn (ho pins s2 σ H2 x y v u _ I2 r1 r2 q2) fun d s3 ⟨z,H3,I3,r3,k,e,q3⟩=>?_)) hm
 subst e;cases r3;refine Me ?_;cases k with
 | false=>
  obtain⟨k',e',q'⟩:=q3;cases e';exact ite_ff ⟨H3,I3,q'⟩
 | true=>
  refine ite_tt (test_last (thn (hc pins s3 σ H3 _ I3 q3) fun w' s4 ⟨z',H4,I4,r4,q4⟩=>thn (ho' pins s4 σ H4 y z' u w' _ I4 r2 r4 q4) fun d' s5 ⟨z2,H5,I5,r5,k2,e2,q5⟩=>?_));subst e2;cases r5;exact Me ⟨H5,I5,q5⟩
def L5(K:LC)(x:V)(H:Hp)(k:Bool):Prop:=
 match x with
 | .non=>k=false
 | .bl b=>k=b
 | .int i=>k=(i != 0)
 | .str y=>y.length<=sizeLine/\k=((y.length:Int) != 0)
 | .byt y=>y.size<=sizeLine/\k=((y.size:Int) != 0)
 | .ref p=>(∃xs,SqL K H p xs/\k=!xs.isEmpty)\/(∃xs,SqT K H p xs/\k=!xs.isEmpty)\/∃kvs,H p=some (.dK kvs)/\k=!kvs.isEmpty
 | _=>False
theorem mU{κ:Type}{kvs:List (κ×V)}{vs:List (κ×LD)}(r:KV kvs vs):(!vs.isEmpty)=!kvs.isEmpty:=by
 cases r <;> rfl
theorem mT{xs:List V}{its:List LD}(r:Vals xs its):(!its.toArray.isEmpty)=!xs.isEmpty:=by
 cases r <;> simp
theorem pW:(sizeLine:Nat)<2 ^ 63:=by rw[MJ];decide
theorem mB:K4 X (fun x H Q=>∃k,L5 X.K x H k/\Q k H):=by
 intro pins s σ H x v Q I rx h;obtain⟨k,e,q⟩:=h;have hl:=pW;have hs:sizeLine=16777216:=MJ;cases x with
 | non=>
  cases rx;have e':k=false:=e;subst e';exact truthy_none ⟨H,I,q⟩
 | bl b=>
  cases rx;have e':k=b:=e;subst e';exact Me ⟨H,I,q⟩
 | int i=>
  obtain⟨t,rfl⟩:=rx;have e':k=(i != 0):=e;subst e';exact PySem.P.truthy_int ⟨H,I,q⟩
 | str y=>
  obtain⟨t,rfl⟩:=rx;obtain⟨hy,e'⟩:y.length<=sizeLine/\k=((y.length:Int) != 0):=e;subst e';exact PySem.P.truthy_str (by omega) ⟨H,I.tok _,q⟩
 | byt y=>
  obtain⟨t,rfl⟩:=rx;obtain⟨hy,e'⟩:y.size<=sizeLine/\k=((y.size:Int) != 0):=e;subst e';exact PySem.W.truthy_bytes (by omega) ⟨H,I.tok _,q⟩
 | ref p=>
  cases rx;have e':(∃xs,SqL X.K H p xs/\k=!xs.isEmpty)\/(∃xs,SqT X.K H p xs/\k=!xs.isEmpty)\/∃kvs,H p=some (.dK kvs)/\k=!kvs.isEmpty:=e;rcases e' with⟨xs,hx,e'⟩|⟨xs,hx,e'⟩|⟨kvs,hx,e'⟩
  ·subst e'
   obtain⟨its,r,pl,hz⟩:=I.list hx;have hlen:=r.length;exact wpAny_truthy_list pl.isList (by simp only[M0];omega) ⟨H,I.tok _,by rw[mT r];exact q⟩
  ·subst e'
   obtain⟨its,r,pl,hz⟩:=I.tuple hx;have hlen:=r.length;exact truthy_tuple pl (by simp only[M0];omega) ⟨H,I.tok _,by rw[mT r];exact q⟩
  ·subst e'
   obtain⟨hz,hS,vs,r,m⟩:kvs.length<=sizeLine/\(p == Mb)=false/\∃vs,KV kvs vs/\s.heap.DictOf (aj X.prog X.w) p vs:=I.hok p _ hx;have hlen:kvs.length=vs.length:=MZ r;exact wpAny_truthy_dict hS m (by omega) ⟨H,I.tok _,by rw[mU r];exact q⟩
 | _=>exact(show False from e).elim
theorem uw:OpR X (Nz .Add) (fun x y H Q=>∃i j,x=.str i/\y=.str j/\i.length+j.length<=sizeLine/\Q (.str (i++j)) H):=by
 intro pins s σ H x y v u Q I rx ry h;obtain⟨i,j,rfl,rfl,hz,q⟩:=h;obtain⟨t,rfl⟩:=rx;obtain⟨t',rfl⟩:=ry;exact add_str (fun t' tk=>⟨.str (i++j),H,I.tok _,⟨_,rfl⟩,q⟩) hz
theorem vals1{x:V}{us:List LD}(r:Vals [x] us):∃u,us=[u]/\RelV x u:=by
 cases r with
 | cons r1 r2=>cases r2;exact⟨_,rfl,r1⟩
theorem vals2{x y:V}{us:List LD}(r:Vals [x,y] us):∃u w',us=[u,w']/\RelV x u/\RelV y w':=by
 cases r with
 | cons r1 r2=>
  cases r2 with
  | cons r3 r4=>cases r4;exact⟨_,_,rfl,r1,r3⟩
theorem qw:fU X (.type "int") (fun xs H Q=>(∃i,xs=[.int i]/\Q (.int i) H)\/∃k,xs=[.bl k]/\Q (.int (if k then 1 else 0)) H):=by
 intro pins s σ H xs us Q I r h;rcases h with⟨i,rfl,q⟩|⟨k,rfl,q⟩
 ·obtain⟨u,rfl,t,rfl⟩:=vals1 r
  exact call_int_int ⟨.int i,H,I,⟨_,rfl⟩,q⟩
 ·obtain⟨u,rfl,r1⟩:=vals1 r
  cases r1;exact call_int_bool ⟨.int (if k then 1 else 0),H,I.tok _,⟨_,rfl⟩,q⟩
theorem qv:fU X (.type "str") (fun xs H Q=>∃i,xs=[.int i]/\i.natAbs.log2<1920/\Q (.str (Pz i)) H):=by
 intro pins s σ H xs us Q I r h;obtain⟨i,rfl,hz,q⟩:=h;obtain⟨u,rfl,t,rfl⟩:=vals1 r;exact PySem.P.str_of_int hz ⟨.str _,H,I.tok _,⟨_,rfl⟩,q⟩
theorem Aw:fU X (.builtin "ord") (fun xs H Q=>∃x,xs=[.str x]/\x.length=1/\Q (.int (x.cps.getD 0 0:Nat)) H):=by
 intro pins s σ H xs us Q I r h;obtain⟨x,rfl,hz,q⟩:=h;obtain⟨u,rfl,t,rfl⟩:=vals1 r;exact ord_of_one hz ⟨.int _,H,I.tok _,⟨_,rfl⟩,q⟩
def L8(K:LC)(x:V)(H:Hp)(n:Nat):Prop:=
 match x with
 | .str y=>y.length<=sizeLine/\n=y.length
 | .byt y=>y.size<=sizeLine/\n=y.size
 | .ref p=>(∃xs,SqL K H p xs/\n=xs.length)\/∃xs,SqT K H p xs/\n=xs.length
 | _=>False
theorem oE:fU X (.builtin "len") (fun xs H Q=>∃x n,xs=[x]/\L8 X.K x H n/\Q (.int n) H):=by
 intro pins s σ H xs us Q I r h;obtain⟨x,n,rfl,e,q⟩:=h;obtain⟨u,rfl,rx⟩:=vals1 r;have hl:=pW;have hs:sizeLine=16777216:=MJ;cases x with
 | str y=>
  obtain⟨t,rfl⟩:=rx;obtain⟨hy,e'⟩:y.length<=sizeLine/\n=y.length:=e;subst e';exact len_str (by omega) ⟨.int _,H,I.tok _,⟨_,rfl⟩,q⟩
 | byt y=>
  obtain⟨t,rfl⟩:=rx;obtain⟨hy,e'⟩:y.size<=sizeLine/\n=y.size:=e;subst e';exact PySem.W.len_bytes (by omega) ⟨.int _,H,I.tok _,⟨_,rfl⟩,q⟩
 | ref p=>
  cases rx;have e':(∃xs,SqL X.K H p xs/\n=xs.length)\/∃xs,SqT X.K H p xs/\n=xs.length:=e;rcases e' with⟨xs,hx,e'⟩|⟨xs,hx,e'⟩
  ·subst e'
   obtain⟨its,r',pl,hz⟩:=I.list hx;have hlen:=r'.length;exact Calls.call_len_list pl.isList (by simp only[M0];omega) ⟨.int xs.length,H,I.tok _,⟨_,by simp only[M0];rw[hlen]⟩,q⟩
  ·subst e'
   obtain⟨its,r',pl,hz⟩:=I.tuple hx;have hlen:=r'.length;exact len_tuple pl (by simp only[M0];omega) ⟨.int xs.length,H,I.tok _,⟨_,by simp only[M0];rw[hlen]⟩,q⟩
 | _=>exact(show False from e).elim
end
end L2
namespace L2
open PySem PySem.Spec PyProof.Rows
def C7(f:Str)(v:V):List (Str×V)->List (Str×V)
 | []=>[(f,v)]
 | (g,x)::r=>if g=f then (g,v)::r else (g,x)::C7 f v r
theorem rS.some_of{v:V}{o:Option LD}(r:rS (some v) o):∃u,o=some u/\RelV v u:=by
 cases o with
 | none=>exact(show False from r).elim
 | some u=>exact⟨u,rfl,r⟩
theorem rS.none_of{o:Option LD}(r:rS none o):o=none:=by
 cases o with
 | none=>rfl
 | some u=>exact(show False from r).elim
structure Con(K:LC)(C:Addr)(f:Str)(v:V)(u:LD):Prop where
 at_:PySem.W.findIn K (.ref C) f=some (some u)
 rel:RelV v u
 get:PySem.W.specialIn K u "__get__"=some none
 cp:PySem.W.copiedNames.contains f=false
end L2
namespace L2
open PySem PySem.Spec PyProof.Rows
structure Room(k:Nat)(A:M3):Prop where
 hd:A.handled=none
 dp:A.depth+3 * k+5<recursionLimit
 un:A.units+16 * k+200<cLine
theorem Room.mono{j k:Nat}{A:M3}(r:Room k A)(h:j<=k):Room j A:=⟨r.hd,by have:=r.dp;omega,by have:=r.un;omega⟩
theorem Room.deeper{k:Nat}{A:M3}(r:Room (k+1) A)(env:Qo):Room k (A.deeper env):=
 ⟨r.hd,by have:=r.dp;show A.depth+1+3 * k+5<_;omega,by have:=r.un;show A.units+3+16 * k+200<_;omega⟩
theorem Room.depth{k:Nat}{A:M3}(r:Room k A):A.depth<recursionLimit:=by have:=r.dp;omega
theorem Room.units{k:Nat}{A:M3}(r:Room k A):A.units+64<cLine:=by have:=r.un;omega
def Hz:TA:=fun _ H Q=>Q [] H
def yS(ta:TE)(tr:TA):TA:=fun σ H Q=>ta σ H fun x H1=>tr σ H1 fun xs H2=>Q (x::xs) H2
section
variable{X : Cx}{e : Expr}{es : List Expr}{te : TE}{t : TA}{pos : Nf}
theorem iz:PA X [] Hz:=fun _ _ _ _ H Q I h=>QU ⟨[],H,I,.nil,h⟩
theorem cX(ha:PE X e te)(hr:PA X es t)(hs:Ls (e::es) X.env=(false,Mu e X.env)::Ls es X.env:=by rfl):PA X (e::es) (yS te t):=by
 intro pos pins s σ H Q I h;rw[hs];show LO _ _ (spliced ((false,Mu e X.env)::Nj pos (Ls es X.env))) _ _ s;refine QF (thn (ha pins s σ H _ I h) fun u s1 ⟨x,H1,I1,r1,q1⟩=>?_);exact thn (hr pos pins s1 σ H1 _ I1 q1) fun us s2 ⟨xs,H2,I2,r2,q2⟩=>⟨x::xs,H2,I2,.cons r1 r2,q2⟩
def Kf(t:TA):TE:=fun σ H Q=>t σ H fun xs H1=>xs.length<=sizeLine/\∀p,H1 p=none->Q (.ref p) (upd H1 p (.tup xs))
def Km(t:TA):TE:=fun σ H Q=>t σ H fun xs H1=>xs.length<=sizeLine/\∀p,H1 p=none->Q (.ref p) (upd H1 p (.lst xs))
theorem F2{x1}(h:PA X es t):PE X (.Tuple es x1 pos) (Kf t):=by
 intro pins s σ H Q I hq;refine wpAny_Tuple_spliced (thn (h pos pins s σ H _ I hq) fun us s1 ⟨xs,H1,I1,r,z,q⟩=>⟨by rw[← r.length];exact z,?_⟩);have hf:H1 s1.heap.objs.size=none:=I1.hok.fresh (LZ _);refine⟨.ref s1.heap.objs.size,upd H1 s1.heap.objs.size (.tup xs),I1.laid (t':=s1.toks) (fun b u e=>LH _ e) (LZ _) ?_,rfl,q _ hf⟩;exact⟨z,us,r,⟨_,LN _ rfl,rfl,⟨_,rfl⟩,fun _=>rfl⟩⟩
theorem F5(h:PA X es t):PE X (.List es pos) (Km t):=by
 intro pins s σ H Q I hq;refine wpAny_List_spliced (thn (h pos pins s σ H _ I hq) fun us s1 ⟨xs,H1,I1,r,z,q⟩=>⟨by rw[← r.length];exact z,?_⟩);have hf:H1 s1.heap.objs.size=none:=I1.hok.fresh (LZ _);refine⟨.ref s1.heap.objs.size,upd H1 s1.heap.objs.size (.lst xs),I1.laid (t':=s1.toks) (fun b u e=>LH _ e) (LZ _) ?_,rfl,q _ hf⟩;exact⟨z,us,0,r,LN _ rfl⟩
end
abbrev Sp:=List V->Hp->VK->XK->Prop
abbrev CXT:=List Qo->Hp->LG->XK->LD->LG->Prop
structure Env0(P:LY)(w:Ly)(K:LC)(mg:Str->Option LD)(base:Heap)(A:M3)(outer:List Qo)(s:LG)(H:Hp):Prop where
 frames:A.frames=some outer
 mod:Mod K mg base
 bs:∀b o,base.get? b=some o->s.heap.get? b=some o/\H b=none
 bsz:base.objs.size<=s.heap.objs.size
 funs:s.heap.FunFrames base outer
 frf:∀b∈frs outer,H b=none
 hok:HOk P w H s.heap
 bare:QA s.gens
def CE(outer:List Qo)(P:LY)(w:Ly)(H:Hp)(s:LG)(Q:VK)(u:LD)(s':LG):Prop:=
 ∃v H',s'.os=s.os/\QA s'.gens/\Un (frs outer) [] H H' s.heap s'.heap/\HOk P w H' s'.heap/\RelV v u/\Q v H'
def CR(CX:CXT)(outer:List Qo)(P:LY)(w:Ly)(H:Hp)(s:LG)(Q:VK)(E:XK)(r:TF)(s':LG):Prop:=
 match r with
 | .ok (.ret u)=>CE outer P w H s Q u s'
 | .ok _=>False
 | .error e=>CX outer H s E e s'
structure FnOk(P:LY)(w:Ly)(K:LC)(mg:Str->Option LD)(base:Heap)(CX:CXT)(k:Nat)(f:Addr)(fd:FuncData)(ps:List Str)(sp:Sp):Prop where
 len:∀vs H Q E,sp vs H Q E->vs.length=ps.length
 run:∀(A:M3)(outer:List Qo)(s:LG)(H:Hp)(args:Args)(us:List LD)(vs:List V)(Q:VK)(E:XK),Room k A->Env0 P w K mg base A outer s H->Ry s fd args (ps.zip us)->Vals vs us->sp vs H Q E->
  P9 (Lz P w) A (.call (.ref f) args) (CR CX outer P w H s Q E) s
section
variable{X : Cx}{pins : List (Addr×Obj)}{σ : St}{H : Hp}{s s' : LG}
theorem Inv.env0(I:Inv X pins σ H s):Env0 X.prog X.w X.K X.mg X.base X.A X.stack s H:=
 ⟨I.ok.frames,I.ok.mod,I.bs,MR I.ok.bsz I.sz,I.stack,I.stkFree,I.hok,I.bare⟩
theorem Inv.after{Q:VK}{u:LD}(I:Inv X pins σ H s)(h:CE X.stack X.prog X.w H s Q u s'):EP X pins σ Q u s':=by
 obtain⟨v,H',os,bare,un,hok,r,q⟩:=h;obtain⟨hh,g,d,t,os'⟩:=s';obtain rfl:os'=s.os:=os;exact⟨v,H',I.call (h':=hh) (g':=g) (d':=d) (t':=t) (ch:=[]) un hok bare (fun b z=>absurd z (by simp)),r,q⟩
end
def HE(sp:Sp)(dvs:List V)(E:XK)(t:TA):TE:=fun σ H Q=>t σ H fun vs H1=>sp (vs++dvs) H1 Q E
def Binds(K:LC)(fd:FuncData)(ps:List Str)(ds:List LD):Prop:=
 ∀(s:LG)(us:List LD),K.In s.heap->(us++ds).length=ps.length->Ry s fd ⟨us,[]⟩ (ps.zip (us++ds))
theorem Binds.all{K:LC}{fd:FuncData}{ps:List Str}(h:∀us:List LD,us.length=ps.length->bindArgs fd ⟨us,[]⟩=pure (ps.zip us)):Binds K fd ps []:=fun s us _ hl=>by
 rw[Mh] at hl ⊢;exact .of_eq (h us hl)
def Passes(CX:CXT)(X:Cx)(E:XK):Prop:=∀(pins:List (Addr×Obj))(σ:St)(H:Hp)(s:LG)(e:LD)(s':LG),Inv X pins σ H s->CX X.stack H s E e s'->X.xe e s'
section
variable{X : Cx}{CX : CXT}{k : Nat}{f C : Addr}{fd : FuncData}{ps : List Str}{sp : Sp}{dvs : List V}{ds : List LD}{E : XK}{x m : Str}{p pos apos : Nf}{e o : Expr}{es : List Expr}{ta : TE}{t : TA}
theorem EH{pins:List (Addr×Obj)}{σ:St}{H:Hp}{s:LG}{Q:VK}{us:List LD}{vs:List V}(F:FnOk X.prog X.w X.K X.mg X.base CX k f fd ps sp)(hr:Room k X.A)(hb:Binds X.K fd ps ds)(hd:Vals dvs ds)(hx:Passes CX X E)
  (I:Inv X pins σ H s) (r:Vals vs us) (h:sp (vs++dvs) H Q E):LO (Lz X.prog X.w) X.A (call (.ref f) us) (EP X pins σ Q) X.xe s:=by
 have r2:Vals (vs++dvs) (us++ds):=r.append hd;have hl:(us++ds).length=ps.length:=by rw[← r2.length];exact F.len _ _ _ _ h
 refine wpAny_call (Oe (F.run X.A X.stack s H ⟨us,[]⟩ (us++ds) (vs++dvs) Q E hr I.env0 (hb s us I.kIn hl) r2 h) fun r s' hq=>?_);cases r with
 | error e=>exact hx pins σ H s e s' I hq
 | ok fl=>
  cases fl with
  | ret u=>exact I.after hq
  | next=>exact LP hq
  | brk=>exact LP hq
  | cont=>exact LP hq
theorem qZ(F:FnOk X.prog X.w X.K X.mg X.base CX k f fd ps sp)(hr:Room k X.A)(hg:Gl X x)(hm:X.mg x=some (.ref f))(hk:NR X.K (.ref f)=true)(hb:Binds X.K fd ps ds)(hd:Vals dvs ds)(hx:Passes CX X E)
  (ha:PA X (e::es) t) (hdb:(x == ("__debug__":Str))=false:=by decide) (he:Ls (e::es) X.env=(false,Mu e X.env)::Ls es X.env:=by rfl) (hpl:(Nj pos (Ls es X.env)).any (·.1)=false:=by rfl) :
  PE X (.Call (.Name x p) (e::es) [] pos) (HE sp dvs E t):=by
 intro pins s σ H Q I h;refine Nv (xh I hg hm ?_ hdb);refine PySem.W.callWith_K (h₀:=X.base) I.ok.mod.kin hk (thn (ha pos pins s σ H _ I h) fun us s1 ⟨vs,H1,I1,r,q⟩=>⟨I1.kIn,?_⟩) he hpl;exact EH F hr hb hd hx I1 r q
end
def PK(X:Cx)(kws:List TK)(t:TA):Prop:=
 ∀(pos:Nf)(pins:List (Addr×Obj))(s:LG)(σ:St)(H:Hp)(Q:List V->Hp->Prop),Inv X pins σ H s->t σ H Q->LO (Lz X.prog X.w) X.A (evalAll ((PM pos (OE kws X.env)).map (·.2))) (AP X pins σ Q) X.xe s
section
variable{X : Cx}{CX : CXT}{k : Nat}{f C : Addr}{fd : FuncData}{ps ks : List Str}{sp : Sp}{E : XK}{x m : Str}{p pos apos kpos : Nf}{e o : Expr}{es : List Expr}{kws : List TK}{te ta : TE}{t tk : TA}{nm : Option Str}
theorem EY:PK X [] Hz:=fun _ _ _ _ H Q I h=>wpAny_evalAll_nil ⟨[],H,I,.nil,h⟩
theorem Cc(ha:PE X e te)(hr:PK X kws t):PK X (⟨nm,e,kpos⟩::kws) (yS te t):=by
 intro pos pins s σ H Q I h;show LO _ _ (evalAll ((do let v<- Mu e X.env;standAt pos;pure v)::(PM pos (OE kws X.env)).map (·.2))) _ _ s;refine wpAny_evalAll_cons (LA (thn (ha pins s σ H _ I h) fun u s1 ⟨x,H1,I1,r1,q1⟩=>LA (Qg (LF ?_))));exact thn (hr pos pins s1 σ H1 _ I1 q1) fun us s2 ⟨xs,H2,I2,r2,q2⟩=>⟨x::xs,H2,I2,.cons r1 r2,q2⟩
variable{g : List LD → List LD → List LD}{gV : List V → List V → List V}
end
structure FnScope(N P:List Str)(sc:Scope):Prop where
 kind:sc.kind=.function
 co:sc.isCoroutine=false
 gen:sc.isGenerator=false
 nd:N.Nodup
 pre:N.take P.length=P
 par:∀x∈P,sc.names.lookup x=some .local\/sc.names.lookup x=some .cell
 nofree:∀y∈sc.names,y.2≠.free
theorem qy{kindOf:Str->Option OS}{x:Str}:∀{binds:List (Str×LD)}{m:Str->Option LD},(∀v,(x,v) ∉ binds)->Sr kindOf binds m x=m x
 | [],_,_=>rfl
 | (n,v)::r,m,h=>by
  unfold Sr;rw[qy fun w hw=>h w (Lq _ hw)]
  split
  ·have:x≠n:=by rintro rfl;exact h v Lp
   simp[this]
  ·rfl
theorem qA{kindOf:Str->Option OS}{x:Str}:∀{binds:List (Str×LD)}{m:Str->Option LD},(∀v,(x,v) ∉ binds)->Ss kindOf binds m x=m x
 | [],_,_=>rfl
 | (n,v)::r,m,h=>by
  unfold Ss;rw[qA fun w hw=>h w (Lq _ hw)]
  split
  ·rfl
  ·have:x≠n:=by rintro rfl;exact h v Lp
   simp[this]
theorem qz{kindOf:Str->Option OS}{x:Str}{v:LD}:∀{P:List Str}{vs:List LD}{i:Nat}{m:Str->Option LD},P.Nodup->P[i]?=some x->vs[i]?=some v->kindOf x=some .local->
  Sr kindOf (P.zip vs) m x=some v
 | [],_,_,_,_,h,_,_=>by simp at h
 | _::_,[],_,_,_,_,h,_=>by simp at h
 | p::P,w::vs,0,m,nd,h1,h2,hk=>by
  simp at h1 h2;subst h1;subst h2;show Sr kindOf ((p,w)::P.zip vs) m p=_;unfold Sr;rw[qy fun v hv=>(M7.mp nd).1 (Pr hv).1,if_pos hk];simp
 | p::P,w::vs,i+1,m,nd,h1,h2,hk=>by
  show Sr kindOf ((p,w)::P.zip vs) m x=_;unfold Sr;exact qz (i:=i) (M7.mp nd).2 (by simpa using h1) (by simpa using h2) hk
theorem qB{kindOf:Str->Option OS}{x:Str}{v:LD}:∀{P:List Str}{vs:List LD}{i:Nat}{m:Str->Option LD},P.Nodup->P[i]?=some x->vs[i]?=some v->kindOf x≠some .local->
  Ss kindOf (P.zip vs) m x=some v
 | [],_,_,_,_,h,_,_=>by simp at h
 | _::_,[],_,_,_,_,h,_=>by simp at h
 | p::P,w::vs,0,m,nd,h1,h2,hk=>by
  simp at h1 h2;subst h1;subst h2;show Ss kindOf ((p,w)::P.zip vs) m p=_;unfold Ss;rw[qA fun v hv=>(M7.mp nd).1 (Pr hv).1,if_neg hk];simp
 | p::P,w::vs,i+1,m,nd,h1,h2,hk=>by
  show Ss kindOf ((p,w)::P.zip vs) m x=_;unfold Ss;exact qB (i:=i) (M7.mp nd).2 (by simpa using h1) (by simpa using h2) hk
def start(N:List Str)(vs:List V):St:=vs.map some++Mg (N.length-vs.length) none
def Ds(CX:CXT)(P:LY)(w:Ly)(K:LC)(mg:Str->Option LD)(base:Heap)(N:List Str)(qual:Str)(scope:Scope)(f:Addr)(cd:LD)(A:M3)(outer:List Qo)(s:LG)(H:Hp)(E:XK):Cx where
 prog:=P
 w:=w
 K:=K
 mg:=mg
 base:=base
 A:=A.deeper (Oh qual scope s.heap.objs.size f cd)
 N:=N
 s₀:=s
 H₀:=H
 env:=Oh qual scope s.heap.objs.size f cd
 outer:=outer
 stack:=Oh qual scope s.heap.objs.size f cd::outer
 ex:=[]
 calm:=true
 fn:=fun _=>true
 pn:=[]
 xe:=fun e s'=>LO (Lz P w) (A.deeper (Oh qual scope s.heap.objs.size f cd)) (leaving (Oh qual scope s.heap.objs.size f cd) e) (fun _ s''=>CX outer H s E e s'') (fun e' s''=>CX outer H s E e' s'') s'
theorem tE{sc:Scope}{n:Nat}{x:Str}(h:sc.names.lookup x=some .cell):∃c,(cellsFrom n sc.names []).lookup x=some c:=by
 have q:=RG sc.names n [] (.inl h);exact RA.mp q
theorem xB{CX:CXT}{P:LY}{w:Ly}{K:LC}{mg:Str->Option LD}{base:Heap}{N ps:List Str}{qual:Str}{scope:Scope}{f:Addr}{cd:LD}{A:M3}{outer:List Qo}{s s1:LG}{H:Hp}{E:XK}{us:List LD}{vs:List V}
  (S:FnScope N ps scope) (hd:A.handled=none) (e0:Env0 P w K mg base A outer s H) (hl:vs.length=ps.length) (r:Vals vs us)
  (x:InCallC s s.heap.objs.size (Sr (Oh qual scope s.heap.objs.size f cd).kindOf (ps.zip us) fun _=>none) (cellsFrom (s.heap.objs.size+1) scope.names []) (Ss (Oh qual scope s.heap.objs.size f cd).kindOf (ps.zip us) fun _=>none) s1) :
  Inv (Ds CX P w K mg base N qual scope f cd A outer s H E) [] (start N vs) H s1:=by
 have hpl:ps.length<=N.length:=by have:=congrArg NS S.pre;rw[MS] at this;omega
 obtain⟨h1,tk,rfl,hk⟩:=x.done;have noA:∀b:Addr,b ∉ (Ds CX P w K mg base N qual scope f cd A outer s H E).ex:=fun b z=>absurd (show b∈([]:List Addr) from z) (by simp)
 refine⟨⟨e0.mod,S.kind,rfl,rfl,LZ _,fun y z c h1 h2=>?_,fun y hy=>?_,fun y c _ h=>?_,fun _=>hd,Around.frames_deeper e0.frames,.inr ⟨rfl,rfl⟩,fun b z=>absurd z (noA b),e0.bs,e0.bsz,fun b _ _=>noA b,fun b z=>absurd z (noA b),e0.funs,e0.frf⟩,
  rfl,e0.bare,Un.kept hk,⟨_,x.toInCall.ns,fun i y v h1 h2 h3=>?_⟩,fun y c h=>⟨_,x.cell y c h⟩,e0.hok.fresh (LZ _),fun y c h=>?_,fun p hp=>absurd (show p∈([]:List (Addr×Obj)) from hp) (by simp),e0.hok.kept hk,?_⟩
 ·exact name_of_addr x.apart (Mt h1) (Mt h2)
 ·have hy:scope.names.lookup y=some .cell\/scope.names.lookup y=some .free:=hy
  rcases hy with hy | hy
  ·exact tE hy
  ·exact absurd rfl (S.nofree _ (Mt hy))
 ·exact Ow (x.above y c (Mt h))
 ·have hi:i<vs.length:=by
   unfold start at h2
   by_cases hi:i<vs.length
   ·exact hi
   ·rw[MX (by simpa using hi)] at h2
    rw[MW] at h2;split at h2 <;> cases h2
  have ha:vs[i]?=some v:=by
   unfold start at h2;rw[MI (by simpa using hi),LR] at h2;cases e:vs[i]? with
   | none=>rw[e] at h2;cases h2
   | some a=>rw[e] at h2;cases h2;rfl
  obtain⟨u,hu,rv⟩:=r.get ha
  have hp:ps[i]?=some y:=by
   rw[← S.pre,Rh (by omega)];exact h1
  have ndP:ps.Nodup:=by rw[← S.pre];exact S.nd.sublist (TN _ _)
  refine⟨u,rv,?_⟩;rcases S.par y (O3 hp) with k | k
  ·exact .inl ⟨k,qz ndP hp hu k⟩
  ·obtain⟨c,e⟩:=tE (n:=s.heap.objs.size+1) k
   refine .inr ⟨.inl k,c,e,?_⟩;have q:=x.cell y c e;rw[qB ndP hp hu (by show scope.names.lookup y≠_;rw[k];decide)] at q;exact q
 ·exact e0.hok.fresh (Ow (x.above y c (Mt h)))
 ·unfold start
  show _=N.length;rw[M1,LI,Py];omega
theorem J5{CX:CXT}{P:LY}{w:Ly}{K:LC}{mg:Str->Option LD}{base:Heap}{k:Nat}{f:Addr}{name qual:Str}{params:Arguments}{body:List Stmt}{scope:Scope}{dV kV doc pm cdv ct oc:LD}{an od:Option Addr}
  {osl:Array (Option LD)} {N ps:List Str} {sp:Sp} (lk:K.lookup f=some ⟨oc,od,.func (N7 name qual params body scope dV kV doc pm an cdv ct),osl⟩) (hcd:OP K cdv qual=true) (S:FnScope N ps scope)
  (len:∀vs H Q E,sp vs H Q E->vs.length=ps.length)
  (hbody:∀(A:M3)(outer:List Qo)(s:LG)(H:Hp)(vs:List V)(Q:VK)(E:XK),Room k (A.deeper (Oh qual scope s.heap.objs.size f cdv))->sp vs H Q E->
   ∃t,PSs (Ds CX P w K mg base N qual scope f cdv A outer s H E) body t/\t { nx:=fun _ H'=>Q .non H',rt:=Q } (start N vs) H) :
  FnOk P w K mg base CX (k+1) f (N7 name qual params body scope dV kV doc pm an cdv ct) ps sp:=by
 refine⟨len,fun A outer s H args us vs Q E hr e0 hb r hsp=>?_⟩;have hl:=len _ _ _ _ hsp;have KX:K.In s.heap:=e0.mod.kin.keeps fun b o e=>(e0.bs b o e).1;have lim:s.heap.NoLimit:=e0.mod.nolimit.keeps fun b o e=>(e0.bs b o e).1
 have hkind:∀y∈ps.zip us,scope.names.lookup y.1=some .local\/(scope.names.lookup y.1=some .cell/\((cellsFrom (s.heap.objs.size+1) scope.names []).lookup y.1).isSome=true):=fun ⟨n,v⟩ hy=>by
  rcases S.par n (Pr hy).1 with q | q
  ·exact .inl q
  ·exact .inr ⟨q,RG _ _ _ (.inl q)⟩
 refine codeAny_call_function hr.depth (KX _ _ lk) rfl S.co S.gen rfl (PySem.W.codeRec_of KX hcd) (hb _ _ _ _ ?_);refine wpAny_newFunctionEnv_cells S.kind hkind fun env he s1 x=>?_;subst he;refine⟨lim.keeps x.toInCall.keep,codeAny_func ?_⟩;obtain⟨t,ht,hq⟩:=hbody A outer s H vs Q E (hr.deeper _) hsp;have I:Inv (Ds CX P w K mg base N qual scope f cdv A outer s H E) [] (start N vs) H s1:=xB S hr.hd e0 hl r x;refine Mx (ht [] s1 (start N vs) H _ I hq) (fun fl s' hs=>?_) fun e s' hs=>hs
 have fin:∀{σ':St}{H':Hp}{v:V}{u:LD},Inv (Ds CX P w K mg base N qual scope f cdv A outer s H E) [] σ' H' s'->RelV v u->Q v H'->CE outer P w H s Q u s':=
  fun {σ' H' v u} J rv q=>⟨v,H',J.os,J.bare,J.base,J.hok,rv,q⟩
 cases fl with
 | ret u=>
  obtain⟨v,σ',H',J,rv,q⟩:=hs;exact fin J rv q
 | next=>
  obtain⟨σ',H',J,q⟩:=hs;exact fin (v:=V.non) (u:=Md) J rfl q
 | brk=>
  obtain⟨_,_,_,q⟩:=hs;exact LP q
 | cont=>
  obtain⟨_,_,_,q⟩:=hs;exact LP q
end L2
namespace L2
open PySem PySem.Spec PyProof.Rows
section
variable{X : Cx}{x : Str}{p pos : Nf}{e : Expr}{es : List Expr}{t : TA}{id T : String}{r : List V → Hp → VK → Prop}
def tCB(r:List V->Hp->VK->Prop)(t:TA):TE:=fun σ H Q=>t σ H fun vs H1=>r vs H1 Q
theorem sv (hc:fU X (.builtin id) r) (hg:Gl X x) (hm:X.mg x=none) (hv:N4 x=some (.builtin id)) (ha:PA X (e::es) t) (hn:x≠"__name__":=by decide) (hdb:(x == ("__debug__":Str))=false:=by decide)
  (he:Ls (e::es) X.env=(false,Mu e X.env)::Ls es X.env:=by rfl) (hpl:(Nj pos (Ls es X.env)).any (·.1)=false:=by rfl):PE X (.Call (.Name x p) (e::es) [] pos) (tCB r t):=by
 intro pins s σ H Q I h;refine Nv (jl I hg hm hv ?_ hn hdb);exact Q5 (thn (ha pos pins s σ H _ I h) fun us s1 ⟨vs,H1,I1,r1,q1⟩=>hc pins s1 σ H1 vs us Q I1 r1 q1) he hpl
theorem pG (hc:fU X (.type T) r) (hg:Gl X x) (hm:X.mg x=none) (hv:N4 x=some (.type T)) (ha:PA X (e::es) t) (hn:x≠"__name__":=by decide) (hdb:(x == ("__debug__":Str))=false:=by decide)
  (he:Ls (e::es) X.env=(false,Mu e X.env)::Ls es X.env:=by rfl) (hpl:(Nj pos (Ls es X.env)).any (·.1)=false:=by rfl):PE X (.Call (.Name x p) (e::es) [] pos) (tCB r t):=by
 intro pins s σ H Q I h;refine Nv (jl I hg hm hv ?_ hn hdb);exact NF (thn (ha pos pins s σ H _ I h) fun us s1 ⟨vs,H1,I1,r1,q1⟩=>hc pins s1 σ H1 vs us Q I1 r1 q1) he hpl
end
end L2
namespace HT
open PySem PyProof.Rows
section
variable{prog : LY}{w : Ly}{A : M3}{E : LD → LG → Prop}{s : LG}
def sIx(n d:Nat):Option Int->Nat
 | none=>d
 | some v=>if v<0 then (v+(n:Int)).toNat else Si v.toNat n
theorem sIx_nat(n d k:Nat):sIx n d (some (k:Int))=Si k n:=by
 show (if (k:Int)<0 then ((k:Int)+(n:Int)).toNat else Si (k:Int).toNat n)=Si k n;rw[if_neg (by omega),Qf]
theorem EF(n d:Nat)(hd:d<=n)(o:Option Int):sIx n d o<=n:=by
 cases o with
 | none=>exact hd
 | some v=>
  show (if v<0 then (v+(n:Int)).toNat else Si v.toNat n)<=n
  by_cases hv:v<0
  ·rw[if_pos hv];omega
  ·rw[if_neg hv];exact Nat.min_le_right _ _
theorem yn(v:Int)(n d:Nat):(if v<0 then max (v+(n:Int)) 0 else Si v (n:Int))=((sIx n d (some v):Nat):Int):=by
 show (if v<0 then max (v+(n:Int)) 0 else Si v (n:Int))=(((if v<0 then (v+(n:Int)).toNat else Si v.toNat n):Nat):Int)
 by_cases hv:v<0
 ·simp only[if_pos hv];omega
 ·simp only[if_neg hv];omega
theorem uZ(lo hi:Option Int)(n:Nat):Og lo hi 1 (n:Int)=(((sIx n 0 lo:Nat):Int),((sIx n n hi:Nat):Int)):=by
 have h1:¬ ((1:Int)<0):=by omega
 unfold Og;simp only[h1,if_false];refine Prod.ext ?_ ?_
 ·cases lo with
  | none=>rfl
  | some v=>exact yn v n 0
 ·cases hi with
  | none=>rfl
  | some v=>exact yn v n n
theorem uu(i j:Nat):Nn (i:Int) (j:Int) 1=j-i:=by
 unfold Nn;have h1:(1:Int) > 0:=by omega
 simp only[h1,if_true,Int.ediv_one]
 split <;> omega
theorem mG{v:LD}{o:Option Int}{Q:Option Int->LG->Prop}(p:RH v o)(h:Q o s):LO (Lz prog w) A (Builtin.Slice.slicePartIndex v) Q E s:=by
 cases p with
 | none=>exact slicePart_none h
 | int i t=>exact slicePart_int h
theorem km{sl:Addr}{vl vu:LD}{lo hi:Option Int}{n:Nat}{Q:Int×Int×Nat->LG->Prop}(hs:s.heap.IsSliceOf sl vl vu .none)(pl:RH vl lo)(pu:RH vu hi)
  (h:Q (((sIx n 0 lo:Nat):Int),1,sIx n n hi-sIx n 0 lo) s):LO (Lz prog w) A (QH (.ref sl) (pure (n:Int))) Q E s:=by
 obtain⟨os,hos,hcs,hds⟩:=id hs;unfold QH Builtin.Slice.sliceFields;refine LA (LA (Mz hos hds (x:=vl) rfl (LA (Mz hos hds (x:=vu) rfl (LA (Mz hos hds (x:=.none) rfl (LF ?_)))))));refine LA (slicePart_none ?_);show LO _ _ (if ((1:Int) == 0)=true then _ else _) _ _ s;rw[if_neg (by decide)];refine LA (mG pl (LA (mG pu (LA (LF ?_)))));show LO _ _ (match Og lo hi 1 (n:Int) with | (lo,hi)=>pure (lo,(1:Int),Nn lo hi 1)) _ _ s;rw[uZ lo hi n];show LO _ _ (pure (((sIx n 0 lo:Nat):Int),(1:Int),Nn ((sIx n 0 lo:Nat):Int) ((sIx n n hi:Nat):Int) 1)) _ _ s;rw[uu];exact LF h
theorem zt(xs:Array LD)(i k:Nat):((M9 k).filterMap fun (m:Nat)=>xs[((i:Int)+(m:Int) * 1).toNat]?).toArray=((xs.toList.drop i).take k).toArray:=by
 have e:(fun (m:Nat)=>xs[((i:Int)+(m:Int) * 1).toNat]?)=fun m=>xs[i+m]?:=by
  funext m
  have:((i:Int)+(m:Int) * 1).toNat=i+m:=by omega
  rw[this]
 rw[e];have:=pick_run xs i k;rw[List.filterMap_map] at this;have e2:((fun x=>xs[x]?) ∘ fun x=>i+x)=fun m=>xs[i+m]?:=rfl;rw[e2] at this;rw[this]
theorem getItem_tuple_cut{t sl:Addr}{items:Array LD}{vl vu:LD}{lo hi:Option Int}{Q:LD->LG->Prop}(ht:IsTup s.heap t items)(hs:s.heap.IsSliceOf sl vl vu .none)(pl:RH vl lo)(pu:RH vu hi)
  (hw:¬ (sIx items.size 0 lo=0/\sIx items.size items.size hi=items.size))
  (h:Q (.ref s.heap.objs.size) { s with heap:=s.heap.push { cls:=.type "tuple",data:=.seq ((items.toList.drop (sIx items.size 0 lo)).take (sIx items.size items.size hi-sIx items.size 0 lo)).toArray } })
  (hsz:items.size<=sizeLine):LO (Lz prog w) A (QX (.ref t) (.ref sl)) Q E s:=by
 have htake:sizeOk (.seq ((items.toList.drop (sIx items.size 0 lo)).take (sIx items.size items.size hi-sIx items.size 0 lo)).toArray):=by
  show ((items.toList.drop (sIx items.size 0 lo)).take (sIx items.size items.size hi-sIx items.size 0 lo)).toArray.size<=sizeLine;rw[M0,MS,O9,M5];omega
 have hj:sIx items.size items.size hi<=items.size:=EF _ _ (LZ _) hi;obtain⟨os,hos,hcs,hds⟩:=id hs;have hTs:s.TypeIs (.ref sl) "slice":=⟨os,hos,hcs⟩;unfold QX
 try with_reducible refine N3 ?_
 first | refine LA (LF ?_) | skip
 refine LA (wpAny_sequenceKey ht.typeIs (by decide) ?_)
 refine LA (Ma (name:=LB "__getitem__") ht.typeIs OH
  (MF OH ht.typeIs entry_tuple_getitem ?_ (args_tuple_getitem _ _)))
 show LO _ _ (QG (.ref t) >>= _) _ _ s;refine LA (tupleItemsOf_ ht ?_);refine LA (Q7 hTs ?_);rw[if_pos (by decide)];refine LA (km hs pl pu ?_)
 have hno:¬ ((((sIx items.size 0 lo:Nat):Int) == 0 && (1:Int) == 1 && (sIx items.size items.size hi-sIx items.size 0 lo) == items.size)=true):=by
  intro q;rw[M6,M6] at q;have q1:((sIx items.size 0 lo:Nat):Int)=0:=RO q.1.1;have q2:sIx items.size items.size hi-sIx items.size 0 lo=items.size:=RO q.2;exact hw ⟨by omega,by omega⟩
 show LO _ _ (if (((sIx items.size 0 lo:Nat):Int) == 0 && (1:Int) == 1 && (sIx items.size items.size hi-sIx items.size 0 lo) == items.size)=true then _ else _) _ _ s;rw[if_neg hno,zt]
 first
  | exact LA (m:=Nw _) (MO (LF ⟨_,rfl,LF h⟩) htake)
  | exact LA (m:=Nw _) (MO (LA (LF (LF ⟨_,rfl,LF h⟩))) htake)
  | exact LA (LA (m:=Nw _) (MO (LF (LF ⟨_,rfl,LF h⟩)) htake))
  | exact LA (LA (m:=Nw _) (MO (LF ⟨_,rfl,LF h⟩) htake))
end
end HT
namespace L2
open PySem PySem.Spec PyProof.Rows
abbrev TO:=St->Hp->(Option Int->Hp->Prop)->Prop
def PO(X:Cx)(e:Option Expr)(t:TO):Prop:=
 ∀(pins:List (Addr×Obj))(s:LG)(σ:St)(H:Hp)(Q:Option Int->Hp->Prop),Inv X pins σ H s->t σ H Q->
  LO (Lz X.prog X.w) X.A (evalPart e X.env) (fun u s'=>∃o H',Inv X pins σ H' s'/\RH u o/\Q o H') X.xe s
def BI:TO:=fun _ H Q=>Q none H
def Hy(t:TE):TO:=fun σ H Q=>t σ H fun x H1=>∃i,x=.int i/\Q (some i) H1
section
variable{X : Cx}{e : Expr}{te : TE}{lo hi : Option Expr}{tl th : TO}{pos p2 : Nf}
theorem Ca:PO X none BI:=by
 intro pins s σ H Q I h;rw[evalPart_none];exact LF ⟨none,H,I,.none,h⟩
theorem C9(h:PE X e te):PO X (some e) (Hy te):=by
 intro pins s σ H Q I hw;rw[evalPart_some];refine thn (h pins s σ H _ I hw) fun u s1 ⟨x,H1,I1,r1,q1⟩=>?_;obtain⟨i,rfl,q⟩:=q1;obtain⟨t,rfl⟩:=r1;exact⟨some i,H1,I1,.int i t,q⟩
def SlR(X:Cx)(r:V->Option Int->Option Int->Hp->VK->Prop):Prop:=
 ∀(pins:List (Addr×Obj))(s:LG)(σ:St)(H:Hp)(x:V)(v vl vu:LD)(lo hi:Option Int)(sl:Addr)(Q:VK),Inv X pins σ H s->RelV x v->s.heap.IsSliceOf sl vl vu .none->RH vl lo->RH vu hi->r x lo hi H Q->
  ∃T id,typeLookup (.type T) "__getitem__"=pure (some (.builtin id))/\s.TypeIs v T/\LO (Lz X.prog X.w) X.A (QX v (.ref sl)) (EP X pins σ Q) X.xe s
def tSl(r:V->Option Int->Option Int->Hp->VK->Prop)(te:TE)(tl th:TO):TE:=fun σ H Q=>te σ H fun x H1=>tl σ H1 fun l H2=>th σ H2 fun u H3=>r x l u H3 Q
theorem zv{r:V->Option Int->Option Int->Hp->VK->Prop}(hr:SlR X r)(he:PE X e te)(hl:PO X lo tl)(hu:PO X hi th):PE X (.Subscript e (.Slice lo hi none p2) pos) (tSl r te tl th):=by
 intro pins s σ H Q I h;refine Subscript_ (thn (he pins s σ H _ I h) fun v s1 ⟨x,H1,I1,r1,q1⟩=>?_);refine wpAny_Slice (thn (hl pins s1 σ H1 _ I1 q1) fun vl s2 ⟨l,H2,I2,pl,q2⟩=>thn (hu pins s2 σ H2 _ I2 q2) fun vu s3 ⟨u,H3,I3,pu,q3⟩=>?_);rw[evalPart_none];refine LF ?_;have I4:Inv X pins σ H3 { s3 with heap:=s3.heap.push { cls:=.type "slice",data:=.fields #[vl,vu,.none] } }:=I3.kept (t':=s3.toks) fun b ob q=>LH _ q;obtain⟨T,id,hT,ht,hg⟩:=hr pins { s3 with heap:=s3.heap.push { cls:=.type "slice",data:=.fields #[vl,vu,.none] } } σ H3 x v vl vu l u s3.heap.objs.size Q I4 r1 (Heap.IsSliceOf.new ..) pl pu q3;show LO (Lz X.prog X.w) X.A (Sh e (.Slice lo hi none p2) v (.ref s3.heap.objs.size)) (EP X pins σ Q) X.xe { s3 with heap:=s3.heap.push { cls:=.type "slice",data:=.fields #[vl,vu,.none] } };exact tail_any (ops:=[.ref s3.heap.objs.size,v]) ht hT hg (by with_unfolding_all rfl)
def Ar(xs:List V)(lo hi:Option Int):List V:=(xs.drop (HT.sIx xs.length 0 lo)).take (HT.sIx xs.length xs.length hi-HT.sIx xs.length 0 lo)
theorem lX(xs:List V)(lo hi:Option Int):(Ar xs lo hi).length<=xs.length:=by
 unfold Ar;rw[MS,O9];omega
def Ku(K:LC):V->Option Int->Option Int->Hp->VK->Prop:=fun x lo hi H Q=>∃a xs,x=.ref a/\SqT K H a xs/\
 ¬ (HT.sIx xs.length 0 lo=0/\HT.sIx xs.length xs.length hi=xs.length)/\∀p,H p=none->Q (.ref p) (upd H p (.tup (Ar xs lo hi)))
theorem Ez:SlR X (Ku X.K):=by
 intro pins s σ H x v vl vu lo hi sl Q I rx hs pl pu h;obtain⟨a,xs,rfl,hx,hw,q⟩:=h;cases rx;obtain⟨its,r,ht,hz⟩:=I.tuple hx;have hlen:its.toArray.size=xs.length:=by rw[M0];exact r.length.symm
 refine⟨"tuple",_,OH.lookup,ht.typeIs,?_⟩;refine HT.getItem_tuple_cut ht hs pl pu (by rw[hlen];exact hw) ?_ (by rw[hlen];exact hz);rw[hlen];refine⟨.ref s.heap.objs.size,_,I.laid (t':=s.toks) (o:=.tup (Ar xs lo hi)) (fun b ob q=>LH _ q) (LZ _) ?_,rfl,q _ (I.hok.fresh (LZ _))⟩;exact⟨MR (lX xs lo hi) hz,_,(r.drop (HT.sIx xs.length 0 lo)).take (HT.sIx xs.length xs.length hi-HT.sIx xs.length 0 lo),AE.new _ _⟩
end
end L2
namespace L2
open PySem PySem.Spec PyProof.Rows
def ixN(n:Nat)(i:Int):Option Nat:=if 0<=i then (if i<n then some i.toNat else none) else if -(n:Int)<=i then some (i+n).toNat else none
def atI{α:Type}(xs:List α)(i:Int):Option α:=(ixN xs.length i).bind fun j=>xs[j]?
theorem CL{n:Nat}{i:Int}{j:Nat}(h:ixN n i=some j):seqIndex? i n=some j/\j<n/\-(n:Int)<=i/\i<n:=by
 unfold ixN at h
 by_cases h0:0<=i
 ·rw[if_pos h0] at h
  by_cases h1:i<n
  ·rw[if_pos h1] at h
   have e:i.toNat=j:=MK h;exact⟨by rw[seqIndex_of h0 h1,e],by omega,by omega,h1⟩
  ·rw[if_neg h1] at h;cases h
 ·rw[if_neg h0] at h
  by_cases h1:-(n:Int)<=i
  ·rw[if_pos h1] at h
   have e:(i+n).toNat=j:=MK h;exact⟨by rw[seqIndex_neg (by omega) h1,e],by omega,h1,by omega⟩
  ·rw[if_neg h1] at h;cases h
theorem rN{α:Type}{xs:List α}{i:Int}{v:α}(h:atI xs i=some v):∃j,seqIndex? i xs.length=some j/\xs[j]?=some v/\j<xs.length/\-(xs.length:Int)<=i/\i<xs.length:=by
 unfold atI at h;cases e:ixN xs.length i with
 | none=>rw[e] at h;cases h
 | some j=>
  rw[e] at h;obtain⟨h1,h2,h3,h4⟩:=CL e;exact⟨j,h1,h,h2,h3,h4⟩
theorem oI{α:Type}(xs:List α)(v:α):atI (xs++[v]) (-1)=some v:=by
 have hl:(xs++[v]).length=xs.length+1:=by simp
 have e:ixN (xs++[v]).length (-1)=some xs.length:=by
  unfold ixN;rw[hl,if_neg (by decide),if_pos (by omega)]
  congr 1
  omega
 unfold atI;rw[e];show (xs++[v])[xs.length]?=some v;simp
def yv(b:Expr):Prop:=∀o i,RU b false o i=operate [o,i] (QX o i)
def IxR(X:Cx)(r:R2):Prop:=
 ∀(value slice:Expr)(pins:List (Addr×Obj))(s:LG)(σ:St)(H:Hp)(x y:V)(v u:LD)(Q:VK),Inv X pins σ H s->RelV x v->RelV y u->r x y H Q->
  RU slice false v u=operate [v,u] (QX v u)->LO (Lz X.prog X.w) X.A (Sh value slice v u) (EP X pins σ Q) X.xe s
def MtR(X:Cx)(id:String)(r:V->List V->Hp->VK->Prop):Prop:=
 ∀(pins:List (Addr×Obj))(s:LG)(σ:St)(H:Hp)(x:V)(xs:List V)(v:LD)(us:List LD)(Q:VK),Inv X pins σ H s->RelV x v->Vals xs us->r x xs H Q->
  LO (Lz X.prog X.w) X.A (call (.builtin id) (v::us)) (EP X pins σ Q) X.xe s
section
variable{X : Cx}{a b : Expr}{ta tb : TE}{pos : Nf}
theorem HY{r:R2}(hr:IxR X r)(ha:PE X a ta)(hb:PE X b tb)(hs:yv b):PE X (.Subscript a b pos) (tOp r ta tb):=by
 intro pins s σ H Q I h;exact Subscript_ (Je ha hb I h fun v u s2 x y H2 I2 rx ry q=>hr a b pins s2 σ H2 x y v u Q I2 rx ry q (hs _ _))
def Kz(K:LC):R2:=fun x y H Q=>∃p xs i v,x=.ref p/\y=.int i/\SqL K H p xs/\atI xs i=some v/\Q v H
def Kx(K:LC):R2:=fun x y H Q=>∃p xs i v,x=.ref p/\y=.int i/\SqT K H p xs/\atI xs i=some v/\Q v H
def Ky:R2:=fun x y H Q=>∃z i c,x=.str z/\y=.int i/\z.length<=sizeLine/\atI z.cps.toList i=some c/\Q (.str ⟨#[c]⟩) H
theorem CK:IxR X (Kz X.K):=by
 intro value slice pins s σ H x y v u Q I rx ry h hs;obtain⟨p,xs,i,z,rfl,rfl,hq,he,q⟩:=h;cases rx;obtain⟨t,rfl⟩:=ry;obtain⟨its,r,pl,hz⟩:=I.list hq;obtain⟨j,h1,h2,h3,h4,h5⟩:=rN he;obtain⟨w,ew,rw'⟩:=r.get h2;have hl:=r.length;have hn:=pW;have fin:EP X pins σ Q w s:=⟨z,H,I,rw',q⟩
 by_cases h0:0<=i
 ·have hj:i.toNat=j:=by
   rw[seqIndex_of h0 h5] at h1;exact MK h1
  exact item_listR pl.isList h0 (by omega) (by rw[hj];simpa using ew) fin hs
 ·have hj:(i+(its.toArray.size:Int)).toNat=j:=by
   rw[seqIndex_neg (by omega) h4] at h1;rw[M0,← hl];exact MK h1
  exact TL (x:=w) pl.isList.typeIs slot_list_getitem.lookup
   (wpAny_getItem_list_neg (Q:=fun r s'=>r=w/\EP X pins σ Q r s') pl.isList (by omega) (by rw[M0] <;> omega) (by omega) (by rw[hj];simpa using ew) ⟨rfl,fin⟩) hs
theorem FP:IxR X (Kx X.K):=by
 intro value slice pins s σ H x y v u Q I rx ry h hs;obtain⟨p,xs,i,z,rfl,rfl,hq,he,q⟩:=h;cases rx;obtain⟨t,rfl⟩:=ry;obtain⟨its,r,pl,hz⟩:=I.tuple hq;obtain⟨j,h1,h2,h3,h4,h5⟩:=rN he;obtain⟨w,ew,rw'⟩:=r.get h2;have hl:=r.length;have hn:=pW;have fin:EP X pins σ Q w s:=⟨z,H,I,rw',q⟩
 exact TL (x:=w) pl.typeIs slot_tuple_getitem.lookup
  (getItem_tuple (j:=j) (Q:=fun r s'=>r=w/\EP X pins σ Q r s') pl (by omega) (by omega) (by rw[M0,← hl];exact h1) (by simpa using ew) ⟨rfl,fin⟩) hs
theorem FQ:IxR X Ky:=by
 intro value slice pins s σ H x y v u Q I rx ry h hs;obtain⟨z,i,c,rfl,rfl,hz,he,q⟩:=h;obtain⟨t,rfl⟩:=rx;obtain⟨t',rfl⟩:=ry;obtain⟨j,h1,h2,h3,h4,h5⟩:=rN he;have hl:z.cps.toList.length=z.length:=by simp[Nm]
 rw[hl] at h1 h4 h5;have hn:=pW
 exact tail_any (OW s z t) slot_str_getitem.lookup (getItem_str (c:=c) (by
  have e1:decide (i < -(2 ^ 63:Int))=false:=decide_eq_false (by omega);have e2:decide (i ≥ 2 ^ 63)=false:=decide_eq_false (by omega);rw[e1,e2,OJ]) (by rw[h1];simpa using h2) ⟨.str ⟨#[c]⟩,H,I.tok _,⟨_,rfl⟩,q⟩) hs
theorem p6(lo hi:Option Int)(n:Nat):(Ov lo hi none n).1=((HT.sIx n 0 lo:Nat):Int)/\(Ov lo hi none n).2.1=((HT.sIx n n hi:Nat):Int)/\(Ov lo hi none n).2.2=1:=by
 refine⟨?_,?_,rfl⟩
 ·cases lo with
  | none=>simp[Ov,HT.sIx]
  | some i=>
   simp only[Ov,HT.sIx,Su,show (1:Int) > 0 by decide,if_true]
   by_cases h:i<0
   ·simp only[h,if_true] <;> omega
   ·simp only[h,if_false] <;> omega
 ·cases hi with
  | none=>simp[Ov,HT.sIx]
  | some i=>
   simp only[Ov,HT.sIx,Su,show (1:Int) > 0 by decide,if_true]
   by_cases h:i<0
   ·simp only[h,if_true] <;> omega
   ·simp only[h,if_false] <;> omega
theorem nK(its:List LD)(lo hi:Option Int):slicePick its.toArray lo hi none=((its.drop (HT.sIx its.length 0 lo)).take (HT.sIx its.length its.length hi-HT.sIx its.length 0 lo)).toArray:=by
 obtain⟨h1,h2,h3⟩:=p6 lo hi its.toArray.size;unfold slicePick;rw[h1,h2,h3];simp only[sliceRange_one,pick_run,M0] <;> rfl
def Kw(K:LC):V->Option Int->Option Int->Hp->VK->Prop:=fun x lo hi H Q=>∃a xs,x=.ref a/\SqL K H a xs/\∀p,H p=none->Q (.ref p) (upd H p (.lst (Ar xs lo hi)))
theorem BM:SlR X (Kw X.K):=by
 intro pins s σ H x v vl vu lo hi sl Q I rx hs pl pu h;obtain⟨a,xs,rfl,hx,q⟩:=h;cases rx;obtain⟨its,r,ht,hz⟩:=I.list hx;have hlen:=r.length;refine⟨"list",_,slot_list_getitem.lookup,ht.isList.typeIs,?_⟩;refine wpAny_getItem_list_slice ht.isList hs pl pu .none (by simp) ?_ (by rw[M0] <;> omega)
 rw[nK,← hlen];refine⟨.ref s.heap.objs.size,_,I.laid (t':=s.toks) (o:=.lst (Ar xs lo hi)) (fun b ob q=>LH _ q) (LZ _) ?_,rfl,q _ (I.hok.fresh (LZ _))⟩;exact⟨MR (lX xs lo hi) hz,_,0,(r.drop (HT.sIx xs.length 0 lo)).take (HT.sIx xs.length xs.length hi-HT.sIx xs.length 0 lo),LN _ rfl⟩
def mr:V->Bool
 | .non=>true
 | .bl _=>true
 | .int _=>true
 | .str _=>true
 | _=>false
def eqV:V->V->Bool
 | .non,.non=>true
 | .bl a,.bl b=>a == b
 | .bl a,.int b=>(if a then 1 else 0) == b
 | .int a,.bl b=>a == (if b then 1 else 0)
 | .int a,.int b=>a == b
 | .str a,.str b=>a == b
 | _,_=>false
theorem G2{A:M3}{s:LG}{y x:V}{u v:LD}(ry:RelV y u)(rx:RelV x v)(fy:mr y=true)(fx:mr x=true):OL A s u v (eqV y x):=by
 cases y with
 | non=>
  cases ry;cases x with
  | non=>cases rx;exact QL _
  | bl b=>cases rx;exact SeqAt.EqAt.none_bool b
  | int b=>obtain⟨t,rfl⟩:=rx;exact SeqAt.EqAt.none_int b t
  | str b=>obtain⟨t,rfl⟩:=rx;exact SeqAt.EqAt.none_str b t
  | _=>exact absurd (show false=true from fx) LX
 | bl a=>
  cases ry;cases x with
  | non=>cases rx;exact SeqAt.EqAt.bool_none a
  | bl b=>cases rx;exact SeqAt.EqAt.bool_bool a b
  | int b=>obtain⟨t,rfl⟩:=rx;exact SeqAt.EqAt.bool_int a b t
  | str b=>obtain⟨t,rfl⟩:=rx;exact SeqAt.EqAt.bool_str a b t
  | _=>exact absurd (show false=true from fx) LX
 | int a=>
  obtain⟨t',rfl⟩:=ry;cases x with
  | non=>cases rx;exact SeqAt.EqAt.int_none a t'
  | bl b=>cases rx;exact SeqAt.EqAt.int_bool a t' b
  | int b=>obtain⟨t,rfl⟩:=rx;exact SeqAt.EqAt.int_int a t' b t
  | str b=>obtain⟨t,rfl⟩:=rx;exact RY a t' b t
  | _=>exact absurd (show false=true from fx) LX
 | str a=>
  obtain⟨t',rfl⟩:=ry;cases x with
  | non=>cases rx;exact SeqAt.EqAt.str_none a t'
  | bl b=>cases rx;exact SeqAt.EqAt.str_bool a t' b
  | int b=>obtain⟨t,rfl⟩:=rx;exact RV a t' b t
  | str b=>obtain⟨t,rfl⟩:=rx;exact SeqAt.EqAt.str_str a t' b t
  | _=>exact absurd (show false=true from fx) LX
 | _=>exact absurd (show false=true from fy) LX
def eqU(x:V)(u:LD):Bool:=match u with
 | .none=>eqV .non x
 | .bool b=>eqV (.bl b) x
 | .int i _=>eqV (.int i) x
 | .str z _=>eqV (.str z) x
 | _=>false
theorem Bh{x y:V}{u:LD}(r:RelV y u)(f:mr y=true):eqU x u=eqV y x:=by
 cases y with
 | non=>cases r;rfl
 | bl b=>cases r;rfl
 | int i=>obtain⟨t,rfl⟩:=r;rfl
 | str z=>obtain⟨t,rfl⟩:=r;rfl
 | _=>exact absurd (show false=true from f) LX
theorem m5{x:V}:∀{xs:List V}{us:List LD},Vals xs us->xs.all mr=true->us.any (eqU x)=xs.any fun y=>eqV y x
 | _,_,.nil,_=>rfl
 | y::xs,u::us,.cons r t,f=>by
  rw[OI,M6] at f;rw[Nh,Nh,Bh r f.1,m5 t f.2]
theorem ji{A:M3}{s:LG}{x:V}{v:LD}(rx:RelV x v)(fx:mr x=true):∀{xs:List V}{us:List LD},Vals xs us->xs.all mr=true->∀u∈us,OL A s u v (eqU x u)
 | _,_,.nil,_=>fun u hu=>by cases hu
 | y::xs,u::us,.cons r t,f=>fun u' hu=>by
  rw[OI,M6] at f;rcases LJ.mp hu with rfl | hu
  ·rw[Bh r f.1];exact G2 r rx f.1 fx
  ·exact ji rx fx t f.2 u' hu
def inV(x:V)(xs:List V):Bool:=xs.any fun y=>eqV y x
def rIn(K:LC)(neg:Bool):R2:=fun x y H Q=>∃p xs,y=.ref p/\(SqL K H p xs\/SqT K H p xs)/\mr x=true/\xs.all mr=true/\Q (.bl (if neg then !inV x xs else inV x xs)) H
theorem pK:OpR X (MG .In) (rIn X.K false):=by
 intro pins s σ H x y v u Q I rx ry h;obtain⟨p,xs,rfl,hq,fx,fs,q⟩:=h;cases ry;rcases hq with hq | hq
 ·obtain⟨its,r,pl,hz⟩:=I.list hq
  refine SeqAt.in_listAt (eqU x) pl.isList (fun w hw=>ji rx fx r fs w (by simpa using hw)) ⟨.bl _,H,I,rfl,?_⟩;rw[show its.toArray.any (eqU x)=its.any (eqU x) by simp,m5 r fs];exact q
 ·obtain⟨its,r,pl,hz⟩:=I.tuple hq
  refine SeqAt.in_tupleAt (eqU x) pl (fun w hw=>ji rx fx r fs w (by simpa using hw)) ⟨.bl _,H,I,rfl,?_⟩;rw[show its.toArray.any (eqU x)=its.any (eqU x) by simp,m5 r fs];exact q
theorem k0:OpR X (MG .NotIn) (rIn X.K true):=by
 intro pins s σ H x y v u Q I rx ry h;obtain⟨p,xs,rfl,hq,fx,fs,q⟩:=h;cases ry;rcases hq with hq | hq
 ·obtain⟨its,r,pl,hz⟩:=I.list hq
  refine SeqAt.notIn_listAt (eqU x) pl.isList (fun w hw=>ji rx fx r fs w (by simpa using hw)) ⟨.bl _,H,I,rfl,?_⟩;rw[show its.toArray.any (eqU x)=its.any (eqU x) by simp,m5 r fs];exact q
 ·obtain⟨its,r,pl,hz⟩:=I.tuple hq
  refine SeqAt.notIn_tupleAt (eqU x) pl (fun w hw=>ji rx fx r fs w (by simpa using hw)) ⟨.bl _,H,I,rfl,?_⟩;rw[show its.toArray.any (eqU x)=its.any (eqU x) by simp,m5 r fs];exact q
theorem pJ:OpR X (MG .NotIn) (fun x y H Q=>∃i j,x=.str i/\y=.str j/\Q (.bl (!(!(Lx j i 0 j.length 1).isEmpty))) H):=by
 intro pins s σ H x y v u Q I rx ry h;obtain⟨i,j,rfl,rfl,q⟩:=h;obtain⟨t,rfl⟩:=rx;obtain⟨t',rfl⟩:=ry;exact notIn_str ⟨.bl _,H,I,rfl,q⟩
theorem kg:fU X (.type "list") (fun xs H Q=>∃p ys,xs=[.ref p]/\(SqL X.K H p ys\/SqT X.K H p ys)/\∀l,H l=none->Q (.ref l) (upd H l (.lst ys))):=by
 intro pins s σ H xs us Q I r h;obtain⟨p,ys,rfl,hq,q⟩:=h;obtain⟨u,rfl,rx⟩:=vals1 r;cases rx
 have fin:∀(its:List LD),Vals ys its->ys.length<=sizeLine->∀(h':Heap)(c':Nat),(∀b o',s.heap.get? b=some o'->h'.get? b=some o')->
   h'.get? s.heap.objs.size=some { cls:=.type "list",dict:=none,data:=.seq its.toArray c',slots:=#[] }->EP X pins σ Q (.ref s.heap.objs.size) { s with heap:=h' }:=fun its r' hz h' c' kp e=>
  ⟨.ref s.heap.objs.size,_,I.laid (t':=s.toks) kp (LZ _) (show dQ X.prog X.w _ h' _ (.lst ys) from ⟨hz,its,c',r',e⟩),rfl,q _ (I.hok.fresh (LZ _))⟩
 rcases hq with hq | hq
 ·obtain⟨its,r',pl,hz⟩:=I.list hq
  have hlen:=r'.length;obtain⟨o,ho,hc,n,hd⟩:=pl.isList;exact call_list_seq p (.inl rfl) ho hc hd (fun h' c' kp e=>fin its r' hz h' c' kp e) (by simp only[M0] <;> omega)
 ·obtain⟨its,r',pl,hz⟩:=I.tuple hq
  have hlen:=r'.length;obtain⟨o,ho,hc,n,hd⟩:=pl;exact call_list_seq p (.inr rfl) ho hc hd (fun h' c' kp e=>fin its r' hz h' c' kp e) (by simp only[M0] <;> omega)
theorem jD:fU X (.type "tuple") (fun xs H Q=>∃p ys,xs=[.ref p]/\((SqL X.K H p ys/\∀l,H l=none->Q (.ref l) (upd H l (.tup ys)))\/(SqT X.K H p ys/\Q (.ref p) H))):=by
 intro pins s σ H xs us Q I r h;obtain⟨p,ys,rfl,h⟩:=h;obtain⟨u,rfl,rx⟩:=vals1 r;cases rx;rcases h with⟨hq,q⟩|⟨hq,q⟩
 ·obtain⟨its,r',pl,hz⟩:=I.list hq
  have hlen:=r'.length;refine call_tuple_list pl.isList (fun h' kp=>?_) (by simp only[M0] <;> omega)
  have I1:Inv X pins σ H { s with heap:=h' }:=I.kept (t':=s.toks) kp
  have I2:Inv X pins σ (upd H h'.objs.size (.tup ys)) { s with heap:=h'.push { cls:=.type "tuple",data:=.seq its.toArray } }:=
   I1.laid (t':=s.toks) (fun b o e=>LH _ e) (LZ _) (show dQ X.prog X.w _ _ _ (.tup ys) from ⟨hz,its,r',AE.new _ _⟩)
  exact⟨.ref h'.objs.size,_,I2,rfl,q _ (I1.hok.fresh (LZ _))⟩
 ·obtain⟨its,r',pl,hz⟩:=I.tuple hq
  exact call_tuple_same pl ⟨.ref p,H,I,rfl,q⟩
def tyV(K:LC)(T:String)(x:V)(H:Hp):Prop:=match x with
 | .str _=>T="str"
 | .int _=>T="int"
 | .ref p=>(T="list"/\∃xs,SqL K H p xs)\/(T="tuple"/\∃o,K.lookup p=some o/\o.cls=.type "tuple"/\o.dict=none) ∨
   (T="dict"/\((∃kvs,H p=some (.dK kvs))\/∃kvs,H p=some (.dT kvs)))\/(T="set"/\∃S n,H p=some (.set S n))
 | _=>False
theorem AJ{pins:List (Addr×Obj)}{σ:St}{H:Hp}{s:LG}{T:String}{x:V}{v:LD}(I:Inv X pins σ H s)(r:RelV x v)(ty:tyV X.K T x H) :
  s.TypeIs v T/\∀a,v=.ref a->∃ob,s.heap.get? a=some ob/\ob.dict=none:=by
 cases x with
 | str z=>
  obtain⟨t,rfl⟩:=r;cases (show T="str" from ty);exact⟨OW s z t,fun _ e=>nomatch e⟩
 | int i=>
  obtain⟨t,rfl⟩:=r;cases (show T="int" from ty);exact⟨typeIs_int s i t,fun _ e=>nomatch e⟩
 | ref p=>
  cases r;rcases ty with⟨rfl,xs,hq⟩|⟨rfl,o,hk,hc,hd⟩|⟨rfl,hk⟩|⟨rfl,S,n,hk⟩
  ·obtain⟨its,_,pl,_⟩:=I.list hq
   refine⟨pl.isList.typeIs,fun a e=>?_⟩;cases e;obtain⟨o,n,e,c,hd,_⟩:=pl;exact⟨o,e,hd⟩
  ·refine⟨⟨o,I.kIn p o hk,hc⟩,fun a e=>?_⟩
   cases e;exact⟨o,I.kIn _ o hk,hd⟩
  ·have z:∃o,s.heap.get? p=some o/\o.ExactDict:=by
    rcases hk with⟨kvs,hk⟩|⟨kvs,hk⟩
    ·obtain⟨_,_,_,_,o,_,_,e,ex,_⟩:=I.hok p _ hk
     exact⟨o,e,ex⟩
    ·obtain⟨_,_,_,_,o,_,_,e,ex,_⟩:=I.hok p _ hk
     exact⟨o,e,ex⟩
   obtain⟨o,e,ex⟩:=z;refine⟨⟨o,e,ex.1⟩,fun a e2=>?_⟩;cases e2;exact⟨o,e,ex.2.1⟩
  ·obtain⟨o,_,_,_,e,ex,_⟩:=I.hok p _ hk
   refine⟨⟨o,e,ex.1⟩,fun a e2=>?_⟩;cases e2;exact⟨o,e,ex.2.1⟩
 | _=>exact LP ty
def Kq(K:LC)(T:String)(r:V->List V->Hp->VK->Prop)(to:TE):TE:=fun σ H Q=>to σ H fun x H1=>tyV K T x H1/\r x [] H1 Q
def tBM(K:LC)(T:String)(r:V->List V->Hp->VK->Prop)(to:TE)(t:TA):TE:=fun σ H Q=>to σ H fun x H1=>tyV K T x H1/\t σ H1 fun xs H2=>r x xs H2 Q
variable{o e : Expr}{es : List Expr}{to : TE}{t : TA}{name : Str}{apos cpos : Nf}{T id : String}{r : V → List V → Hp → VK → Prop}
theorem F6 (pa:PlainAttrs T) (slot:Slot T name id) (hty:typeOf (.builtin id)=pure (.type "method_descriptor")) (hm:MtR X id r) (ho:PE X o to)
  (hbase:O0 o name X.env (Mu o X.env)=Mu o X.env:=by rfl) (hline:(apos.endLine == cpos.line)=true:=by rfl):PE X (.Call (.Attribute o name apos) [] [] cpos) (Kq X.K T r to):=by
 intro pins s σ H Q I h;refine wpAny_Call_method0_late hbase hline (thn (ho pins s σ H _ I h) fun v s1 ⟨x,H1,I1,r1,ty,q1⟩=>?_);obtain⟨h1,h2⟩:=AJ I1 r1 ty;exact⟨T,id,pa,slot,hty,h1,h2,Pd rfl (PySem.evalArgs_none (hm pins s1 σ H1 x [] v [] Q I1 r1 .nil q1))⟩
theorem zA (pa:PlainAttrs T) (slot:Slot T name id) (hty:typeOf (.builtin id)=pure (.type "method_descriptor")) (hm:MtR X id r) (ho:PE X o to) (ha:PA X (e::es) t)
  (hbase:O0 o name X.env (Mu o X.env)=Mu o X.env:=by rfl)
  (hfew:((Nj cpos (Ls (e::es) X.env)).all (fun x=>!x.1) && (PM cpos (OE [] X.env)).all (fun x=>x.1.isSome)
   && decide ((e::es).length+([]:List TK).length+(if ([]:List TK).isEmpty then 0 else 1)<30))=true:=by rfl)
  (hline:(apos.endLine == cpos.line)=true:=by rfl) (hs:Ls (e::es) X.env=(false,Mu e X.env)::Ls es X.env:=by rfl) (hplain:(Nj cpos (Ls es X.env)).any (·.1)=false:=by rfl) :
  PE X (.Call (.Attribute o name apos) (e::es) [] cpos) (tBM X.K T r to t):=by
 intro pins s σ H Q I h;refine Sy hbase hfew hline rfl (thn (ho pins s σ H _ I h) fun v s1 ⟨x,H1,I1,r1,ty,q1⟩=>?_);obtain⟨h1,h2⟩:=AJ I1 r1 ty;refine⟨T,id,pa,slot,hty,h1,h2,?_⟩;have hA:=ha cpos pins s1 σ H1 _ I1 q1;rw[hs] at hA ⊢;refine Pd (by show (false || (Nj cpos (Ls es X.env)).any (·.1))=false;rw[hplain] <;> rfl) (SF ?_)
 exact thn hA fun us s2 ⟨vs,H2,I2,r2,q2⟩=>hm pins s2 σ H2 x vs v us Q I2 r1 r2 q2
end
end L2
namespace L2
open PySem PySem.Spec PyProof.Rows
def MtM(X:Cx)(id:String)(r:V->List V->Hp->VK->Prop):Prop:=
 ∀(pins:List (Addr×Obj))(s:LG)(σ:St)(H:Hp)(x:V)(xs:List V)(v:LD)(us:List LD)(Q:VK),Inv X pins σ H s->RelV x v->Vals xs us->r x xs H Q->
  LO (Lz X.prog X.w) X.A (call (.builtin id) (v::us)) (EP X pins σ Q) X.xe s
theorem Vals.one:∀{x:V}{us:List LD},Vals [x] us->∃u,us=[u]/\RelV x u
 | _,_,.cons r .nil=>⟨_,rfl,r⟩
section
variable{X : Cx}{pins : List (Addr×Obj)}{σ : St}{H : Hp}{s : LG}{l b : Addr}{xs ys zs : List V}
theorem Inv.lset{its its':List LD}{n:Nat}{f:Array LD->Array LD}{t':Nat}(I:Inv X pins σ H s)(hH:H l=some (.lst xs))
  (e:s.heap.get? l=some { cls:=.type "list",data:=.seq its.toArray n }) (hf:f its.toArray=its'.toArray) (hv:Vals ys its') (hz:ys.length<=sizeLine) :
  Inv X pins σ (upd H l (.lst ys)) { s with heap:=s.heap.update l (Mm f),toks:=t' }:=by
 have q:=PySem.IsL.update e f;rw[hf] at q;refine I.write (x:=l) (e:=l) (by rw[hH];exact trivial) (.inl rfl) (fun b' u hb hu=>(NQ s.heap (Mm f) (NG hb)).trans hu) ⟨_,q⟩ ?_;exact⟨hz,its',_,hv,q⟩
theorem Inv.lnew{its:List LD}{t':Nat}(I:Inv X pins σ H s)(hv:Vals ys its)(hz:ys.length<=sizeLine) :
  Inv X pins σ (upd H s.heap.objs.size (.lst ys)) { s with heap:=s.heap.push { cls:=.type "list",data:=.seq its.toArray },toks:=t' }:=
 I.laid (fun _ _ q=>LH _ q) (LZ _) ⟨hz,its,0,hv,LN _ rfl⟩
theorem Inv.fresh(I:Inv X pins σ H s):H s.heap.objs.size=none:=I.hok.fresh (LZ _)
theorem Inv.lstM (I:Inv X pins σ H s) (hH:H l=some (.lst xs)):xs.length<=sizeLine/\∃(its:List LD) (n:Nat),Vals xs its/\xs.length=its.length/\s.heap.get? l=some { cls:=.type "list",data:=.seq its.toArray n }:=by
 obtain⟨z,its,n,r,e⟩:=I.hok l _ hH;exact⟨z,its,n,r,r.length,e⟩
end
section
variable{X : Cx}
def C4:V->List V->Hp->VK->Prop:=fun x vs H Q=>∃l xs y,x=.ref l/\vs=[y]/\H l=some (.lst xs)/\xs.length<sizeLine/\Q .non (upd H l (.lst (xs++[y])))
theorem lB:MtM X "list.append" C4:=by
 intro pins s σ H x vs v us Q I rx rv h;obtain⟨l,xs,y,rfl,rfl,hH,hz,q⟩:=h;cases rx;obtain⟨u,rfl,ru⟩:=rv.one;obtain⟨z,its,n,r,hl,e⟩:=I.lstM hH;refine On Pc ⟨_,e,rfl⟩ F.entry_list_append (F.args_list_append_2 _ _) (PySem.list_append l its.toArray n u (by rw[M0];omega)) ⟨e,?_⟩;refine⟨.non,_,I.lset (its':=its++[u]) hH e (by simp) (r.append (.cons ru .nil)) ?_,rfl,q⟩;rw[M1,SI];omega
end
end L2
namespace L2
open PySem PySem.Spec PyProof.Rows
section
variable{κ : Type}[DecidableEq κ]
def nu(kvs:List (κ×V))(k:κ):Option V:=(kvs.find? fun kv=>decide (kv.1=k)).map (·.2)
def putK(kvs:List (κ×V))(k:κ)(v:V):List (κ×V):=
 if (kvs.any fun kv=>decide (kv.1=k))=true then kvs.map (fun kv=>if kv.1=k then (kv.1,v) else kv) else kvs++[(k,v)]
theorem gk{p:κ×V}{r:List (κ×V)}{k:κ}(e:p.1=k):nu (p::r) k=some p.2:=by simp[nu,Nb,e]
theorem cR{p:κ×V}{r:List (κ×V)}{k:κ}(e:¬ p.1=k):nu (p::r) k=nu r k:=by simp[nu,Nb,e]
theorem j8(k:κ):∀kvs:List (κ×V),(kvs.any fun kv=>decide (kv.1=k))=(nu kvs k).isSome
 | []=>rfl
 | p::r=>by
  rw[Nh]
  by_cases e:p.1=k
  ·simp only[gk e,decide_eq_true e,Bool.true_or,Option.isSome_some]
  ·rw[cR e,decide_eq_false e,Ri];exact j8 k r
theorem iX(kvs:List (κ×V))(k:κ)(v:V):(putK kvs k v).length<=kvs.length+1:=by
 unfold putK
 split
 ·rw[LI];omega
 ·rw[M1,LS,Pu];omega
theorem rS.isSome_eq{o:Option V}{u:Option LD}(r:rS o u):o.isSome=u.isSome:=by
 cases o with
 | none=>cases u with
  | none=>rfl
  | some _=>exact(show False from r).elim
 | some _=>cases u with
  | none=>exact(show False from r).elim
  | some _=>rfl
theorem KV.val{kvs:List (κ×V)}{vs:List (κ×LD)}(r:KV kvs vs)(k:κ):rS (nu kvs k) (NJ vs k):=by
 unfold KV at r
 induction r with
 | nil=>exact Nl
 | @cons p q ps qs h t ih=>
  obtain⟨h1,h2⟩:=h
  by_cases e:p.1=k
  ·have e':q.1=k:=h1.symm.trans e
   have b:NJ (q::qs) k=some q.2:=by simp[NJ,Nb,e']
   rw[gk e,b];exact h2
  ·have e':¬ q.1=k:=fun z=>e (h1.trans z)
   have b:NJ (q::qs) k=NJ qs k:=by simp[NJ,Nb,e']
   rw[cR e,b];exact ih
theorem KV.any{kvs:List (κ×V)}{vs:List (κ×LD)}(r:KV kvs vs)(k:κ):(kvs.any fun kv=>decide (kv.1=k))=vs.any fun kv=>decide (kv.1=k):=by
 unfold KV at r
 induction r with
 | nil=>rfl
 | cons h t ih=>rw[Nh,Nh,ih,h.1]
theorem KV.repl{kvs:List (κ×V)}{vs:List (κ×LD)}(r:KV kvs vs)(k:κ){y:V}{u:LD}(ry:RelV y u) :
  KV (kvs.map fun kv=>if kv.1=k then (kv.1,y) else kv) (vs.map fun kv=>if kv.1=k then (kv.1,u) else kv):=by
 unfold KV at r ⊢
 induction r with
 | nil=>exact .nil
 | @cons p q ps qs h t ih=>
  rw[LQ,LQ];refine .cons ?_ ih;obtain⟨h1,h2⟩:=h
  by_cases e:p.1=k
  ·rw[if_pos e,if_pos (h1.symm.trans e)];exact⟨h1,ry⟩
  ·rw[if_neg e,if_neg (fun z=>e (h1.trans z))];exact⟨h1,h2⟩
theorem KV.put{kvs:List (κ×V)}{vs:List (κ×LD)}(r:KV kvs vs)(k:κ){y:V}{u:LD}(ry:RelV y u):KV (putK kvs k y) (stored vs k u):=by
 unfold putK stored;rw[r.any k]
 by_cases e:(vs.any fun kv=>decide (kv.1=k))=true
 ·rw[if_pos e,if_pos e];exact r.repl k ry
 ·rw[if_neg e,if_neg e];exact Paired.snoc r ⟨rfl,ry⟩
theorem KV.length{kvs:List (κ×V)}{vs:List (κ×LD)}(r:KV kvs vs):kvs.length=vs.length:=MZ r
end
theorem oe{P:LY}{w:Ly}{k:Key}{u:LD}(r:RelV (kV k) u):(aj P w).is k u=true:=by
 cases k with
 | inl i=>obtain⟨t,e⟩:=(show ∃t,u=T9 i t from r);subst e;exact rb P w i t
 | inr x=>obtain⟨t,e⟩:=(show ∃t,u=Os x t from r);subst e;exact eT P w x t
theorem qa{P:LY}{w:Ly}:∀{ks:List Key}{us:List LD},Vals (ks.map kV) us->ItemsAre (aj P w) ks us
 | [],_,r=>by rw[Ot] at r;cases r;exact .nil
 | k::ks,_,r=>by
  rw[LQ] at r;cases r with
  | cons h t=>exact .cons (oe h) (qa t)
abbrev KT(H:Hp):List (jF×V)->List (jF×Addr×LD)->Prop:=SD fun p q=>p.1=q.1/\jE H q.2.1 p.1/\RelV p.2 q.2.2
theorem KT.val{H:Hp}{kvs:List (jF×V)}{xs:List (jF×Addr×LD)}(r:KT H kvs xs)(k:jF):rS (nu kvs k) ((SA xs k).map (·.2)):=by
 induction r with
 | nil=>exact Nl
 | @cons p q ps qs h t ih=>
  obtain⟨h1,_,h2⟩:=h
  by_cases e:p.1=k
  ·have e':q.1=k:=h1.symm.trans e
   have b:SA (q::qs) k=some q.2:=by simp[SA,Nb,e']
   rw[gk e,b];exact h2
  ·have e':¬ q.1=k:=fun z=>e (h1.trans z)
   have b:SA (q::qs) k=SA qs k:=by simp[SA,Nb,e']
   rw[cR e,b];exact ih
theorem KT.repl{H:Hp}{kvs:List (jF×V)}{xs:List (jF×Addr×LD)}(r:KT H kvs xs)(k:jF){y:V}{u:LD}(ry:RelV y u) :
  KT H (kvs.map fun kv=>if kv.1=k then (kv.1,y) else kv) (xs.map (putAt k u)):=by
 induction r with
 | nil=>exact .nil
 | @cons p q ps qs h t ih=>
  rw[LQ,LQ];refine .cons ?_ ih;obtain⟨h1,h2,h3⟩:=h;unfold putAt
  by_cases e:p.1=k
  ·rw[if_pos e,if_pos (h1.symm.trans e)];exact⟨h1,h2,ry⟩
  ·rw[if_neg e,if_neg (fun z=>e (h1.trans z))];exact⟨h1,h2,h3⟩
theorem KT.put{H:Hp}{kvs:List (jF×V)}{xs:List (jF×Addr×LD)}(r:KT H kvs xs)(k:jF){b:Addr}{y:V}{u:LD}(hb:jE H b k)(ry:RelV y u) :
  KT H (putK kvs k y) (storedH xs k b u):=by
 have e:(kvs.any fun kv=>decide (kv.1=k))=(SA xs k).isSome:=by
  rw[j8,(r.val k).isSome_eq,Option.isSome_map]
 unfold putK storedH;rw[e]
 by_cases q:(SA xs k).isSome=true
 ·rw[if_pos q,if_pos q];exact r.repl k ry
 ·rw[if_neg q,if_neg q];exact Paired.snoc r ⟨rfl,hb,ry⟩
theorem KT.keeps{H H':Hp}{kvs:List (jF×V)}{xs:List (jF×Addr×LD)}(r:KT H kvs xs)(ht:∀b ys,H b=some (.tup ys)->H' b=some (.tup ys)):KT H' kvs xs:=
 Paired.mapP r fun _ _ z=>⟨z.1,z.2.1.keeps ht,z.2.2⟩
section
variable{P : LY}{w : Ly}{H : Hp}{h : Heap}{a : Addr}
theorem EK{u:HO}(ok:HOk P w H h)(e:Rd H a u):dQ P w H h a u:=e.ok ok
theorem Ao{kvs:List (Key×V)}(ok:HOk P w H h)(e:Rd H a (.dK kvs)):kvs.length<=sizeLine/\(a == Mb)=false/\∃vs,KV kvs vs/\h.DictOf (aj P w) a vs:=
 show dQ P w H h a (.dK kvs) from EK ok e
theorem Dp{kvs:List (Key×V)}(ok:HOk P w H h)(e:H a=some (.dK kvs)):kvs.length<=sizeLine/\(a == Mb)=false/\∃vs,KV kvs vs/\h.DictOf (aj P w) a vs:=Ao ok (.inl e)
theorem D5{ks:List Key}(ok:HOk P w H h)(e:H a=some (.tup (ks.map kV))):Qm (aj P w) h ks a:=by
 obtain⟨_,its,r,o,h1,h2,⟨n,h3⟩,_⟩:=(show dQ P w H h a (.tup (ks.map kV)) from ok a _ e);exact⟨o,its.toArray,n,h1,h2,h3,by simpa using qa r⟩
theorem ly(ok:HOk P w H h):∀{ks:jF}{vs:List V}{us:List LD},NV H ks vs->Vals vs us->NItems (aj P w) h ks us
 | [],_,_,e,r=>by cases e;cases r;exact .nil
 | .inl k::ks,_,_,⟨t,e,m⟩,r=>by
  subst e;cases r with
  | cons h1 h2=>exact .sc (oe h1) (ly ok m h2)
 | .inr l::ks,_,_,⟨c,t,e,hc,m⟩,r=>by
  subst e;cases r with
  | cons h1 h2=>cases h1;exact .tp (D5 ok hc) (ly ok m h2)
theorem xn{ks:jF}(ok:HOk P w H h)(e:jE H a ks):(jg P w).is h ks a:=by
 obtain⟨vs,e,m⟩:=e;obtain⟨_,its,r,o,h1,h2,⟨n,h3⟩,_⟩:=(show dQ P w H h a (.tup vs) from ok a _ e);exact⟨o,its.toArray,n,h1,h2,h3,by simpa using ly ok m r⟩
theorem pR{A:M3}(hu:A.units+16<cLine):A.in1.units+8<cLine:=show A.units+1+8<cLine by omega
theorem An{kvs:List (jF×V)}(ok:HOk P w H h)(e:Rd H a (.dT kvs)):kvs.length<=sizeLine/\(a == Mb)=false/\
  ∃xs,KT H kvs xs/\h.DictOfH (jg P w) a xs:=by
 obtain⟨z,y,xs,r,o,es,ep,h1,h2,h3,h4,h5⟩:=(show dQ P w H h a (.dT kvs) from EK ok e);refine⟨z,y,xs,r,o,es,ep,h1,h2,h3,h4,fun x hx=>?_,h5⟩
 have all:∀{l:List (jF×V)}{m:List (jF×Addr×LD)},KT H l m->∀x∈m,(jg P w).is h x.1 x.2.1:=by
  intro l m q
  induction q with
  | nil=>intro x hx;exact nomatch hx
  | @cons p q ps qs hq t ih=>
   intro x hx;rcases LJ.mp hx with e | hx
   ·subst e
    exact xn ok (by rw[← hq.1];exact hq.2.1)
   ·exact ih x hx
 exact all r x hx
theorem Ja{kvs:List (jF×V)}(ok:HOk P w H h)(e:H a=some (.dT kvs)):kvs.length<=sizeLine/\(a == Mb)=false/\
  ∃xs,KT H kvs xs/\h.DictOfH (jg P w) a xs:=An ok (.inl e)
end
def Bu(H:Hp)(a:Addr)(y:V)(r:Option V):Prop:=
 (∃kvs k,Rd H a (.dK kvs)/\y=kV k/\r=nu kvs k)\/∃kvs k b,Rd H a (.dT kvs)/\y=.ref b/\jE H b k/\r=nu kvs k
def DI(H:Hp)(a:Addr)(y v:V)(H':Hp):Prop:=
 (∃kvs k,H a=some (.dK kvs)/\y=kV k/\kvs.length<sizeLine/\H'=upd H a (.dK (putK kvs k v))) ∨
 ∃kvs k b,H a=some (.dT kvs)/\y=.ref b/\jE H b k/\kvs.length<sizeLine/\H'=upd H a (.dT (putK kvs k v))
theorem Bu.k{H:Hp}{a:Addr}{kvs:List (Key×V)}{k:Key}(e:H a=some (.dK kvs)):Bu H a (kV k) (nu kvs k):=.inl ⟨kvs,k,.inl e,rfl,rfl⟩
theorem DI.k{H:Hp}{a:Addr}{kvs:List (Key×V)}{k:Key}{v:V}(e:H a=some (.dK kvs))(hl:kvs.length<sizeLine):DI H a (kV k) v (upd H a (.dK (putK kvs k v))):=.inl ⟨kvs,k,e,rfl,hl,rfl⟩
section
variable{X : Cx}{pins : List (Addr×Obj)}{σ : St}{H : Hp}{s : LG}{a : Addr}{y v : V}{u r : LD}{o : Option V}{A : M3}{E : LD → LG → Prop}
theorem Inv.big(I:Inv X pins σ H s):Mb<s.heap.objs.size:=by
 have h:Lv<s.heap.objs.size:=(I.mod.glob.keeps I.bk).lt;exact Nat.lt_trans (by decide) h
theorem yh{Q:LD->LG->Prop}(hu:A.units+16<cLine)(I:Inv X pins σ H s)(g:Bu H a y (some v))(ry:RelV y u)(h:∀w' s',Inv X pins σ H s'->RelV v w'->Q w' s') :
  LO (Lz X.prog X.w) A (QX (.ref a) u) Q E s:=by
 rcases g with⟨kvs,k,e,ey,l⟩|⟨kvs,k,b,e,ey,eb,l⟩
 ·subst ey
  obtain⟨z,hd,vs,rel,dd⟩:=Ao I.hok e;obtain⟨w',hw,rw'⟩:=rS.some_of (v:=v) (o:=NJ vs k) (by rw[l];exact rel.val k);exact wpAny_getItem_of (oe ry) dd.mapOf hw (h w' _ (I.tok _) rw')
 ·subst ey
  cases (show u=Mn b from ry);obtain⟨z,hd,xs,rel,dd⟩:=An I.hok e;obtain⟨w',hw,rw'⟩:=rS.some_of (v:=v) (o:=(SA xs k).map (·.2)) (by rw[l];exact rel.val k);obtain⟨p,hp,hp2⟩:=LV.mp hw;refine wpAny_getItem_heap (pR hu) (xn I.hok eb) dd hp ?_;rw[hp2];exact h w' _ (I.tok _) rw'
theorem oD{h':Heap}{t':Nat}{ob:HO}(I:Inv X pins σ H s)(mu:Mut (H a))(hs:NB a s.heap h')(he:∃q,h'.get? a=some q)(new:dQ X.prog X.w (upd H a ob) h' a ob) :
  Inv X pins σ (upd H a ob) { s with heap:=h',toks:=t' }:=
 I.write (x:=a) (e:=a) mu (.inl rfl) (fun b q hb z=>(hs.2 b hb).trans z) he new
theorem yc{P:LY}{w:Ly}{H':Hp}{h':Heap}{kvs:List (Key×V)}{vs:List (Key×LD)}(z:kvs.length<=sizeLine)(hd:(a == Mb)=false)(rel:KV kvs vs)(dd:h'.DictOf (aj P w) a vs) :
  dQ P w H' h' a (.dK kvs):=⟨z,hd,vs,rel,dd⟩
theorem yg{H':Hp}{Q:Unit->LG->Prop}(hu:A.units+16<cLine)(I:Inv X pins σ H s)(g:DI H a y v H')(ry:RelV y u)(rv:RelV v r)(h:∀s',Inv X pins σ H' s'->Q () s') :
  LO (Lz X.prog X.w) A (setItem (.ref a) u r) Q E s:=by
 rcases g with⟨kvs,k,e,ey,l,eH⟩|⟨kvs,k,b,e,ey,eb,l,eH⟩
 ·subst ey eH
  obtain⟨z,hd,vs,rel,dd⟩:=Dp I.hok e;have hz:vs.length<=sizeLine:=by rw[← rel.length];exact z
  have hl:(putK kvs k v).length<=sizeLine:=by have:=iX kvs k v;omega
  refine wpAny_setItem_pairs (hsz:=hz) (oe ry) dd fun h' dd' hs=>h _ ?_;have he:∃q,h'.get? a=some q:=let ⟨q,_,_,hq,_⟩:=dd';⟨q,hq⟩
  exact oD I (by rw[e];exact Nl) hs he (yc hl hd (rel.put k rv) dd')
 ·subst ey eH
  cases (show u=Mn b from ry);obtain⟨z,hd,xs,rel,dd⟩:=Ja I.hok e;have hz:xs.length<=sizeLine:=by rw[← MZ rel];exact z
  have hl:(putK kvs k v).length<=sizeLine:=by have:=iX kvs k v;omega
  refine wpAny_setItem_heap (hsz:=hz) (pR hu) (xn I.hok eb) dd fun h' dd' hs=>h _ ?_;obtain⟨q,es,ep,hq,h2,h3,h4,_,h5⟩:=dd';refine oD I (by rw[e];exact Nl) hs ⟨q,hq⟩ ⟨hl,hd,_,(rel.put k eb rv).keeps fun c ys ec=>?_,q,es,ep,hq,h2,h3,h4,h5⟩;rw[aw (Io ec e (fun z=>nomatch z))];exact ec
end
section
variable{X : Cx}{pins : List (Addr×Obj)}{σ : St}{H : Hp}{s : LG}{a : Addr}{kvs : List (Key×V)}{k : Key}{u : LD}{A : M3}{E : LD → LG → Prop}
theorem Dr {Q:LD->LG->Prop} (I:Inv X pins σ H s) (e:H a=some (.dK kvs)) (h:∀s',Inv X pins σ (upd H a (.dK [])) s'->Q .none s'):LO (Lz X.prog X.w) A (call (.builtin "dict.clear") [.ref a]) Q E s:=by
 obtain⟨z,hd,vs,rel,dd⟩:=Dp I.hok e;refine call_meetsIn R6 dd.typeIs PySem.F.entry_dict_clear (PySem.F.args_dict_clear_1 _) (meets_dict_clear (aj X.prog X.w) a) ⟨vs,dd,by rw[← rel.length];exact z,fun h' dd' hs=>h _ ?_⟩;have he:∃q,h'.get? a=some q:=let ⟨q,_,_,hq,_⟩:=dd';⟨q,hq⟩
 exact oD (t':=s.toks) I (by rw[e];exact Nl) hs he (yc (Mr _) hd .nil dd')
end
def K5(i:Expr):Prop:=∀ov iv,RU i false ov iv=operate [ov,iv] (QX ov iv)
theorem BJ{prog:LY}{w:Ly}{A:M3}{E:LD->LG->Prop}{s:LG}{env:Qo}{value slice:Expr}{pos:Nf}{T id:String}{Q:LD->LG->Prop}
  (hl:typeLookup (.type T) "__getitem__"=pure (some (.builtin id))) (hs:K5 slice)
  (h:LO (Lz prog w) A (Mu value env) (fun o s₁=>LO (Lz prog w) A (Mu slice env) (fun i s₂=>s₂.TypeIs o T/\LO (Lz prog w) A (QX o i) Q E s₂) E s₁) E s) :
  LO (Lz prog w) A (Mu (.Subscript value slice pos) env) Q E s:=by
 refine Subscript_ (Mx h (fun o s₁ h₁=>Mx h₁ (fun i s₂ h₂=>?_) fun _ _ x=>x) fun _ _ x=>x);obtain⟨hT,h₂⟩:=h₂;unfold Sh;refine LA ?_;rw[getitemInPython_of_ne hT.not_modules];refine LA (OT hT hl ?_)
 have fin:LO (Lz prog w) A (RU slice false o i) (fun r s₃=>LO (Lz prog w) A (letTemporaryGo value o r >>= fun _=>pure r) Q E s₃) E s₂:=by
  rw[hs o i];exact wpAny_operating (Mx h₂ (fun r s₃ h₃=>LA (wpAny_letTemporaryGo (LF h₃))) fun _ _ x=>x)
 first
  | exact LF (LA fin)
  | exact LA (LF (LA fin))
  | exact LA fin
theorem rJ {X:Cx} {pins:List (Addr×Obj)} {σ:St} {H:Hp} {s:LG} {a:Addr} {y:V} {o:Option V} (I:Inv X pins σ H s) (g:Bu H a y o):s.TypeIs (.ref a) "dict":=by
 rcases g with⟨kvs,k,e,_,_⟩|⟨kvs,k,b,e,_,_,_⟩
 ·obtain⟨_,_,vs,_,dd⟩:=Ao I.hok e
  exact dd.typeIs
 ·obtain⟨_,_,xs,_,dd⟩:=An I.hok e
  exact dd.typeIs
def HD(td ty:TE):TE:=fun σ H Q=>td σ H fun x H1=>ty σ H1 fun y H2=>∃a v,x=.ref a/\Bu H2 a y (some v)/\Q v H2
def HL(td ty tv:TE):TS:=fun D σ H=>tv σ H fun v H1=>td σ H1 fun x H2=>ty σ H2 fun y H3=>∃a H4,x=.ref a/\DI H3 a y v H4/\D.nx σ H4
section
variable{X : Cx}{o i e value : Expr}{pos pos' tpos : Nf}{td ty tv : TE}
theorem qY(hu:X.A.units+16<cLine)(ho:PE X o td)(hi:PE X i ty)(hs:K5 i):PE X (.Subscript o i pos) (HD td ty):=by
 intro pins s σ H Q I h;refine BJ Qr.lookup hs (thn (ho pins s σ H _ I h) fun u s1 ⟨x,H1,I1,rx,q1⟩=>thn (hi pins s1 σ H1 _ I1 q1) fun iv s2 ⟨y,H2,I2,ry,a,v,ex,g,q2⟩=>?_);subst ex;obtain rfl:u=Mn a:=rx;exact⟨rJ I2 g,yh hu I2 g ry fun w' s3 I3 rw'=>⟨v,H2,I3,rw',q2⟩⟩
theorem qT(hu:X.A.units+16<cLine)(ho:PE X o td)(hi:PE X i ty)(hv:PE X value tv)(hs:OY value (some (.Subscript o i pos')) pos.line X.env=pure false) :
  PS X (.Assign [.Subscript o i pos'] value pos) (HL td ty tv):=by
 intro pins s σ H D I h;refine wpAny_Assign_Subscript (thn (hv pins s σ H _ I h) fun r s1 ⟨v,H1,I1,rv,q1⟩=>thn (ho pins s1 σ H1 _ I1 q1) fun u s2 ⟨x,H2,I2,rx,q2⟩=>thn (hi pins s2 σ H2 _ I2 q2) fun iv s3 ⟨y,H3,I3,ry,a,H4,ex,g,q3⟩=>?_) hs;subst ex;obtain rfl:u=Mn a:=rx;exact yg hu I3 g ry rv fun s4 I4=>⟨σ,H4,I4,q3⟩
end
theorem tm {P:LY} {w:Ly} {H:Hp} (h:Heap) (hb:Mb<h.objs.size):dQ P w H (h.push { cls:=.type "dict",data:=.dict #[] }) h.objs.size (.dK []):=
 ⟨Mr _,beq_eq_false_iff_ne.mpr (NG (Lo hb)),[],.nil,Heap.DictOf.new h⟩
def Eu:TE:=fun _ H Q=>∀p,H p=none->Q (.ref p) (upd H p (.dK []))
section
variable{X : Cx}{pos : Nf}
theorem zx:PE X (.Dict [] [] pos) Eu:=fun pins s σ H Q I h=>
 wpAny_Dict_empty ⟨.ref s.heap.objs.size,_,I.laid (a:=s.heap.objs.size) (o:=.dK []) (t':=s.toks) (fun _ _ q=>LH _ q) (LZ _) (tm s.heap I.big),rfl,h _ (I.hok.fresh (LZ _))⟩
end
def mF:List (TE×TE)->St->Hp->(List (V×V)->Hp->Prop)->Prop
 | [],_,H,Q=>Q [] H
 | (tk,tv)::r,σ,H,Q=>tk σ H fun x H1=>tv σ H1 fun y H2=>mF r σ H2 fun ps H3=>Q ((x,y)::ps) H3
abbrev VV:List (V×V)->List (LD×LD)->Prop:=SD fun p q=>RelV p.1 q.1/\RelV p.2 q.2
def PPs(X:Cx)(pos:Nf)(keys:List (Option Expr))(values:List Expr)(trs:List (TE×TE)):Prop:=
 ∀(pins:List (Addr×Obj))(s:LG)(σ:St)(H:Hp)(Q:List (V×V)->Hp->Prop),Inv X pins σ H s->mF trs σ H Q->
  LO (Lz X.prog X.w) X.A (evalPairs (pairTrees keys values X.env pos)) (fun vs s'=>∃ps H',Inv X pins σ H' s'/\VV ps vs/\Q ps H') X.xe s
theorem wx{X:Cx}{pos:Nf}:PPs X pos [] [] []:=fun pins s σ H Q I h=>pairTrees_nil_walk ⟨[],H,I,.nil,h⟩
theorem nU{X:Cx}{pos:Nf}{k v:Expr}{ks:List (Option Expr)}{vs:List Expr}{tk tv:TE}{trs:List (TE×TE)}(hk:PE X k tk)(hv:PE X v tv)(hr:PPs X pos ks vs trs) :
  PPs X pos (some k::ks) (v::vs) ((tk,tv)::trs):=fun pins s σ H Q I h=>
 pairTrees_cons_walk (thn (hk pins s σ H _ I h) fun u s1 ⟨x,H1,I1,rx,q1⟩=>thn (hv pins s1 σ H1 _ I1 q1) fun w2 s2 ⟨y,H2,I2,ry,q2⟩=>
  thn (hr pins s2 σ H2 _ I2 q2) fun ws s3 ⟨ps,H3,I3,rel,q3⟩=>⟨(x,y)::ps,H3,I3,.cons ⟨rx,ry⟩ rel,q3⟩)
def fY(kvs more:List (Key×V)):List (Key×V):=more.foldl (fun acc kv=>putK acc kv.1 kv.2) kvs
theorem KV.merge:∀{more:List (Key×V)}{rs:List (Key×LD)}{kvs:List (Key×V)}{vs:List (Key×LD)},KV more rs->KV kvs vs->KV (fY kvs more) (merged vs rs):=by
 intro more rs kvs vs r;unfold KV at r
 induction r generalizing kvs vs with
 | nil=>intro q;exact q
 | @cons p q ps qs h t ih=>
  intro r0
  have e:KV (putK kvs p.1 p.2) (stored vs q.1 q.2):=by
   have:=r0.put p.1 h.2;rw[← h.1];exact this
  exact ih e
theorem jk:∀(more kvs:List (Key×V)),(fY kvs more).length<=kvs.length+more.length
 | [],kvs=>by show kvs.length<=kvs.length+0;omega
 | p::r,kvs=>by
  have h1:=jk r (putK kvs p.1 p.2);have h2:=iX kvs p.1 p.2;show (fY (putK kvs p.1 p.2) r).length<=_;rw[LS];omega
theorem ng{P:LY}{w:Ly}:∀{kvs:List (Key×V)}{ws:List (LD×LD)},VV (kvs.map fun kv=>(kV kv.1,kv.2)) ws->∃rs,Carries (aj P w) ws rs/\KV kvs rs
 | [],_,r=>by rw[Ot] at r;cases r;exact⟨[],Nl,.nil⟩
 | p::kvs,_,r=>by
  rw[LQ] at r;cases r with
  | @cons a b as bs h t=>
   obtain⟨rs,c,q⟩:=ng (P:=P) (w:=w) t;obtain⟨b1,b2⟩:=b;exact⟨(p.1,b2)::rs,⟨oe h.1,rfl,c⟩,.cons ⟨rfl,h.2⟩ q⟩
def HC(trs:List (TE×TE)):TE:=fun σ H Q=>∀p,H p=none->mF trs σ (upd H p (.dK [])) fun ps H2=>H2 p=some (.dK [])/\∃kvs:List (Key×V),ps=kvs.map (fun kv=>(kV kv.1,kv.2))/\kvs.length<=15/\Q (.ref p) (upd H2 p (.dK (fY [] kvs)))
theorem wH{X:Cx}{pos:Nf}{keys:List (Option Expr)}{values:List Expr}{trs:List (TE×TE)}(h:PPs X pos keys values trs)(hall:keys.all (·.isSome)=true)(hl:keys.length=values.length)(h0:keys≠[])
  (h15:keys.length<=15):PE X (.Dict keys values pos) (HC trs):=by
 intro pins s σ H Q I q;have hn:=I.hok.fresh (LZ s.heap.objs.size);have I1:=I.laid (a:=s.heap.objs.size) (o:=.dK []) (h':=s.heap.push { cls:=.type "dict",data:=.dict #[] }) (t':=s.toks) (fun _ _ q=>LH _ q) (LZ _) (tm s.heap I.big);refine wpAny_Dict_walk (knd:=aj X.prog X.w) hall hl h0 h15 (thn (h pins _ σ _ _ I1 (q _ hn)) fun ws s2 ⟨ps,H2,I2,rel,e,kvs,ep,lk,q2⟩=>?_);subst ep;obtain⟨rs,c,rk⟩:=ng (P:=X.prog) (w:=X.w) rel;obtain⟨z,hd,vs0,r0,dd⟩:=Dp I2.hok e;cases r0;refine⟨rs,c,dd,fun h' dd' hs=>⟨.ref s.heap.objs.size,_,?_,rfl,q2⟩⟩
 have hz:(fY [] kvs).length<=sizeLine:=by
  have h1:=jk kvs [];rw[Pu] at h1;rw[MJ];omega
 have he:∃q,h'.get? s.heap.objs.size=some q:=let ⟨q,_,_,hq,_⟩:=dd';⟨q,hq⟩
 exact oD I2 (by rw[e];exact Nl) hs he (yc hz hd (rk.merge .nil) dd')
end L2
namespace Att
open PySem PySem.W PySem.Calls PyProof.Rows
theorem lK{P:Params}{h:Heap}:∀(ns:List Int)(vs:List LD),WellAll P h vs (ns.map WData.int)->TM vs ns:=by
 intro ns
 induction ns with
 | nil=>
  intro vs w;rw[Ot] at w;cases w;exact .nil
 | cons n ns ih=>
  intro vs w;rw[LQ] at w;cases w with
  | cons a b=>
   cases a;exact .cons _ _ (ih _ b)
theorem vP{l:OpenLaw}{n:Nat}(hn:l.most=some n){P:Params}{h:Heap}{args:List WData}{vals:List LD}
  (hpre:l.row.toRowW.claim.pre args=true) (hwl:WellAll P h vals args) :
  ∃a vs ns,vals=[Mn a]/\args=[WData.list (ns.map WData.int)]/\h.get? a=some { cls:=.type "list",data:=.seq vs.toArray }/\TM vs ns/\ns.length<=n:=by
 have hsh:WShape.hasAll [] args [.list .int]=true:=(pre_splitW hpre).1;have hc:l.pre.holds [] { args:=args }=true:=(pre_splitW hpre).2;obtain⟨d,r,rfl,h1,h2⟩:=hasAllW_cons hsh;obtain rfl:=hasAllW_nil h2;obtain⟨xs,rfl,h3⟩:=hasW_list h1;obtain⟨ns,rfl⟩:=items_int h3
 have hlen:ns.length<=n:=by
  unfold OpenLaw.pre at hc
  have h4:(WTm.not (.lt (.lit (.int (n:Int))) (.len (.arg 0)))).holds [] { args:=[.list (ns.map .int)] }=true:=by
   have h4:=(holds_andW hc).1;rw[hn] at h4;exact h4
  have h5:=condW_of h4 (w_not (w_lt w_lit (w_len_list (w_arg rfl))));rw[LI] at h5;refine Nat.le_of_not_lt fun q=>?_;have q':(n:Int)<((ns.length:Nat):Int):=by omega
  first
   | (rw[decide_eq_true q'] at h5;exact absurd h5 (by decide))
   | (simp at h5;omega)
 cases hwl with
 | cons w1 w2=>
  cases w2;cases w1 with
  | list ho hall=>exact⟨_,_,ns,rfl,rfl,ho,lK ns _ hall,hlen⟩
theorem wy(l:OpenLaw)(args:List WData):l.row.toRowW.claim.post args (.bool true) args=true:=
 postW_of (r:=l.row.toRowW) (X:=(true == true))
  (show WShape.has [] (.bool true) .bool=true by first | rfl | decide | simp[WShape.has,WShape.arms,WShape.armsAll])
  (show (WTm.eq .res (.lit (.bool true))).value [] { args:=args,res:=some (.bool true),after:=args }=some (.bool (true == true)) from w_eq_bool (w_res rfl) w_lit) rfl
theorem attach_call{l:OpenLaw}{n:Nat}{q:LY}{loose:List Str}{XP:(Str->Option LD)->Heap->Prop}{YP:Ly->Heap->Prop}{d:DefRec}
  (hn:l.most=some n) (hdf:d.params.defaults=[])
  (call:∀(w:Ly)(s₀ s₁:LG)(mg mb:Str->Option LD)(fa:Addr)(o:Obj)(pm cd doc:LD)(a:Addr)(vs:List LD)(ns:List Int),
   Ground q loose [] XP w s₀ mg mb s₁.heap->YP w s₁.heap->
   s₁.heap.get? fa=some o->o.data=.func (docDef d.name d.params d.body d.scope pm cd doc)->s₁.heap.CodeRec cd d.name->mg d.name=some (.ref fa)->
   s₁.heap.get? a=some { cls:=.type "list",data:=.seq vs.toArray }->TM vs ns->ns.length<=n->s₁.gens=#[]->
   P9 (Lz l.prog w) R1 (.call (.ref fa) ⟨[.ref a],[]⟩) (fun r s'=>r=.ok (.ret (.bool true))/\OldK s₁.heap s'.heap/\s'.os=s₁.os/\QA s'.gens) s₁) :
  WalkO q loose XP YP l.row.toRowW d [] (fun f vs=>Sb f vs):=by
 intro w s₀ s₁ mg mb G Y fa o pm cd doc dV kV ho hd hcd hD hmg hg args vals as hpre hlay hrd hwl hlo;obtain rfl:dV=.none:=Dflts.none hD hdf;obtain rfl:kV=.none:=Dflts.noKw hD;obtain⟨a,vs,ns,rfl,rfl,hobj,hints,hlen⟩:=vP hn hpre hwl;refine enter_call (Oe (call w s₀ s₁ mg mb fa o pm cd doc a vs ns G Y ho (fd_plain hd) hcd hmg hobj hints hlen hg) fun r s' hq=>?_);obtain⟨rfl,h2,h3,h4⟩:=hq;exact⟨.inl ⟨.bool true,.bool true,[],rfl,fun _=>rfl,.bool true,wy l _,fun _=>⟨Px,fun _ hm=>(nomatch hm)⟩⟩,h2,h3,h4⟩
end Att
namespace L2
open PySem PySem.Spec PyProof.Rows
theorem oO:∀{vs:List LD}{ns:List Int},TM vs ns->Vals (ns.map V.int) vs
 | _,_,.nil=>.nil
 | _,_,.cons n t h=>.cons ⟨t,rfl⟩ (oO h)
def Jg(H:Hp):Prop:=∀b,H b=none\/∃o xs,H b=some (.frz o (.lst xs))
end L2
namespace L2
open PySem PySem.Spec PyProof.Rows
def fT(s:Stmt):Arguments:=match s with
 | .FunctionDef _ a _ _ _ _ _ _ _ _=>a
 | _=>{ posonlyargs:=[],args:=[],vararg:=none,kwonlyargs:=[],kw_defaults:=[],kwarg:=none,defaults:=[] }
def bT(s:Stmt):List Stmt:=match s with
 | .FunctionDef _ _ b _ _ _ _ _ _ _=>b
 | _=>[]
def ab(s:Stmt):Scope:=match s with
 | .FunctionDef _ _ _ _ _ _ sc _ _ _=>sc
 | _=>{ kind:=.function,names:=[],isGenerator:=false,isCoroutine:=false }
abbrev CX0:CXT:=fun _ _ _ _ _ _=>False
abbrev E0:XK:=fun _ _ _=>False
theorem Cj{X:Cx}:Passes CX0 X E0:=fun _ _ _ _ _ _ _ h=>h.elim
structure Fun(K:LC)(x qual:Str)(st:Stmt)(f:Addr)(fd:FuncData):Prop where
 ex:∃(oc:LD)(od:Option Addr)(kV doc pm:LD)(an:Option Addr)(cdv ct:LD)(osl:Array (Option LD)),
  fd=N7 x qual (fT st) (bT st) (ab st) .none kV doc pm an cdv ct/\K.lookup f=some ⟨oc,od,.func fd,osl⟩/\OP K cdv qual=true
 kp:NR K (.ref f)=true
section
variable{P : LY}{w : Ly}{K : LC}{mg : Str → Option LD}{base : Heap}
theorem Fun.ok{x qual:Str}{st:Stmt}{f:Addr}{fd:FuncData}{N ps:List Str}{k:Nat}{sp:Sp}(F:Fun K x qual st f fd)(S:FnScope N ps (ab st))(len:∀vs H Q E,sp vs H Q E->vs.length=ps.length)
  (hbody:∀(cdv:LD)(A:M3)(outer:List Qo)(s:LG)(H:Hp)(vs:List V)(Q:VK)(E:XK),Room k (A.deeper (Oh qual (ab st) s.heap.objs.size f cdv))->sp vs H Q E->
   ∃t,PSs (Ds CX0 P w K mg base N qual (ab st) f cdv A outer s H E).nox (bT st) t/\t { nx:=fun _ H'=>Q .non H',rt:=Q } (start N vs) H):FnOk P w K mg base CX0 (k+1) f fd ps sp:=by
 obtain⟨oc,od,kV,doc,pm,an,cdv,ct,osl,rfl,lk,hcd⟩:=F.ex;refine J5 lk hcd S len fun A outer s H vs Q E hr hsp=>?_;obtain⟨t,h,q⟩:=hbody cdv A outer s H vs Q E hr hsp;exact⟨t,h.nox,q⟩
theorem Fun.binds{x qual:Str}{st:Stmt}{f:Addr}{fd:FuncData}{ps:List Str}(F:Fun K x qual st f fd)
  (h:∀(kV doc pm:LD)(an:Option Addr)(cdv ct:LD)(us:List LD),us.length=ps.length->bindArgs (N7 x qual (fT st) (bT st) (ab st) .none kV doc pm an cdv ct) ⟨us,[]⟩=pure (ps.zip us)):Binds K fd ps []:=by
 obtain⟨oc,od,kV,doc,pm,an,cdv,ct,osl,rfl,lk,hcd⟩:=F.ex;exact .all (h kV doc pm an cdv ct)
theorem Bf{x qual:Str}{st:Stmt}{f:Addr}{oc:LD}{od an:Option Addr}{osl:Array (Option LD)}{kV doc pm cdv ct:LD}(l:K.lookup f=some ⟨oc,od,.func (N7 x qual (fT st) (bT st) (ab st) .none kV doc pm an cdv ct),osl⟩)
  (c:OP K cdv qual=true) (k:NR K (.ref f)=true):Fun K x qual st f (N7 x qual (fT st) (bT st) (ab st) .none kV doc pm an cdv ct):=⟨⟨oc,od,kV,doc,pm,an,cdv,ct,osl,rfl,l,c⟩,k⟩
end
theorem zY{A B:Prop}(h:B):if false=true then A else B:=by
 rw[if_neg LX];exact h
theorem zX{A B:Prop}(h:A):if true=true then A else B:=by
 rw[if_pos rfl];exact h
end L2
end
namespace PU
theorem zU(s:PySem.Str)(l:List PySem.Str):PySem.Txt.join s l=NY s l:=PySem.StrLaws.glued_eq_join s l
end PU
section
namespace PU
open PySem L2
structure Lam where
 qual:Str
 args:Arguments
 body:FuncBody
 scope:Scope
 kept:List Str
 name:Str
inductive PV where
 | non | bl (b:Bool) | int (i:Int) | str (x:Str)
 | tup (ps:List PV) | lst (ps:List PV)
 | dct (ks:List Key) (ps:List PV) | dtt (ks:List jF) (ps:List PV)
 | fn (L:Lam) (cs:List PV)
def KS:List (List Str):=[["name"],["letters key","letters"],["name","many","name","many","name","text"],["key","target"],["word","name"],["name","name"],["from","till","name"],["name","text"],["menu","names","hours","hand","end"],
 ["new"],["house"],["house","hour"],["call","signs"],["call"],["house","hour","out"],["house","house","hour"],["house","names"],["hand","end"],["names"]]
def vK:List PV->List Str->Bool
 | [],[]=>true
 | .str x::ps,y::ys=>x == y && vK ps ys
 | _,_=>false
def xA(ps:List PV):Bool:=KS.any (vK ps)
structure PX where
 cls:Str
 args:List PV
inductive R (α:Type) where
 | ok (a:α) | er (x:PX) | no
namespace R
protected def bind{α β:Type}:R α->(α->R β)->R β
 | ok a,f=>f a
 | er x,_=>er x
 | no,_=>no
instance:Monad R where
 pure:=R.ok
 bind:=R.bind
@[simp] theorem ok_bind{α β:Type}(a:α)(f:α->R β):(R.ok a >>= f)=f a:=rfl
@[simp] theorem J9{α β:Type}(x:PX)(f:α->R β):((R.er x:R α) >>= f)=R.er x:=rfl
@[simp] theorem Ik{α β:Type}(f:α->R β):((R.no:R α) >>= f)=R.no:=rfl
@[simp] theorem HR{α:Type}(a:α):(pure a:R α)=R.ok a:=rfl
def ofO{α:Type}:Option α->R α
 | some a=>ok a
 | none=>no
@[simp] theorem ofO_some{α:Type}(a:α):ofO (some a)=R.ok a:=rfl
@[simp] theorem ofO_none{α:Type}:ofO (none:Option α)=R.no:=rfl
theorem bind_assoc{α β γ:Type}(r:R α)(f:α->R β)(g:β->R γ):((r >>= f) >>= g)=(r >>= fun a=>f a >>= g):=by cases r <;> rfl
end R
inductive Fld where
 | val (p:PV) | own (p:PV)
inductive Tr where
 | leaf (p:PV) | node (ks:List Key) (fs:List Fld)
inductive Sl where
 | no | val (p:PV) | own (p:PV) | tree (t:Tr)
abbrev PSt:=List Sl
def a8(i:Nat)(ρ:PSt):R PV:=match ρ[i]? with
 | some (.val p)=>.ok p
 | _=>.no
def lN(i:Nat)(ρ:PSt):R PV:=match ρ[i]? with
 | some (.val p)=>.ok p
 | some (.own p)=>.ok p
 | some (.tree (.leaf p))=>.ok p
 | _=>.no
def kI(i:Int):PSt->R PV:=fun _=>.ok (.int i)
def kB(b:Bool):PSt->R PV:=fun _=>.ok (.bl b)
def kN:PSt->R PV:=fun _=>.ok .non
def kS(x:Str):PSt->R PV:=fun _=>.ok (.str x)
def kP(p:PV):PSt->R PV:=fun _=>.ok p
def aQ:PSt->R (List PV):=fun _=>.ok []
def a7(f:PSt->R PV)(fs:PSt->R (List PV)):PSt->R (List PV):=fun ρ=>f ρ >>= fun p=>fs ρ >>= fun ps=>.ok (p::ps)
def iB(ps:List PV):R (List PV):=if ps.length<=16777216 then .ok ps else .no
def gQ(fs:PSt->R (List PV)):PSt->R PV:=fun ρ=>fs ρ >>= fun ps=>iB ps >>= fun ps=>.ok (.tup ps)
def kD(fs:PSt->R (List PV)):PSt->R PV:=fun ρ=>fs ρ >>= fun ps=>iB ps >>= fun ps=>.ok (.lst ps)
def ai(fa fb:PSt->R PV)(g:PV->PV->Option PV):PSt->R PV:=fun ρ=>fa ρ >>= fun p=>fb ρ >>= fun q=>R.ofO (g p q)
def kf(fa fb fc:PSt->R PV)(g g':PV->PV->Option PV):PSt->R PV:=fun ρ=>fa ρ >>= fun p=>fb ρ >>= fun q=>R.ofO (g p q) >>= fun z=>match z with
 | .bl true=>fc ρ >>= fun r=>R.ofO (g' q r)
 | .bl false=>.ok (.bl false)
 | _=>.no
def kj:PV->Option Bool
 | .non=>some false
 | .bl b=>some b
 | .int i=>some (i != 0)
 | .str y=>if y.length<=16777216 then some ((y.length:Int) != 0) else none
 | .tup ps=>some (!ps.isEmpty)
 | .lst ps=>some (!ps.isEmpty)
 | .dct ks _=>some (!ks.isEmpty)
 | .dtt _ _=>none
 | .fn _ _=>none
def bU(f:PSt->R PV):PSt->R Bool:=fun ρ=>f ρ >>= fun p=>R.ofO (kj p)
def bD:PV->PV->Option PV
 | .int i,.int j=>some (.int (i+j))
 | .str x,.str y=>if x.length+y.length<=16777216 then some (.str (x++y)) else none
 | .lst ps,.lst qs=>if ps.length+qs.length<=16777216 then some (.lst (ps++qs)) else none
 | .tup ps,.tup qs=>if ps.length+qs.length<=16777216 then some (.tup (ps++qs)) else none
 | _,_=>none
def FW:PV->PV->Option PV
 | .int i,.int j=>some (.int (i-j))
 | _,_=>none
def yF:PV->PV->Option PV
 | .int i,.int j=>if i.natAbs<18446744073709551616\/j.natAbs<18446744073709551616 then some (.int (i * j)) else none
 | _,_=>none
def lQ:PV->PV->Option PV
 | .int i,.int j=>if 0<j/\j<1073741824 then some (.int (i / j)) else none
 | _,_=>none
def i9:PV->PV->Option PV
 | .int i,.int j=>if 0<j then some (.int (i % j)) else none
 | _,_=>none
inductive Fl where
 | next (ρ:PSt) | brk (ρ:PSt) | cont (ρ:PSt) | ret (p:PV)
def bX(g g':PSt->R Fl):PSt->R Fl:=fun ρ=>g ρ >>= fun fl=>match fl with
 | .next ρ'=>g' ρ'
 | .brk ρ'=>.ok (.brk ρ')
 | .cont ρ'=>.ok (.cont ρ')
 | .ret p=>.ok (.ret p)
def bA:PSt->R Fl:=fun ρ=>.ok (.next ρ)
def cv(f:PSt->R PV):PSt->R Fl:=fun ρ=>f ρ >>= fun p=>.ok (.ret p)
def ifF(t:PSt->R Bool)(g g':PSt->R Fl):PSt->R Fl:=fun ρ=>t ρ >>= fun k=>if k=true then g ρ else g' ρ
def dN(i:Nat)(f:PSt->R PV):PSt->R Fl:=fun ρ=>f ρ >>= fun p=>.ok (.next (ρ.set i (.val p)))
def zD(i:Nat)(f:PSt->R PV):PSt->R Fl:=fun ρ=>f ρ >>= fun p=>.ok (.next (ρ.set i (.own p)))
def noF:PSt->R Fl:=fun _=>.no
def rC(i:Nat)(ρ:PSt):PSt:=match ρ[i]? with
 | some (.own p)=>ρ.set i (.val p)
 | _=>ρ
def Ad(i:Nat)(g:PSt->R Fl):PSt->R Fl:=fun ρ=>g (rC i ρ)
abbrev Tgt:=PV->PSt->Option PSt
abbrev vc:=List PV->PSt->Option PSt
def ak(i:Nat):Tgt:=fun p ρ=>some (ρ.set i (.val p))
def gJ:vc:=fun ps ρ=>match ps with
 | []=>some ρ
 | _::_=>none
def aE(h:Tgt)(h':vc):vc:=fun ps ρ=>match ps with
 | p::r=>(h p ρ).bind fun ρ1=>h' r ρ1
 | []=>none
def gF(n:Nat)(h:vc):Tgt:=fun p ρ=>match p with
 | .tup ps=>if ps.length=n then h ps ρ else none
 | _=>none
def qj(h:PV->PSt->Option PSt)(g:PSt->R Fl):List PV->PSt->R Fl
 | [],ρ=>.ok (.next ρ)
 | p::ps,ρ=>R.ofO (h p ρ) >>= fun ρ1=>g ρ1 >>= fun fl=>match fl with
  | .next ρ2=>qj h g ps ρ2
  | .cont ρ2=>qj h g ps ρ2
  | .brk ρ2=>.ok (.next ρ2)
  | .ret q=>.ok (.ret q)
def sR(fi:PSt->R (List PV))(h:Tgt)(g:PSt->R Fl):PSt->R Fl:=fun ρ=>fi ρ >>= fun ps=>qj h g ps ρ
def bg(fs:PSt->R (List PV))(F:List PV->Option PV):PSt->R PV:=fun ρ=>fs ρ >>= fun ps=>R.ofO (F ps)
def start(n:Nat)(ps:List PV):PSt:=ps.map Sl.val++Mg (n-ps.length) .no
def iR(m n:Nat)(g:PSt->R Fl)(ps:List PV):Option PV:=if ps.length=m then (match g (start n ps) with
 | .ok (.ret p)=>some p
 | .ok (.next _)=>some .non
 | _=>none) else none
def roS:Option Sl->Sl
 | some (.val p)=>.val p
 | _=>.no
def d7(nt:Nat)(idx:List Nat)(ρ:PSt):PSt:=Mg nt .no++idx.map fun i=>roS ρ[i]?
def bz(h:Tgt)(t:PSt->R Bool)(fe:PSt->R PV)(ρ:PSt):List PV->R (List PV)
 | []=>.ok []
 | p::ps=>R.ofO (h p ρ) >>= fun ρ1=>t ρ1 >>= fun b=>if b=true then fe ρ1 >>= fun q=>bz h t fe ρ ps >>= fun qs=>.ok (q::qs) else bz h t fe ρ ps
def yC{α:Type}:R α->R α
 | .ok a=>.ok a
 | _=>.no
def dI(fi:PSt->R (List PV))(h:Tgt)(t:PSt->R Bool)(fe:PSt->R PV)(nt:Nat)(idx:List Nat):PSt->R PV:=
 fun ρ=>fi ρ >>= fun ps=>yC (bz h t fe (d7 nt idx ρ) ps) >>= fun qs=>iB qs >>= fun qs=>.ok (.lst qs)
def gN:PSt->R Bool:=fun _=>.ok true
mutual
def bE:PV->PV->Option Bool
 | .non,q=>match q with
  | .non=>some true | .bl _=>some false | .int _=>some false | .str _=>some false | .tup _=>some false | .lst _=>some false | _=>none
 | .bl a,q=>match q with
  | .bl b=>some (a == b) | .int b=>some ((if a then 1 else 0) == b) | .non=>some false | .str _=>some false | .tup _=>some false | .lst _=>some false | _=>none
 | .int a,q=>match q with
  | .int b=>some (a == b) | .bl b=>some (a == (if b then 1 else 0)) | .non=>some false | .str _=>some false | .tup _=>some false | .lst _=>some false | _=>none
 | .str a,q=>match q with
  | .str b=>some (a == b) | .non=>some false | .bl _=>some false | .int _=>some false | .tup _=>some false | .lst _=>some false | _=>none
 | .tup ps,q=>match q with
  | .tup qs=>dC ps qs | .non=>some false | .bl _=>some false | .int _=>some false | .str _=>some false | .lst _=>some false | _=>none
 | .lst ps,q=>match q with
  | .lst qs=>dC ps qs | .non=>some false | .bl _=>some false | .int _=>some false | .str _=>some false | .tup _=>some false | _=>none
 | _,_=>none
def dC:List PV->List PV->Option Bool
 | [],[]=>some true
 | [],_::_=>some false
 | _::_,[]=>some false
 | p::ps,q::qs=>(bE p q).bind fun a=>(dC ps qs).bind fun b=>some (a && b)
end
mutual
def mi:PV->Nat
 | .tup ps=>bL ps+1
 | .lst ps=>bL ps+1
 | .dct _ ps=>bL ps+1
 | .dtt _ ps=>bL ps+1
 | .fn _ ps=>bL ps+1
 | _=>0
def bL:List PV->Nat
 | []=>0
 | p::ps=>max (mi p) (bL ps)
end
def iW(ps qs:List PV)(j:Nat):Bool:=match ps[j]?,qs[j]? with
 | some p,some q=>(bE p q).getD false
 | _,_=>false
def lE:PV->Bool
 | .non=>true | .bl _=>true | .int _=>true | .str _=>true
 | _=>false
def scV:PV->V
 | .bl b=>.bl b | .int i=>.int i | .str x=>.str x
 | _=>.non
def eU:List Key->List PV->Key->Option PV
 | k::ks,p::ps,j=>if k=j then some p else eU ks ps j
 | _,_,_=>none
def iZ(e:PV->PV->Option Bool):List Key->List PV->List Key->List PV->Option Bool
 | k::ks,p::ps,ls,qs=>match eU ls qs k with
  | none=>some false
  | some q=>(e p q).bind fun a=>(iZ e ks ps ls qs).bind fun b=>some (a && b)
 | [],[],_,_=>some true
 | _,_,_,_=>none
def lb:Nat->PV->PV->Option Bool
 | n+1,.dct ks ps,.dct ls qs=>if ks.length=ls.length then iZ (lb n) ks ps ls qs else some false
 | _,p,q=>bE p q
def gEq:PV->PV->Option PV
 | .dct ks ps,.dct ls qs=>if bL ps<=60 then (lb 3 (.dct ks ps) (.dct ls qs)).map .bl else none
 | .tup ps,.tup qs=>if bL ps<=60 then (dC ps qs).map .bl else none
 | .lst ps,.lst qs=>if bL ps<=60 then (dC ps qs).map .bl else none
 | p,q=>if lE p=true/\lE q=true/\AO (scV p) (scV q)=true then some (.bl (decide (scV p=scV q))) else none
def gNe:PV->PV->Option PV
 | .tup ps,.tup qs=>if bL ps<=60 then (dC ps qs).map fun b=>.bl (!b) else none
 | .lst ps,.lst qs=>if bL ps<=60 then (dC ps qs).map fun b=>.bl (!b) else none
 | p,q=>if lE p=true/\lE q=true/\AO (scV p) (scV q)=true then some (.bl (!decide (scV p=scV q))) else none
def gLt:PV->PV->Option PV
 | .int i,.int j=>some (.bl (decide (i<j)))
 | .str x,.str y=>some (.bl (decide (x.cps.toList<y.cps.toList)))
 | _,_=>none
def gLe:PV->PV->Option PV
 | .int i,.int j=>some (.bl (decide (i<=j)))
 | .str x,.str y=>some (.bl (!decide (y.cps.toList<x.cps.toList)))
 | _,_=>none
def gGt:PV->PV->Option PV
 | .int i,.int j=>some (.bl (decide (j<i)))
 | _,_=>none
def gGe:PV->PV->Option PV
 | .int i,.int j=>some (.bl (decide (j<=i)))
 | _,_=>none
def lF:PV->Bool
 | .non=>true
 | _=>false
def DX:PV->PV->Option PV
 | p,.non=>some (.bl (lF p))
 | _,_=>none
def gm:PV->Option Key
 | .int i=>some (.inl i)
 | .str x=>some (.inr x)
 | _=>none
def gIx:PV->PV->Option PV
 | .lst ps,.int i=>atI ps i
 | .tup ps,.int i=>atI ps i
 | .str z,.int i=>if z.length<=16777216 then (atI z.cps.toList i).map fun c=>.str ⟨#[c]⟩ else none
 | .dct ks ps,k=>(gm k).bind fun k=>eU ks ps k
 | _,_=>none
def inS(x y:Str):Bool:=!(Lx y x 0 y.length 1).isEmpty
def gIn:PV->PV->Option PV
 | .str x,.str y=>some (.bl (inS x y))
 | p,.lst qs=>if lE p=true/\qs.all lE=true then some (.bl (inV (scV p) (qs.map scV))) else none
 | p,.tup qs=>if lE p=true/\qs.all lE=true then some (.bl (inV (scV p) (qs.map scV))) else none
 | p,.dct ks _=>(gm p).map fun k=>.bl (ks.any fun j=>decide (j=k))
 | _,_=>none
def ka(p q:PV):Option PV:=(gIn p q).bind fun z=>match z with
 | .bl b=>some (.bl (!b))
 | _=>none
def GT(t u:PSt->R Bool):PSt->R Bool:=fun ρ=>t ρ >>= fun c=>if c=true then u ρ else .ok false
def orB(t u:PSt->R Bool):PSt->R Bool:=fun ρ=>t ρ >>= fun c=>if c=true then .ok true else u ρ
def nZ(t:PSt->R Bool):PSt->R Bool:=fun ρ=>t ρ >>= fun c=>.ok (!c)
def yH(fa fb:PSt->R PV):PSt->R PV:=fun ρ=>fa ρ >>= fun p=>match p with
 | .bl true=>fb ρ
 | .bl false=>.ok (.bl false)
 | _=>.no
def orV(fa fb:PSt->R PV):PSt->R PV:=fun ρ=>fa ρ >>= fun p=>match p with
 | .bl true=>.ok (.bl true)
 | .bl false=>fb ρ
 | _=>.no
def ifV(t:PSt->R Bool)(fa fb:PSt->R PV):PSt->R PV:=fun ρ=>t ρ >>= fun c=>if c=true then fa ρ else fb ρ
def un1(f:PSt->R PV)(g:PV->Option PV):PSt->R PV:=fun ρ=>f ρ >>= fun p=>R.ofO (g p)
def iC:PV->Option PV
 | .lst ps=>some (.int ps.length)
 | .tup ps=>some (.int ps.length)
 | .str x=>if x.length<=16777216 then some (.int x.length) else none
 | .dct ks _=>some (.int ks.length)
 | _=>none
def GQ:PV->Option PV
 | .int i=>some (.int i)
 | .bl b=>some (.int (if b then 1 else 0))
 | _=>none
def k9:PV->Option PV
 | .lst ps=>some (.tup ps)
 | .tup ps=>some (.tup ps)
 | _=>none
def GP:PV->Option PV
 | .str x=>if x.length=1 then some (.int (x.cps.getD 0 0:Nat)) else none
 | _=>none
def xo:Key->PV
 | .inl i=>.int i
 | .inr x=>.str x
def fA(x:Str):List PV:=x.cps.toList.map fun c=>.str ⟨#[c]⟩
def jm:PV->Option (List PV)
 | .lst ps=>some ps
 | .tup ps=>some ps
 | .dct ks _=>some (ks.map xo)
 | .str x=>some (fA x)
 | _=>none
def itF(f:PSt->R PV):PSt->R (List PV):=fun ρ=>f ρ >>= fun p=>R.ofO (jm p)
def dU(lo:Int)(n:Nat):List PV:=(M9 n).map fun i=>.int (lo+(i:Nat))
def zf(f:PSt->R PV):PSt->R (List PV):=fun ρ=>f ρ >>= fun p=>match p with
 | .int j=>if j.natAbs<1000000000 then .ok (dU 0 j.toNat) else .no
 | _=>.no
def yr(i:Nat)(f:PSt->R PV):PSt->R Fl:=fun ρ=>match ρ[i]? with
 | some (.own (.lst ps))=>f ρ >>= fun p=>if ps.length<16777216 then .ok (.next (ρ.set i (.own (.lst (ps++[p]))))) else .no
 | _=>.no
def mN(ps:List PV):List (List PV):=(M9 ps.length).zipWith (fun (i:Nat) p=>[.int (i:Int),p]) ps
def xY:PV->Option (List PV)
 | .lst ps=>some ((mN ps).map .tup)
 | .str x=>some ((mN (fA x)).map .tup)
 | _=>none
def uO(f:PSt->R PV):PSt->R (List PV):=fun ρ=>f ρ >>= fun p=>R.ofO (xY p)
def tyN:PV->String
 | .non=>"NoneType" | .bl _=>"bool" | .int _=>"int" | .str _=>"str" | .tup _=>"tuple" | .lst _=>"list" | .dct _ _=>"dict" | .dtt _ _=>"dict" | .fn _ _=>"function"
def FS (t c:String):Bool:=t == c || (t == "bool" && c == "int")
def kJ(c:String):PV->Option PV
 | .fn _ _=>none
 | p=>some (.bl (FS (tyN p) c))
def xG:PV->Option PV
 | .int i=>if i.natAbs.log2<1920 then some (.str (Pz i)) else none
 | .str x=>some (.str x)
 | _=>none
def FX:PV->Option PV
 | .int i=>some (.int (-i))
 | _=>none
def ri:PV->Bool
 | .str _=>true
 | _=>false
def jh(fo fe:PSt->R PV)(g:PV->PV->Option PV):PSt->R PV:=fun ρ=>fo ρ >>= fun p=>if ri p=true then fe ρ >>= fun q=>R.ofO (g p q) else .no
def iG:List PV->Option (List Str)
 | []=>some []
 | .str x::r=>(iG r).map (x::·)
 | _::_=>none
def kF(x:Str):List Str->List Str
 | []=>[x]
 | y::r=>if x=y then y::r else if x.cps.toList<y.cps.toList then x::y::r else y::kF x r
def cN(l:List Str):List Str:=l.foldr kF []
def jt:PV->Option PV
 | .lst ps=>(iG ps).bind fun ys=>if ys.length<64 then some (.lst ((cN ys).map .str)) else none
 | _=>none
def lP:PV->PV->Option PV
 | .str x,.lst ps=>(iG ps).bind fun ys=>if (ys.map (·.length)).sum+ys.length * x.length<=16777216 then some (.str (Txt.join x ys)) else none
 | .str x,.tup ps=>(iG ps).bind fun ys=>if (ys.map (·.length)).sum+ys.length * x.length<=16777216 then some (.str (Txt.join x ys)) else none
 | _,_=>none
def yi{α:Type}(xs:List α)(lo hi:Option Int):List α:=(xs.drop (HT.sIx xs.length 0 lo)).take (HT.sIx xs.length xs.length hi-HT.sIx xs.length 0 lo)
def gSl:PV->Option Int->Option Int->Option PV
 | .lst ps,lo,hi=>some (.lst (yi ps lo hi))
 | .tup ps,lo,hi=>if HT.sIx ps.length 0 lo=0/\HT.sIx ps.length ps.length hi=ps.length then none else some (.tup (yi ps lo hi))
 | _,_,_=>none
def sH:PSt->R (Option Int):=fun _=>.ok none
def vb(f:PSt->R PV):PSt->R (Option Int):=fun ρ=>f ρ >>= fun p=>match p with
 | .int i=>.ok (some i)
 | _=>.no
def p7(f:PSt->R PV)(l h:PSt->R (Option Int)):PSt->R PV:=fun ρ=>f ρ >>= fun p=>l ρ >>= fun lo=>h ρ >>= fun hi=>R.ofO (gSl p lo hi)
def GH(f:PSt->R PV)(h:Tgt):PSt->R Fl:=fun ρ=>f ρ >>= fun p=>R.ofO (h p ρ) >>= fun ρ'=>.ok (.next ρ')
def wb(ks:List Key)(ps:List PV)(k:Key)(p:PV):List PV:=ks.zipWith (fun j q=>if j=k then p else q) ps
def ur(ks:List Key)(ps:List PV)(k:Key)(p:PV):PV:=if (ks.any fun j=>decide (j=k))=true then .dct ks (wb ks ps k p) else .dct (ks++[k]) (ps++[p])
def C7(i:Nat)(fk fv:PSt->R PV):PSt->R Fl:=fun ρ=>match ρ[i]? with
 | some (.own (.dct ks ps))=>fv ρ >>= fun p=>fk ρ >>= fun kp=>R.ofO (gm kp) >>= fun k=>if ks.length<16777216 then .ok (.next (ρ.set i (.own (ur ks ps k p)))) else .no
 | _=>.no
def newD:PSt->R PV:=fun _=>.ok (.dct [] [])
def GN:PSt->R (List (Key×PV)):=fun _=>.ok []
def uR(fk fv:PSt->R PV)(f:PSt->R (List (Key×PV))):PSt->R (List (Key×PV)):=fun ρ=>fk ρ >>= fun kp=>R.ofO (gm kp) >>= fun k=>fv ρ >>= fun p=>f ρ >>= fun r=>.ok ((k,p)::r)
def pT(kps:List (Key×PV)):PV:=kps.foldl (fun d kp=>match d with
 | .dct ks ps=>ur ks ps kp.1 kp.2
 | d=>d) (.dct [] [])
def Ap(f:PSt->R (List (Key×PV))):PSt->R PV:=fun ρ=>f ρ >>= fun kps=>if kps.length<=15 then .ok (pT kps) else .no
end PU
end
namespace PU
open PySem PySem.Spec PyProof.Rows L2
def jQ:Expr->Bool
 | .Starred ..=>false
 | _=>true
theorem eI{e:Expr}{es:List Expr}{env:Qo}(h:jQ e=true):Ls (e::es) env=(false,Mu e env)::Ls es env:=by
 cases e <;> first | rfl | cases h
theorem bV{e:Expr}{env:Qo}(h:jQ e=true):Ls [e] env=[(false,Mu e env)]:=eI h
theorem nG{e e2:Expr}{env:Qo}(h:jQ e=true)(h2:jQ e2=true):Ls [e,e2] env=[(false,Mu e env),(false,Mu e2 env)]:=(eI h).trans (congrArg _ (bV h2))
theorem nH{pos:Nf}{es:List Expr}{env:Qo}(h:es.all jQ=true):(Nj pos (Ls es env)).any (·.1)=false:=by
 have:∀es:List Expr,es.all jQ=true->(Ls es env).any (·.1)=false:=by
  intro es
  induction es with
  | nil=>intro _;rfl
  | cons e es ih=>
   intro h;simp only[OI,M6] at h;rw[eI h.1,Nh,ih h.2];rfl
 have h2:=this es h
 have h3:(Nj pos (Ls es env)).map (·.1)=(Ls es env).map (·.1):=by
  unfold Nj;simp[M4,Ox]
 have:(Nj pos (Ls es env)).any (·.1)=((Nj pos (Ls es env)).map (·.1)).any id:=by rw[Ou];rfl
 rw[this,h3,Ou];exact h2
class TW where
 w:Ly
 tabs:List Addr:=[]
 qual:Nat->Nat->Str:=fun _ _=>⟨#[]⟩
variable[TW]
def yy(c:Addr)(q:Str):HO:=.ext fun h=>h.CodeRec (.ref c) q
def TOk(H:Hp)(ps:Array LD):Prop:=TriplesOk ps.toList/\∀pos v,codeAmong pos ps.toList=some v->∃c,v=.ref c/\H c=some (yy c (TW.qual pos.line pos.col))
def rh:HO->Bool
 | .tbl _=>true
 | _=>false
structure Same(H H':Hp):Prop where
 at_:∀b o,H b=some o->∀(n:rh o=false:=by rfl),H' b=some o
 tb:∀b ps,H b=some (.tbl ps)->∃ps',H' b=some (.tbl ps')/\(TOk H ps->TOk H' ps')
instance {H H':Hp}:CoeFun (Same H H') (fun _=>∀b o,H b=some o->∀(n:rh o=false:=by rfl),H' b=some o):=⟨@Same.at_ _ H H'⟩
theorem TOk.same{H H':Hp}{ps:Array LD}(h:∀b o,H b=some o->rh o=false->H' b=some o)(t:TOk H ps):TOk H' ps:=
 ⟨t.1,fun pos v e=>let ⟨c,e1,e2⟩:=t.2 pos v e;⟨c,e1,h _ _ e2 rfl⟩⟩
theorem Same.of{H H':Hp}(h:∀b o,H b=some o->H' b=some o):Same H H':=
 ⟨fun b o e _=>h b o e,fun b ps e=>⟨ps,h b _ e,TOk.same fun b o e _=>h b o e⟩⟩
theorem Same.refl(H:Hp):Same H H:=.of fun _ _ h=>h
theorem Same.trans{H H1 H2:Hp}(a:Same H H1)(b:Same H1 H2):Same H H2:=
 ⟨fun c o h n=>b.at_ c o (a.at_ c o h n) n,fun c ps e=>by
  obtain⟨p1,e1,k1⟩:=a.tb c ps e;obtain⟨p2,e2,k2⟩:=b.tb c p1 e1;exact⟨p2,e2,fun t=>k2 (k1 t)⟩⟩
theorem Same.free{H H':Hp}(e:Same H H'){l:Addr}(h:H' l=Option.none):H l=Option.none:=by
 cases q:H l with
 | none=>rfl
 | some o=>
  cases ho:rh o with
  | false=>rw[e.at_ l o q ho] at h;cases h
  | true=>
   cases o <;> cases ho
   obtain⟨p1,e1,_⟩:=e.tb l _ q;rw[e1] at h;cases h
def tQ(H:Hp):Prop:=∀P∈TW.tabs,∃ps,H P=some (.tbl ps)/\TOk H ps
theorem Same.tabs{H H':Hp}(s:Same H H')(t:tQ H):tQ H':=fun P hP=>by
 obtain⟨ps,e,k⟩:=t P hP;obtain⟨p1,e1,k1⟩:=s.tb P ps e;exact⟨p1,e1,k1 k⟩
def Gk(K:LC)(a:Addr)(xs:List V):Prop:=
 ∃(its:List LD) (n:Nat),K.lookup a=some { cls:=.type "list",data:=.seq its.toArray n }/\xs.length<=sizeLine/\Vals xs its
def yw(K:LC)(a:Addr)(kvs:List (Key×V)):Prop:=
 kvs.length<=sizeLine/\(a == Mb)=false/\∃(o:Obj)(es:Array DictEntry)(ep:Nat),K.lookup a=some o/\o.ExactDict/\o.data=.dict es ep/\
  ∀P:LY,∃vs,KV kvs vs/\PySem.KeysOf (aj P TW.w) es/\Pairs (aj P TW.w) es.toList vs/\(vs.map (·.1)).Nodup
theorem yw.at{K:LC}{a:Addr}{kvs:List (Key×V)}(h:yw K a kvs)(P:LY)(w:Ly)(hw:w=TW.w)(hp:Heap)(hk:K.In hp):∃vs,KV kvs vs/\hp.DictOf (aj P w) a vs:=by
 subst hw;obtain⟨_,_,o,es,ep,e,x,d,r⟩:=h;obtain⟨vs,r1,r2⟩:=r P;exact⟨vs,r1,o,es,ep,hk _ _ e,x,d,r2⟩
def SqO(K:LC)(H:Hp)(a:Addr)(xs:List V):Prop:=Rd H a (.lst xs)\/Gk K a xs
theorem SqO.l{K:LC}{H:Hp}{a:Addr}{xs:List V}(h:SqO K H a xs):SqL K H a xs:=by
 rcases h with h | ⟨its,n,e,z,r⟩
 ·exact .inl h
 ·exact .inr ⟨_,its.toArray,n,e,rfl,rfl,rfl,by rw[M0,← r.length];exact z,by simpa using r⟩
theorem SqO.is{X:Cx}{pins:List (Addr×Obj)}{σ:L2.St}{H:Hp}{s:LG}{a:Addr}{xs:List V}(I:Inv X pins σ H s)(h:SqO X.K H a xs) :
  xs.length<=sizeLine/\∃(its:List LD) (n:Nat),Vals xs its/\s.heap.get? a=some { cls:=.type "list",data:=.seq its.toArray n }:=by
 rcases h with h | ⟨its,n,e,z,r⟩
 ·obtain⟨z,its,n,r,e⟩:=h.ok I.hok
  exact⟨z,its,n,r,e⟩
 ·exact⟨z,its,n,r,I.kIn _ _ e⟩
def SqF(K:LC)(H:Hp)(a:Addr)(xs:List V):Prop:=(∃o,H a=some (.frz o (.lst xs)))\/Gk K a xs
def DkF(K:LC)(H:Hp)(a:Addr)(kvs:List (Key×V)):Prop:=(∃o,H a=some (.frz o (.dK kvs)))\/yw K a kvs
def DkR(K:LC)(H:Hp)(a:Addr)(kvs:List (Key×V)):Prop:=Rd H a (.dK kvs)\/yw K a kvs
theorem SqF.l{K:LC}{H:Hp}{a:Addr}{xs:List V}(h:SqF K H a xs):SqO K H a xs:=by
 rcases h with h | h
 ·exact .inl (.inr h)
 ·exact .inr h
theorem DkF.r{K:LC}{H:Hp}{a:Addr}{kvs:List (Key×V)}(h:DkF K H a kvs):DkR K H a kvs:=by
 rcases h with h | h
 ·exact .inl (.inr h)
 ·exact .inr h
def FnAt(f:Addr)(o:Obj):HO:=.ext fun h=>h.get? f=some o
abbrev Iw(L:Lam)(cl:List (Str×Addr))(pm:LD×LD)(cdv ct:LD):FuncData:=
 { name:=L.name,qualname:=L.qual,params:=L.args,body:=L.body,scope:=L.scope,globals:=Lv,closure:=cl,defaults:=.none,kwdefaults:=.none,doc:=pm.1,pyModule:=pm.2,annotations:=none,code:=cdv,closureTuple:=ct,builtins:=Q8 }
abbrev Ba (L:Lam) (cl:List (Str×Addr)) (pm:LD×LD) (c:Addr) (ct:LD):Obj:={ cls:=.type "function",data:=.func (Iw L cl pm (.ref c) ct) }
def j6(H:Hp):List (Str×Addr)->List V->Prop
 | [],xs=>xs=[]
 | p::cl,xs=>∃x r o u,xs=x::r/\H p.2=some (.frz o (.own 0))/\o.data=.cell (some u)/\RelV x u/\j6 H cl r
def rQ(K:LC)(H:Hp)(a:Addr)(xs:List V)(ps:List PV):Prop:=H a=some (.tup xs)\/(xA ps=true/\SqT K H a xs)
mutual
def Rep(K:LC)(H:Hp):PV->V->Prop
 | .non,v=>v=.non
 | .bl b,v=>v=.bl b
 | .int i,v=>v=.int i
 | .str x,v=>v=.str x
 | .tup ps,v=>∃a xs,v=.ref a/\rQ K H a xs ps/\aF K H ps xs
 | .lst ps,v=>∃a xs,v=.ref a/\SqF K H a xs/\aF K H ps xs
 | .dct ks ps,v=>∃a kvs,v=.ref a/\DkF K H a kvs/\kvs.map (·.1)=ks/\aF K H ps (kvs.map (·.2))
 | .dtt ks ps,v=>∃a o kvs,v=.ref a/\H a=some (.frz o (.dT kvs))/\kvs.map (·.1)=ks/\aF K H ps (kvs.map (·.2))
 | .fn L cs,v=>∃f c cl pm ct xs,v=.ref f/\H f=some (FnAt f (Ba L cl pm c ct))/\H c=some (yy c L.qual)/\cl.map (·.1)=L.kept/\(cl.map (·.2)).Nodup/\j6 H cl xs/\aF K H cs xs
def aF(K:LC)(H:Hp):List PV->List V->Prop
 | [],xs=>xs=[]
 | p::ps,xs=>∃x r,xs=x::r/\Rep K H p x/\aF K H ps r
end
def aZ(K:LC)(H:Hp):PV->V->Prop
 | .lst ps,v=>∃a xs,v=.ref a/\SqO K H a xs/\aF K H ps xs
 | .dct ks ps,v=>∃a kvs,v=.ref a/\DkR K H a kvs/\kvs.map (·.1)=ks/\aF K H ps (kvs.map (·.2))
 | .dtt ks ps,v=>∃a kvs,v=.ref a/\Rd H a (.dT kvs)/\kvs.map (·.1)=ks/\aF K H ps (kvs.map (·.2))
 | p,v=>Rep K H p v
def cP(K:LC)(H:Hp)(a:Addr):PV->Prop
 | .lst ps=>∃xs,H a=some (.lst xs)/\aF K H ps xs
 | .dct ks ps=>∃kvs,H a=some (.dK kvs)/\kvs.map (·.1)=ks/\aF K H ps (kvs.map (·.2))
 | .dtt ks ps=>∃kvs,H a=some (.dT kvs)/\kvs.map (·.1)=ks/\aF K H ps (kvs.map (·.2))
 | _=>False
def oM:HO->Bool
 | .frz _ _=>true
 | .tup _=>true
 | .ext _=>true
 | _=>false
def Kp(H H':Hp):Prop:=∀b u,H b=some u->oM u=true->H' b=some u
theorem Same.kp{H H':Hp}(h:Same H H'):Kp H H':=fun b u e f=>h.at_ b u e (by cases u <;> first | rfl | cases f)
theorem Kp.refl(H:Hp):Kp H H:=fun _ _ e _=>e
theorem Kp.trans{H H1 H2:Hp}(h:Kp H H1)(k:Kp H1 H2):Kp H H2:=fun b u e f=>k b u (h b u e f) f
theorem Kp.upd{H:Hp}{a:Addr}{u o:HO}(h:H a=some u)(f:oM u=false):Kp H (upd H a o):=fun b w e g=>by
 have:b≠a:=fun z=>by
  subst z;rw[h] at e;cases e;rw[f] at g;cases g
 rw[aw this];exact e
theorem Kp.sqT{K:LC}{H H':Hp}(k:Kp H H'){a:Addr}{xs:List V}(h:SqT K H a xs):SqT K H' a xs:=by
 rcases h with (h | ⟨o,h⟩) | h
 ·exact .inl (.inl (k _ _ h rfl))
 ·exact .inl (.inr ⟨o,k _ _ h rfl⟩)
 ·exact .inr h
theorem Kp.sqF{K:LC}{H H':Hp}(k:Kp H H'){a:Addr}{xs:List V}(h:SqF K H a xs):SqF K H' a xs:=by
 rcases h with⟨o,h⟩ | h
 ·exact .inl ⟨o,k _ _ h rfl⟩
 ·exact .inr h
theorem Kp.dkF{K:LC}{H H':Hp}(k:Kp H H'){a:Addr}{kvs:List (Key×V)}(h:DkF K H a kvs):DkF K H' a kvs:=by
 rcases h with⟨o,h⟩ | h
 ·exact .inl ⟨o,k _ _ h rfl⟩
 ·exact .inr h
theorem TOk.kp{H H':Hp}{ps:Array LD}(k:Kp H H')(t:TOk H ps):TOk H' ps:=
 ⟨t.1,fun pos v e=>let ⟨c,e1,e2⟩:=t.2 pos v e;⟨c,e1,k _ _ e2 rfl⟩⟩
theorem Kp.but{H H':Hp}{a:Addr}(na:∀u,H a=some u->oM u=false)(oth:∀b,b≠a->H' b=H b):Kp H H':=fun b u e f=>by
 have:b≠a:=fun z=>by
  subst z;rw[na u e] at f;cases f
 rw[oth b this];exact e
theorem Same.but{B H H':Hp}{a:Addr}(s:Same B H)(fa:B a=none)(na:∀u,H a=some u->oM u=false)(oth:∀b,b≠a->H' b=H b):Same B H':=
 ⟨fun b o e n=>by rw[oth b (bB e fa)];exact s.at_ b o e n,fun b ps e=>by
  obtain⟨p1,e1,k1⟩:=s.tb b ps e;exact⟨p1,by rw[oth b (bB e fa)];exact e1,fun t=>(k1 t).kp (Kp.but na oth)⟩⟩
theorem tQ.but{H H':Hp}{a:Addr}(t:tQ H)(na:∀u,H a=some u->oM u=false/\rh u=false)(oth:∀b,b≠a->H' b=H b):tQ H':=fun P hP=>by
 obtain⟨ps,e,k⟩:=t P hP
 have:P≠a:=fun z=>by
  subst z;have:=(na _ e).2;cases this
 exact⟨ps,by rw[oth P this];exact e,k.kp (Kp.but (fun u h=>(na u h).1) oth)⟩
theorem rQ.kp{K:LC}{H H':Hp}(k:Kp H H'){a:Addr}{xs:List V}{ps:List PV}(h:rQ K H a xs ps):rQ K H' a xs ps:=h.elim (fun h=>.inl (k _ _ h rfl)) fun h=>.inr ⟨h.1,k.sqT h.2⟩
theorem rQ.sq{K:LC}{H:Hp}{a:Addr}{xs:List V}{ps:List PV}(h:rQ K H a xs ps):SqT K H a xs:=h.elim (fun h=>.inl (.inl h)) fun h=>h.2
theorem j6.kp{H H':Hp}(k:Kp H H'):∀{cl:List (Str×Addr)}{xs:List V},j6 H cl xs->j6 H' cl xs
 | [],_,h=>h
 | p::cl,_,⟨x,r,o,u,e,h,d,v,t⟩=>⟨x,r,o,u,e,k _ _ h rfl,d,v,j6.kp k t⟩
mutual
theorem Rep.kp{K:LC}{H H':Hp}(k:Kp H H'):∀(p:PV){v:V},Rep K H p v->Rep K H' p v
 | .non,_,h=>h
 | .bl _,_,h=>h
 | .int _,_,h=>h
 | .str _,_,h=>h
 | .tup ps,_,⟨a,xs,e,h,r⟩=>⟨a,xs,e,h.kp k,aF.kp k ps r⟩
 | .lst ps,_,⟨a,xs,e,h,r⟩=>⟨a,xs,e,k.sqF h,aF.kp k ps r⟩
 | .dct ks ps,_,⟨a,kvs,e,h,ek,r⟩=>⟨a,kvs,e,k.dkF h,ek,aF.kp k ps r⟩
 | .dtt ks ps,_,⟨a,o,kvs,e,h,ek,r⟩=>⟨a,o,kvs,e,k _ _ h rfl,ek,aF.kp k ps r⟩
 | .fn L cs,_,⟨f,c,cl,pm,ct,xs,e,h1,h2,h3,h5,h4,r⟩=>⟨f,c,cl,pm,ct,xs,e,k _ _ h1 rfl,k _ _ h2 rfl,h3,h5,j6.kp k h4,aF.kp k cs r⟩
theorem aF.kp{K:LC}{H H':Hp}(k:Kp H H'):∀(ps:List PV){xs:List V},aF K H ps xs->aF K H' ps xs
 | [],_,h=>h
 | p::ps,_,⟨x,r,e,h,t⟩=>⟨x,r,e,Rep.kp k p h,aF.kp k ps t⟩
end
section
variable{K : LC}{H H' : Hp}{p : PV}{ps qs : List PV}{v : V}{xs ys : List V}{a : Addr}
theorem Rep.same(h:Rep K H p v)(s:Same H H'):Rep K H' p v:=Rep.kp (Same.kp s) p h
theorem aF.same(h:aF K H ps xs)(s:Same H H'):aF K H' ps xs:=aF.kp (Same.kp s) ps h
theorem aZ.same(h:aZ K H p v)(s:Same H H'):aZ K H' p v:=by
 cases p with
 | lst ps=>
  obtain⟨a,xs,e,q,r⟩:=h;refine⟨a,xs,e,?_,r.same s⟩;rcases q with (q | ⟨o,q⟩) | q
  ·exact .inl (.inl (s _ _ q))
  ·exact .inl (.inr ⟨o,s _ _ q⟩)
  ·exact .inr q
 | dct ks ps=>
  obtain⟨a,kvs,e,q,ek,r⟩:=h;refine⟨a,kvs,e,?_,ek,r.same s⟩;rcases q with (q | ⟨o,q⟩) | q
  ·exact .inl (.inl (s _ _ q))
  ·exact .inl (.inr ⟨o,s _ _ q⟩)
  ·exact .inr q
 | dtt ks ps=>
  obtain⟨a,kvs,e,q,ek,r⟩:=h;refine⟨a,kvs,e,?_,ek,r.same s⟩;rcases q with q | ⟨o,q⟩
  ·exact .inl (s _ _ q)
  ·exact .inr ⟨o,s _ _ q⟩
 | _=>exact Rep.same h s
theorem cP.same(h:cP K H a p)(s:Same H H'):cP K H' a p:=by
 cases p with
 | lst ps=>
  obtain⟨xs,q,r⟩:=h;exact⟨xs,s _ _ q,r.same s⟩
 | dct ks ps=>
  obtain⟨kvs,q,ek,r⟩:=h;exact⟨kvs,s _ _ q,ek,r.same s⟩
 | dtt ks ps=>
  obtain⟨kvs,q,ek,r⟩:=h;exact⟨kvs,s _ _ q,ek,r.same s⟩
 | _=>exact h
theorem Rep.o(h:Rep K H p v):aZ K H p v:=by
 cases p with
 | lst ps=>
  obtain⟨a,xs,e,q,r⟩:=h;exact⟨a,xs,e,q.l,r⟩
 | dct ks ps=>
  obtain⟨a,kvs,e,q,ek,r⟩:=h;exact⟨a,kvs,e,q.r,ek,r⟩
 | dtt ks ps=>
  obtain⟨a,o,kvs,e,q,ek,r⟩:=h;exact⟨a,kvs,e,.inr ⟨o,q⟩,ek,r⟩
 | _=>exact h
theorem cP.o(h:cP K H a p):aZ K H p (.ref a):=by
 cases p with
 | lst ps=>
  obtain⟨xs,q,r⟩:=h;exact⟨a,xs,rfl,.inl (.inl q),r⟩
 | dct ks ps=>
  obtain⟨kvs,q,ek,r⟩:=h;exact⟨a,kvs,rfl,.inl (.inl q),ek,r⟩
 | dtt ks ps=>
  obtain⟨kvs,q,ek,r⟩:=h;exact⟨a,kvs,rfl,.inl q,ek,r⟩
 | _=>exact LP h
theorem aF.length:∀{ps:List PV}{xs:List V},aF K H ps xs->ps.length=xs.length
 | [],_,h=>by cases h;rfl
 | p::ps,_,⟨x,r,e,_,t⟩=>by subst e;simp[aF.length t]
theorem aF.nil:aF K H [] []:=rfl
theorem aF.cons(h:Rep K H p v)(t:aF K H ps xs):aF K H (p::ps) (v::xs):=⟨v,xs,rfl,h,t⟩
theorem aF.append:∀{ps qs:List PV}{xs ys:List V},aF K H ps xs->aF K H qs ys->aF K H (ps++qs) (xs++ys)
 | [],_,_,_,h,k=>by cases h;exact k
 | p::ps,_,_,_,⟨x,r,e,h,t⟩,k=>by subst e;exact⟨x,_,rfl,h,aF.append t k⟩
theorem aF.get:∀{ps:List PV}{xs:List V}{i:Nat}{p:PV},aF K H ps xs->ps[i]?=some p->∃x,xs[i]?=some x/\Rep K H p x
 | [],_,_,_,_,e=>by simp at e
 | p::ps,_,0,_,⟨x,r,e,h,t⟩,q=>by
  subst e;simp at q;subst q;exact⟨x,rfl,h⟩
 | p::ps,_,i+1,q,⟨x,r,e,h,t⟩,z=>by
  subst e;obtain⟨y,h1,h2⟩:=aF.get (i:=i) (p:=q) t (by simpa using z);exact⟨y,by simpa using h1,h2⟩
theorem aF.take:∀{ps:List PV}{xs:List V}(n:Nat),aF K H ps xs->aF K H (ps.take n) (xs.take n)
 | _,_,0,_=>by simp;rfl
 | [],_,n+1,h=>by cases h;rfl
 | p::ps,_,n+1,⟨x,r,e,h,t⟩=>by subst e;exact⟨x,_,rfl,h,aF.take n t⟩
theorem aF.drop:∀{ps:List PV}{xs:List V}(n:Nat),aF K H ps xs->aF K H (ps.drop n) (xs.drop n)
 | _,_,0,h=>by simpa using h
 | [],_,n+1,h=>by cases h;rfl
 | p::ps,_,n+1,⟨x,r,e,h,t⟩=>by subst e;simpa using aF.drop n t
end
theorem _root_.L2.Inv.reH{X:Cx}{pins:List (Addr×Obj)}{σ:L2.St}{H H':Hp}{s:LG}(I:Inv X pins σ H s){a:Addr}{u u':HO}(hu:H a=some u)(h':H'=upd H a u')
  (nf:oM u=false) (nt:∀ps,u≠.tbl ps) (no:∀x,u≠.own x) (hok:dQ X.prog X.w H' s.heap a u'):Inv X pins σ H' s:=by
 subst h';have keepT:∀b xs,H b=some (.tup xs)->(upd H a u') b=some (.tup xs):=fun b xs e=>Kp.upd hu nf b _ e rfl
 have keepO:∀b x,H b=some (.own x)->(upd H a u') b=some (.own x):=fun b x e=>by
  have:b≠a:=fun z=>by
   subst z;rw[hu] at e;cases e;exact no x rfl
  rw[aw this];exact e
 have hn:∀b,H b=none->(upd H a u') b=none:=fun b e=>by
  have:b≠a:=fun z=>by
   subst z;rw[hu] at e;cases e
  rw[aw this];exact e
 refine⟨I.ok,I.os,I.bare,⟨I.base.keep,I.base.slot,fun b o e n x=>hn b (I.base.free b o e n x),I.base.there,fun b xs e=>keepT b xs (I.base.tups b xs e),
  fun b o w e=>Kp.upd hu nf b _ (I.base.frzs b o w e) rfl,fun b ps e=>?_⟩,I.loc,I.cell,hn _ I.free,fun x c e=>hn c (I.freeC x c e),fun p hp=>?_,fun b o e=>?_,I.len⟩
 ·obtain⟨more,q⟩:=I.base.tbls b ps e
  have:b≠a:=fun z=>by
   subst z;rw[hu] at q;cases q;exact nt _ rfl
  exact⟨more,by rw[aw this];exact q⟩
 ·obtain⟨h1,h2,h3⟩:=I.pin p hp
  exact⟨h1,hn _ h2,h3⟩
 ·by_cases hb:b=a
  ·subst hb
   rw[ao] at e;cases e;exact hok
  ·rw[aw hb] at e
   exact(I.hok b o e).stay (fun c v _ r=>r) (fun c r=>keepO c b r) keepT
theorem _root_.L2.Inv.frz{X:Cx}{pins:List (Addr×Obj)}{σ:L2.St}{H:Hp}{s:LG}{a:Addr}{p:PV}(I:Inv X pins σ H s)(n:cP X.K H a p) :
  ∃H',Inv X pins σ H' s/\Rep X.K H' p (.ref a)/\∀b,b≠a->H' b=H b:=by
 cases p with
 | lst ps=>
  obtain⟨xs,q,r⟩:=n;obtain⟨z,its,m,rv,e⟩:=I.hok a _ q;refine⟨upd H a (.frz _ (.lst xs)),I.reH q rfl rfl (by intro _ h;cases h) (by intro _ h;cases h) ⟨e,z,its,m,rv,e⟩,⟨a,xs,rfl,.inl ⟨_,ao⟩,r.kp (Kp.upd q rfl)⟩,fun b hb=>aw hb⟩
 | dct ks ps=>
  obtain⟨kvs,q,ek,r⟩:=n;obtain⟨z,hs,vs,rv,o,es,ep,e,rest⟩:=I.hok a _ q;refine⟨upd H a (.frz o (.dK kvs)),I.reH q rfl rfl (by intro _ h;cases h) (by intro _ h;cases h) ⟨e,z,hs,vs,rv,o,es,ep,e,rest⟩,⟨a,kvs,rfl,.inl ⟨_,ao⟩,ek,r.kp (Kp.upd q rfl)⟩,fun b hb=>aw hb⟩
 | dtt ks ps=>
  obtain⟨kvs,q,ek,r⟩:=n;obtain⟨z,hs,ys,rv,o,es,ep,e,rest⟩:=I.hok a _ q;refine⟨upd H a (.frz o (.dT kvs)),I.reH q rfl rfl (by intro _ h;cases h) (by intro _ h;cases h) ⟨e,z,hs,ys,?_,o,es,ep,e,rest⟩,⟨a,o,kvs,rfl,ao,ek,r.kp (Kp.upd q rfl)⟩,fun b hb=>aw hb⟩;exact Paired.mapP rv fun p1 q1 ⟨h1,h2,h3⟩=>⟨h1,h2.keeps fun b ys hb=>Kp.upd q rfl _ _ hb rfl,h3⟩
 | _=>exact LP n
theorem cP.nt{K:LC}{H:Hp}{a:Addr}{p:PV}(h:cP K H a p):∀u,H a=some u->oM u=false/\rh u=false:=fun u e=>by
 cases p with
 | lst ps=>obtain⟨_,w,_⟩:=h;rw[w] at e;cases e;exact⟨rfl,rfl⟩
 | dct ks ps=>obtain⟨_,w,_⟩:=h;rw[w] at e;cases e;exact⟨rfl,rfl⟩
 | dtt ks ps=>obtain⟨_,w,_⟩:=h;rw[w] at e;cases e;exact⟨rfl,rfl⟩
 | _=>exact LP h
end PU
namespace PU
open PySem PySem.Spec PyProof.Rows L2
variable[TW]
structure Cn where
 X:Cx
 Ac:PX->Hp->Prop
def aY(K:LC)(H:Hp):List Addr->List Fld->List V->Prop
 | r,[],xs=>r=[]/\xs=[]
 | r,.val p::fs,xs=>∃x ys,xs=x::ys/\Rep K H p x/\aY K H r fs ys
 | r,.own p::fs,xs=>∃b r' ys,r=b::r'/\xs=.ref b::ys/\cP K H b p/\aY K H r' fs ys
def b6(K:LC)(H:Hp)(a:Addr)(r:List Addr):Tr->Prop
 | .leaf p=>r=[]/\cP K H a p
 | .node ks fs=>(a::r).Nodup/\∃kvs,H a=some (.dK kvs)/\kvs.map (·.1)=ks/\aY K H r fs (kvs.map (·.2))
theorem aY.same{K:LC}{H H':Hp}(s:Same H H'):∀{fs:List Fld}{r:List Addr}{xs:List V},aY K H r fs xs->aY K H' r fs xs
 | [],_,_,h=>h
 | .val p::fs,_,_,⟨x,ys,e,h,t⟩=>⟨x,ys,e,h.same s,aY.same s t⟩
 | .own p::fs,_,_,⟨b,r',ys,e1,e2,h,t⟩=>⟨b,r',ys,e1,e2,h.same s,aY.same s t⟩
theorem b6.same{K:LC}{H H':Hp}{a:Addr}{r:List Addr}{t:Tr}(s:Same H H')(h:b6 K H a r t):b6 K H' a r t:=by
 cases t with
 | leaf p=>exact⟨h.1,h.2.same s⟩
 | node ks fs=>obtain⟨n,kvs,e,ek,f⟩:=h;exact⟨n,kvs,s _ _ e,ek,f.same s⟩
def E1(K:LC)(H:Hp)(x:Option (Option V)):Sl->Prop
 | .no=>True
 | .val p=>∃v,x=some (some v)/\Rep K H p v
 | .own p=>∃a,x=some (some (.ref a))/\cP K H a p
 | .tree t=>∃a r,x=some (some (.ref a))/\b6 K H a r t
structure View(K:LC)(H:Hp)(σ:L2.St)(ρ:PSt):Prop where
 at_:∀(i:Nat)(l:Sl),ρ[i]?=some l->E1 K H σ[i]? l
 tb:tQ H
instance {K:LC} {H:Hp} {σ:L2.St} {ρ:PSt}:CoeFun (View K H σ ρ) (fun _=>∀(i:Nat)(l:Sl),ρ[i]?=some l->E1 K H σ[i]? l):=⟨@View.at_ _ K H σ ρ⟩
theorem E1.same{K:LC}{H H':Hp}{x:Option (Option V)}{l:Sl}(h:E1 K H x l)(s:Same H H'):E1 K H' x l:=by
 cases l with
 | no=>exact trivial
 | val p=>obtain⟨v,e,r⟩:=h;exact⟨v,e,r.same s⟩
 | own p=>obtain⟨a,e,r⟩:=h;exact⟨a,e,r.same s⟩
 | tree t=>obtain⟨a,r,e,h⟩:=h;exact⟨a,r,e,h.same s⟩
theorem View.same{K:LC}{H H':Hp}{σ:L2.St}{ρ:PSt}(h:View K H σ ρ)(s:Same H H'):View K H' σ ρ:=⟨fun i l e=>(h i l e).same s,s.tabs h.tb⟩
def RQ(C:Cn)(H:Hp){α:Type}(r:R α)(k:α->Prop):Prop:=
 match r with
 | .ok a=>k a
 | .er x=>∀H',Same H H'->C.Ac x H'
 | .no=>False
section
variable{C : Cn}{H H' : Hp}{α β : Type}{r : R α}{k k' : α → Prop}
theorem RQ.imp(h:RQ C H r k)(f:∀a,r=.ok a->k a->k' a):RQ C H r k':=by
 cases r with
 | ok a=>exact f a rfl h
 | er x=>exact h
 | no=>exact h
theorem RQ.same(h:RQ C H r k)(s:Same H H'):RQ C H' r k:=by
 cases r with
 | ok a=>exact h
 | er x=>exact fun H2 s2=>h H2 (s.trans s2)
 | no=>exact h
theorem RQ.bind{f:α->R β}{m:β->Prop}(h:RQ C H (r >>= f) m):RQ C H r fun a=>RQ C H (f a) m:=by
 cases r <;> exact h
theorem RQ.ofO{o:Option α}(h:RQ C H (R.ofO o) k):∃a,o=some a/\k a:=by
 cases o with
 | none=>exact LP h
 | some a=>exact⟨a,rfl,h⟩
end
def tV(C:Cn)(f:PSt->R PV):TE:=fun σ H Q=>∃ρ,View C.X.K H σ ρ/\RQ C H (f ρ) fun p=>∀v H',Same H H'->Rep C.X.K H' p v->Q v H'
def tO(C:Cn)(f:PSt->R PV):TE:=fun σ H Q=>∃ρ,View C.X.K H σ ρ/\RQ C H (f ρ) fun p=>∀v H',Same H H'->aZ C.X.K H' p v->Q v H'
def tN(C:Cn)(f:PSt->R PV):TE:=fun σ H Q=>∃ρ,View C.X.K H σ ρ/\RQ C H (f ρ) fun p=>∀a H',Same H H'->H a=none->cP C.X.K H' a p->Q (.ref a) H'
def tAs(C:Cn)(f:PSt->R (List PV)):TA:=fun σ H Q=>∃ρ,View C.X.K H σ ρ/\RQ C H (f ρ) fun ps=>∀vs H',Same H H'->aF C.X.K H' ps vs->Q vs H'
def tBl(C:Cn)(f:PSt->R Bool):TT:=fun σ H Q=>∃ρ,View C.X.K H σ ρ/\RQ C H (f ρ) fun b=>∀H',Same H H'->Q b H'
def EV(C:Cn)(e:Expr)(f:PSt->R PV):Prop:=PE C.X e (tV C f)
def EO(C:Cn)(e:Expr)(f:PSt->R PV):Prop:=PE C.X e (tO C f)
def EN(C:Cn)(e:Expr)(f:PSt->R PV):Prop:=PE C.X e (tN C f)
def EA(C:Cn)(es:List Expr)(f:PSt->R (List PV)):Prop:=PA C.X es (tAs C f)
def ET(C:Cn)(e:Expr)(f:PSt->R Bool):Prop:=PT C.X e (tBl C f)
def EW(C:Cn)(e:Expr)(f:PSt->R Bool):Prop:=PW C.X e (tBl C f)
section
variable{C : Cn}{e a b c : Expr}{es : List Expr}{f fa fb fc : PSt → R PV}{fs : PSt → R (List PV)}{pos : Nf}
theorem EV.o(h:EV C e f):EO C e f:=fun pins s σ H Q I ⟨ρ,vw,q⟩=>h pins s σ H Q I ⟨ρ,vw,q.imp fun _ _ k v H' sm r=>k v H' sm r.o⟩
theorem EN.o(h:EN C e f):EO C e f:=fun pins s σ H Q I ⟨ρ,vw,q⟩=>h pins s σ H Q I ⟨ρ,vw,q.imp fun _ _ k a H' sm _ r=>k (.ref a) H' sm r.o⟩
theorem EN.v(h:EN C e f):EV C e f:=by
 intro pins s σ H Q I ⟨ρ,vw,q⟩;cases hf:f ρ with
 | ok p=>
  rw[hf] at q;refine thn (h pins s σ H (fun v H'=>∃a,v=.ref a/\Same H H'/\H a=none/\cP C.X.K H' a p) I ⟨ρ,vw,by rw[hf];exact fun a H' sm n w=>⟨a,rfl,sm,n,w⟩⟩) fun u s' ⟨v,H',I',rv,a,ev,sm,na,w⟩=>?_;obtain⟨H2,I2,rp,oth⟩:=I'.frz w;subst ev;exact⟨.ref a,H2,I2,rv,q _ H2 (sm.but na (fun u h=>(w.nt u h).1) oth) rp⟩
 | er x=>
  rw[hf] at q;exact h pins s σ H Q I ⟨ρ,vw,by rw[hf];exact q⟩
 | no=>
  rw[hf] at q;exact LP q
theorem G1 (i:Nat) {x:Str} (hN:C.X.N[i]?=some x) (hv:Vis C.X.env.scope x) (hd:(x == ("__debug__":Str))=false:=by decide) (hcd:(x == ("__classdict__":Str))=false:=by decide):EV C (.Name x pos) (a8 i):=by
 intro pins s σ H Q I ⟨ρ,vw,q⟩;unfold a8 at q;split at q
 ·rename_i p e
  obtain⟨v,ev,r⟩:=vw i _ e;exact gI hN hv hd hcd pins s σ H Q I ⟨v,ev,q v H (Same.refl H) r⟩
 ·exact LP q
theorem G3 (i:Nat) {x:Str} (hN:C.X.N[i]?=some x) (hv:Vis C.X.env.scope x) (hd:(x == ("__debug__":Str))=false:=by decide) (hcd:(x == ("__classdict__":Str))=false:=by decide):EO C (.Name x pos) (lN i):=by
 intro pins s σ H Q I ⟨ρ,vw,q⟩;unfold lN at q;split at q
 ·rename_i p e
  obtain⟨v,ev,r⟩:=vw i _ e;exact gI hN hv hd hcd pins s σ H Q I ⟨v,ev,q v H (Same.refl H) r.o⟩
 ·rename_i p e
  obtain⟨v,ev,r⟩:=vw i _ e;exact gI hN hv hd hcd pins s σ H Q I ⟨_,ev,q _ H (Same.refl H) r.o⟩
 ·rename_i p e
  obtain⟨a,r,ev,h⟩:=vw i _ e;exact gI hN hv hd hcd pins s σ H Q I ⟨_,ev,q _ H (Same.refl H) h.2.o⟩
 ·exact LP q
theorem bF{i j}:EV C (.Constant (.int i) j pos) (kI i):=fun pins s σ H Q I ⟨_,_,q⟩=>B0 pins s σ H Q I (q _ H (Same.refl H) rfl)
theorem gB{i j}:EV C (.Constant (.bool i) j pos) (kB i):=fun pins s σ H Q I ⟨_,_,q⟩=>HZ pins s σ H Q I (q _ H (Same.refl H) rfl)
theorem kb{j}:EV C (.Constant .none j pos) kN:=fun pins s σ H Q I ⟨_,_,q⟩=>F4 pins s σ H Q I (q _ H (Same.refl H) rfl)
theorem aV{x j}:EV C (.Constant (.str x) j pos) (kS x):=fun pins s σ H Q I ⟨_,_,q⟩=>lg pins s σ H Q I (q _ H (Same.refl H) rfl)
theorem Dd {x:Str} {v:V} {u:LD} {p:PV} (hg:Gl C.X x) (hm:C.X.mg x=some u) (r:RelV v u) (rp:∀H,Rep C.X.K H p v) (hd:(x == ("__debug__":Str))=false:=by decide):EV C (.Name x pos) (kP p):=
 fun pins s σ H Q I ⟨_,_,q⟩=>Cf hg hm r hd pins s σ H Q I (q _ H (Same.refl H) (rp H))
theorem ah:EA C [] aQ:=fun pos pins s σ H Q I ⟨_,_,q⟩=>iz pos pins s σ H Q I (q [] H (Same.refl H) aF.nil)
theorem a6(ha:EV C e f)(hr:EA C es fs)(hs:Ls (e::es) C.X.env=(false,Mu e C.X.env)::Ls es C.X.env:=by exact eI rfl):EA C (e::es) (a7 f fs):=by
 intro pos pins s σ H Q I ⟨ρ,vw,q⟩;refine cX ha hr hs pos pins s σ H Q I ⟨ρ,vw,q.bind.imp fun p _ k v H1 s1 r1=>⟨ρ,vw.same s1,(k.bind.same s1).imp fun ps _ k2 vs H2 s2 r2=>?_⟩⟩;exact k2 (v::vs) H2 (s1.trans s2) (aF.cons (r1.same s2) r2)
def tA1(C:Cn)(f:PSt->R PV):TA:=fun σ H Q=>∃ρ,View C.X.K H σ ρ/\RQ C H (f ρ) fun p=>∀v H',Same H H'->aZ C.X.K H' p v->Q [v] H'
theorem qq(ha:EO C e f)(hs:Ls [e] C.X.env=[(false,Mu e C.X.env)]:=by exact bV rfl):PA C.X [e] (tA1 C f):=by
 intro pos pins s σ H Q I ⟨ρ,vw,q⟩;exact cX ha iz hs pos pins s σ H Q I ⟨ρ,vw,q⟩
theorem Same.new{H:Hp}{a:Addr}{o:HO}(h:H a=none):Same H (upd H a o):=.of fun b u e=>by
 rw[aw (bB e h)];exact e
theorem jo{C:Cn}{H:Hp}{ps:List PV}{β:Type}{g:List PV->R β}{k:β->Prop}(h:RQ C H (iB ps >>= g) k):ps.length<=sizeLine/\RQ C H (g ps) k:=by
 unfold iB at h
 by_cases hz:ps.length<=16777216
 ·rw[if_pos hz] at h
  exact⟨by rw[MJ];exact hz,h⟩
 ·rw[if_neg hz] at h
  exact LP h
theorem bq{k}(h:EA C es fs):EV C (.Tuple es k pos) (gQ fs):=by
 intro pins s σ H Q I ⟨ρ,vw,q⟩;refine F2 h pins s σ H Q I ⟨ρ,vw,q.bind.imp fun ps _ k vs H1 s1 r1=>?_⟩;obtain⟨z,k⟩:=jo k;refine⟨by rw[← r1.length];exact z,fun p hp=>?_⟩;exact k _ _ (s1.trans (Same.new hp)) ⟨p,vs,rfl,.inl ao,r1.same (Same.new hp)⟩
theorem dH(h:EA C es fs):EN C (.List es pos) (kD fs):=by
 intro pins s σ H Q I ⟨ρ,vw,q⟩;refine F5 h pins s σ H Q I ⟨ρ,vw,q.bind.imp fun ps _ k vs H1 s1 r1=>?_⟩;obtain⟨z,k⟩:=jo k;refine⟨by rw[← r1.length];exact z,fun p hp=>?_⟩;exact k p _ (s1.trans (Same.new hp)) (s1.free hp) ⟨vs,ao,r1.same (Same.new hp)⟩
def rP(K:LC)(g:PV->PV->Option PV):R2:=fun v u H Q=>∃p q z,aZ K H p v/\aZ K H q u/\g p q=some z/\∀w H',Same H H'->Rep K H' z w->Q w H'
theorem t2{σ:L2.St}{H:Hp}{Q:VK}{ρ:PSt}{g:PV->PV->Option PV}{r:R2}(vw:View C.X.K H σ ρ)(q:RQ C H (ai fa fb g ρ) fun p=>∀v H',Same H H'->Rep C.X.K H' p v->Q v H')
  (hr:∀v u H' Q',rP C.X.K g v u H' Q'->r v u H' Q'):tOp r (tO C fa) (tO C fb) σ H Q:=by
 refine⟨ρ,vw,q.bind.imp fun p _ k v H1 s1 r1=>⟨ρ,vw.same s1,(k.bind.same s1).imp fun p2 _ k2 u H2 s2 r2=>?_⟩⟩;obtain⟨z,ez,k3⟩:=k2.ofO;exact hr _ _ _ _ ⟨p,p2,z,r1.same s2,r2,ez,fun w H3 s3 r3=>k3 w H3 ((s1.trans s2).trans s3) r3⟩
theorem a9{op:Operator}{g:PV->PV->Option PV}(ho:OpR C.X (Nz op) (rP C.X.K g))(ha:EO C a fa)(hb:EO C b fb):EV C (.BinOp a op b pos) (ai fa fb g):=by
 intro pins s σ H Q I ⟨ρ,vw,q⟩;exact HX ho ha hb pins s σ H Q I (t2 vw q fun _ _ _ _ h=>h)
theorem d6{op:SE}{g:PV->PV->Option PV}(ho:OpR C.X (MG op) (rP C.X.K g))(ha:EO C a fa)(hb:EO C b fb)(hm:Oq op b=false:=by first | exact B5 _ | with_unfolding_all rfl):EV C (.Compare a [op] [b] pos) (ai fa fb g):=by
 intro pins s σ H Q I ⟨ρ,vw,q⟩;exact Cg ho ha hb hm pins s σ H Q I (t2 vw q fun _ _ _ _ h=>h)
theorem aJ{g:PV->PV->Option PV}(ho:IxR C.X (rP C.X.K g))(ha:EO C a fa)(hb:EO C b fb)(hs:yv b:=by exact fun _ _=>rfl):EV C (.Subscript a b pos) (ai fa fb g):=by
 intro pins s σ H Q I ⟨ρ,vw,q⟩;exact HY ho ha hb hs pins s σ H Q I (t2 vw q fun _ _ _ _ h=>h)
end
end PU
namespace PU
open PySem PySem.Spec PyProof.Rows L2
variable[TW]
section
variable{X : Cx}{pins : List (Addr×Obj)}{σ : L2.St}{H : Hp}{s : LG}
theorem DkR.at{a:Addr}{kvs:List (Key×V)}(hw:X.w=TW.w)(I:Inv X pins σ H s)(h:DkR X.K H a kvs) :
  kvs.length<=sizeLine/\(a == Mb)=false/\∃vs,KV kvs vs/\s.heap.DictOf (aj X.prog X.w) a vs:=by
 rcases h with h | h
 ·exact Ao I.hok h
 ·exact⟨h.1,h.2.1,h.at _ _ hw _ I.kIn⟩
theorem lA{ys:List V}{its:List LD}{ps:List PV}(I:Inv X pins σ H s)(hv:Vals ys its)(hz:ys.length<=sizeLine)(hr:aF X.K H ps ys)(t':Nat) :
  ∃H',Inv X pins σ H' { s with heap:=s.heap.push { cls:=.type "list",data:=.seq its.toArray },toks:=t' }/\Same H H'/\Rep X.K H' (.lst ps) (.ref s.heap.objs.size):=by
 have I1:=I.lnew (t':=t') hv hz;have nf:H s.heap.objs.size=none:=I.fresh;obtain⟨H',I2,rp,oth⟩:=L2.Inv.frz (a:=s.heap.objs.size) (p:=.lst ps) I1 ⟨ys,ao,hr.same (Same.new nf)⟩;refine⟨H',I2,.of fun b o e=>?_,rp⟩;have hb:=bB e nf;rw[oth b hb,aw hb];exact e
theorem aZ.lst_inv{K:LC}{H:Hp}{ps:List PV}{v:V}(h:aZ K H (.lst ps) v):∃a xs,v=.ref a/\SqO K H a xs/\aF K H ps xs:=h
theorem aZ.tup_inv{K:LC}{H:Hp}{ps:List PV}{v:V}(h:aZ K H (.tup ps) v):∃a xs,v=.ref a/\SqT K H a xs/\aF K H ps xs:=by
 obtain⟨a,xs,e,q,r⟩:=(show ∃a xs,v=.ref a/\rQ K H a xs ps/\aF K H ps xs from h);exact⟨a,xs,e,q.sq,r⟩
end
theorem Av{prog:LY}{w:Ly}{A:M3}{E:LD->LG->Prop}{s:LG}{t b:Addr}{vs ws:List LD}{Q:LD->LG->Prop}(ht:IsTup s.heap t vs.toArray)(hb:IsTup s.heap b ws.toArray)
  (h0:vs=[]->Q (.ref b) s) (h1:ws=[]->Q (.ref t) s) (h2:Q (.ref s.heap.objs.size) { s with heap:=s.heap.push { cls:=.type "tuple",data:=.seq (vs++ws).toArray } })
  (hsz:vs.length+ws.length<=sizeLine):LO (Lz prog w) A (Nz .Add (.ref t) (.ref b)) Q E s:=by
 obtain⟨⟨cls,dd,data,sl⟩,ho,hc,n,hd⟩:=id ht;obtain⟨⟨cls2,dd2,data2,sl2⟩,ho2,hc2,n2,hd2⟩:=id hb;simp only at hc hd hc2 hd2;subst hc hd hc2 hd2;have e:vs.toArray++ws.toArray=(vs++ws).toArray:=by simp
 by_cases hv:vs=[]
 ·exact T7 ⟨_,ho,rfl⟩ ⟨_,ho2,rfl⟩ RE Sa PN PB (P5 _ _)
   (tuple_addW0 t b vs.toArray ws.toArray n n2 dd dd2 sl sl2 (by simp[hv])) ⟨ho,ho2,h0 hv⟩
 ·by_cases hw:ws=[]
  ·exact T7 ⟨_,ho,rfl⟩ ⟨_,ho2,rfl⟩ RE Sa PN PB (P5 _ _)
    (tuple_addW1 t b vs.toArray ws.toArray n n2 dd dd2 sl sl2 (by simpa using hv) (by simp[hw])) ⟨ho,ho2,h1 hw⟩
  ·refine T7 ⟨_,ho,rfl⟩ ⟨_,ho2,rfl⟩ RE Sa PN PB (P5 _ _)
    (tuple_addW2 t b vs.toArray ws.toArray n n2 dd dd2 sl sl2 (by simpa using hv) (by simpa using hw) (by rw[M0,M0];exact hsz)) ⟨ho,ho2,?_⟩
   rw[e];exact h2
section
variable{X : Cx}
theorem pC{f:LD->LD->Sem LD}{g:PV->PV->Option PV}{r:R2}(h:OpR X f r)
  (hg:∀(p q z:PV),g p q=some z->∃i j,p=.int i/\q=.int j/\∃w:V,(∀K H,Rep K H z w)/\∀H Q,Q w H->r (.int i) (.int j) H Q):OpR X f (rP X.K g):=by
 intro pins s σ H x y v u Q I rx ry ⟨p,q,z,hp,hq,e,k⟩;obtain⟨i,j,rfl,rfl,w,hw,hr⟩:=hg p q z e;cases (show x=.int i from hp);cases (show y=.int j from hq);exact h pins s σ H _ _ v u Q I rx ry (hr H Q (k w H (Same.refl H) (hw _ _)))
theorem Ig:OpR X (Nz .Sub) (rP X.K FW):=pC F9 fun p q z e=>by
 unfold FW at e;split at e
 ·rename_i i j
  cases e;exact⟨i,j,rfl,rfl,_,fun _ _=>rfl,fun H Q q=>⟨i,j,rfl,rfl,q⟩⟩
 ·cases e
theorem wL:OpR X (Nz .Mult) (rP X.K yF):=pC Fc fun p q z e=>by
 unfold yF at e;split at e
 ·rename_i i j
  split at e
  ·rename_i hc
   cases e;exact⟨i,j,rfl,rfl,_,fun _ _=>rfl,fun H Q q=>⟨i,j,rfl,rfl,hc.imp (fun h=>⟨by omega,by omega⟩) (fun h=>⟨by omega,by omega⟩),q⟩⟩
  ·cases e
 ·cases e
theorem fX:OpR X (Nz .FloorDiv) (rP X.K lQ):=pC Co fun p q z e=>by
 unfold lQ at e;split at e
 ·rename_i i j
  split at e
  ·rename_i hc
   cases e;exact⟨i,j,rfl,rfl,_,fun _ _=>rfl,fun H Q q=>⟨i,j,rfl,rfl,hc,q⟩⟩
  ·cases e
 ·cases e
theorem cJ:OpR X (Nz .Mod) (rP X.K i9):=pC Fe fun p q z e=>by
 unfold i9 at e;split at e
 ·rename_i i j
  split at e
  ·rename_i hc
   cases e;exact⟨i,j,rfl,rfl,_,fun _ _=>rfl,fun H Q q=>⟨i,j,rfl,rfl,hc,q⟩⟩
  ·cases e
 ·cases e
theorem aR:OpR X (Nz .Add) (rP X.K bD):=by
 intro pins s σ H x y v u Q I rx ry ⟨p,q,z,hp,hq,e,k⟩;have hs:=MJ;unfold bD at e;split at e
 ·rename_i i j
  cases e;cases (show x=.int i from hp);cases (show y=.int j from hq);exact Fg pins s σ H _ _ v u Q I rx ry ⟨i,j,rfl,rfl,k _ H (Same.refl H) rfl⟩
 ·rename_i i j
  split at e
  ·rename_i hc
   cases e;cases (show x=.str i from hp);cases (show y=.str j from hq);exact uw pins s σ H _ _ v u Q I rx ry ⟨i,j,rfl,rfl,by omega,k _ H (Same.refl H) rfl⟩
  ·cases e
 ·rename_i ps qs
  split at e
  ·rename_i hc
   cases e;obtain⟨a,xs,rfl,hx,r1⟩:=hp;obtain⟨b,ys,rfl,hy,r2⟩:=hq;cases rx;cases ry;obtain⟨hz,its,n,rv,e1⟩:=hx.is I;obtain⟨hz2,its2,n2,rv2,e2⟩:=hy.is I;have l1:=r1.length;have l2:=r2.length;have l3:=rv.length;have l4:=rv2.length;have ea:its.toArray++its2.toArray=(its++its2).toArray:=by simp
   refine PySem.P.add_list e1 e2 ?_ (by simp only[M0];omega);rw[ea];obtain⟨H',I',sm,rp⟩:=lA I (rv.append rv2) (by rw[M1];omega) (r1.append r2) s.toks;exact⟨.ref _,H',I',rfl,k _ H' sm rp⟩
  ·cases e
 ·rename_i ps qs
  split at e
  ·rename_i hc
   cases e;obtain⟨a,xs,rfl,hx,r1⟩:=aZ.tup_inv hp;obtain⟨b,ys,rfl,hy,r2⟩:=aZ.tup_inv hq;cases rx;cases ry;obtain⟨its,rv,pl,hz⟩:=I.tuple hx;obtain⟨its2,rv2,pl2,hz2⟩:=I.tuple hy;have l1:=r1.length;have l2:=r2.length;have l3:=rv.length;have l4:=rv2.length;refine Av pl pl2 (fun z=>?_) (fun z=>?_) ?_ (by omega)
   ·subst z
    have:ps=[]:=Mc (by rw[l1,l3];rfl);subst this;exact⟨.ref b,H,I,rfl,k _ H (Same.refl H) hq⟩
   ·subst z
    have:qs=[]:=Mc (by rw[l2,l4];rfl);subst this;rw[Mh] at k;exact⟨.ref a,H,I,rfl,k _ H (Same.refl H) hp⟩
   ·have nf:H s.heap.objs.size=none:=I.fresh
    refine⟨.ref s.heap.objs.size,_,I.laid (t':=s.toks) (o:=.tup (xs++ys)) (fun b ob q=>LH _ q) (LZ _) ?_,rfl,k _ _ (Same.new nf) ⟨_,xs++ys,rfl,.inl ao,(r1.append r2).same (Same.new nf)⟩⟩;exact⟨by rw[M1];omega,_,rv.append rv2,AE.new _ _⟩
  ·cases e
 ·cases e
end
end PU
namespace PU
open PySem PySem.Spec PyProof.Rows L2
variable[TW]
structure Bs where
 fst:Hp
 snd:Hp
 thd:Nat->Option (Addr×List Addr)
structure StOk(K:LC)(B:Bs)(H:Hp)(σ:L2.St)(ρ:PSt):Prop where
 len:ρ.length=σ.length
 same:Same B.1 H
 kp:Kp B.2 H
 vw:View K H σ ρ
 fresh:∀(i:Nat)(p:PV)(a:Addr),ρ[i]?=some (.own p)->σ[i]?=some (some (.ref a))->B.1 a=none
 apart:∀(i j:Nat)(p q:PV)(a:Addr),ρ[i]?=some (.own p)->ρ[j]?=some (.own q)->σ[i]?=some (some (.ref a))->σ[j]?=some (some (.ref a))->i=j
 treed:∀(i:Nat)(t:Tr),ρ[i]?=some (.tree t)->∃a r,B.3 i=some (a,r)/\σ[i]?=some (some (.ref a))/\b6 K B.1 a r t
section
variable{K : LC}{B : Bs}{H H' : Hp}{σ : L2.St}{ρ : PSt}{i : Nat}{p q : PV}{v : V}{a : Addr}
theorem StOk.grow(S:StOk K B H σ ρ)(s:Same H H'):StOk K B H' σ ρ:=⟨S.len,S.same.trans s,S.kp.trans (Same.kp s),S.vw.same s,S.fresh,S.apart,S.treed⟩
theorem b7{α:Type}{l:List α}{i j:Nat}{x y:α}(h:(l.set i x)[j]?=some y):(j=i/\y=x/\i<l.length)\/(j≠i/\l[j]?=some y):=by
 rw[QZ] at h
 by_cases e:i=j
 ·subst e
  rw[if_pos rfl] at h;split at h
  ·rename_i hl
   cases h;exact .inl ⟨rfl,rfl,hl⟩
  ·cases h
 ·rw[if_neg e] at h
  exact .inr ⟨fun z=>e z.symm,h⟩
theorem aI{α:Type}{l:List α}{i j:Nat}{x:α}(h:j≠i):(l.set i x)[j]?=l[j]?:=by
 rw[QZ,if_neg fun z=>h z.symm]
theorem cL{α:Type}{l:List α}{i:Nat}{x:α}(h:i<l.length):(l.set i x)[i]?=some x:=by
 rw[QZ,if_pos rfl,if_pos h]
theorem StOk.setV(S:StOk K B H σ ρ)(r:Rep K H p v):StOk K B H (σ.set i (some v)) (ρ.set i (.val p)):=by
 refine⟨by simp[S.len],S.same,S.kp,⟨fun j l e=>?_,S.vw.tb⟩,fun j q b e f=>?_,fun j k q q' b e1 e2 f1 f2=>?_,fun j t e=>?_⟩
 ·rcases b7 e with⟨rfl,rfl,hl⟩|⟨hj,e⟩
  ·exact⟨v,cL (by rw[← S.len];exact hl),r⟩
  ·rw[aI hj]
   exact S.vw j l e
 ·rcases b7 e with⟨_,z,_⟩|⟨hj,e⟩
  ·cases z
  ·rw[aI hj] at f
   exact S.fresh j q b e f
 ·rcases b7 e1 with⟨_,z,_⟩|⟨hj,e1⟩
  ·cases z
  ·rcases b7 e2 with⟨_,z,_⟩|⟨hk,e2⟩
   ·cases z
   ·rw[aI hj] at f1
    rw[aI hk] at f2;exact S.apart j k q q' b e1 e2 f1 f2
 ·rcases b7 e with⟨_,z,_⟩|⟨hj,e⟩
  ·cases z
  ·obtain⟨a',r',h1,h2,h3⟩:=S.treed j t e
   exact⟨a',r',h1,by rw[aI hj];exact h2,h3⟩
theorem StOk.setN(S:StOk K B H σ ρ)(s:Same H H')(n:H a=none)(r:cP K H' a p):StOk K B H' (σ.set i (some (.ref a))) (ρ.set i (.own p)):=by
 have other:∀(j:Nat)(q:PV),ρ[j]?=some (.own q)->σ[j]?≠some (some (.ref a)):=fun j q e f=>by
  obtain⟨b,e2,w⟩:=S.vw j _ e;rw[f] at e2;cases e2;cases q with
  | lst ps=>obtain⟨_,w,_⟩:=w;rw[n] at w;cases w
  | dct ks ps=>obtain⟨_,w,_⟩:=w;rw[n] at w;cases w
  | dtt ks ps=>obtain⟨_,w,_⟩:=w;rw[n] at w;cases w
  | _=>exact w
 refine⟨by simp[S.len],S.same.trans s,S.kp.trans (Same.kp s),⟨fun j l e=>?_,s.tabs S.vw.tb⟩,fun j q b e f=>?_,fun j k q q' b e1 e2 f1 f2=>?_,fun j t e=>?_⟩
 ·rcases b7 e with⟨rfl,rfl,hl⟩|⟨hj,e⟩
  ·exact⟨a,cL (by rw[← S.len];exact hl),r⟩
  ·rw[aI hj]
   exact(S.vw j l e).same s
 ·rcases b7 e with⟨rfl,_,hl⟩|⟨hj,e⟩
  ·rw[cL (by rw[← S.len];exact hl)] at f
   cases f;exact S.same.free n
  ·rw[aI hj] at f
   exact S.fresh j q b e f
 ·rcases b7 e1 with⟨h1,_,hl⟩|⟨hj,d1⟩
  ·rcases b7 e2 with⟨h2,_,_⟩|⟨hk,d2⟩
   ·rw[h1,h2]
   ·subst h1
    rw[cL (by rw[← S.len];exact hl)] at f1;cases f1;rw[aI hk] at f2;exact absurd f2 (other k q' d2)
  ·rcases b7 e2 with⟨h2,_,hl⟩|⟨hk,d2⟩
   ·subst h2
    rw[cL (by rw[← S.len];exact hl)] at f2;cases f2;rw[aI hj] at f1;exact absurd f1 (other j q d1)
   ·rw[aI hj] at f1
    rw[aI hk] at f2;exact S.apart j k q q' b d1 d2 f1 f2
 ·rcases b7 e with⟨_,z,_⟩|⟨hj,e⟩
  ·cases z
  ·obtain⟨a',r',h1,h2,h3⟩:=S.treed j t e
   exact⟨a',r',h1,by rw[aI hj];exact h2,h3⟩
theorem cP.obj(h:cP K H a p):∃u,H a=some u/\oM u=false:=by
 cases p with
 | lst ps=>obtain⟨_,w,_⟩:=h;exact⟨_,w,rfl⟩
 | dct ks ps=>obtain⟨_,w,_⟩:=h;exact⟨_,w,rfl⟩
 | dtt ks ps=>obtain⟨_,w,_⟩:=h;exact⟨_,w,rfl⟩
 | _=>exact LP h
theorem cP.kp(k:Kp H H')(e:H' a=H a)(h:cP K H a p):cP K H' a p:=by
 cases p with
 | lst ps=>obtain⟨xs,w,r⟩:=h;exact⟨xs,by rw[e];exact w,r.kp k⟩
 | dct ks ps=>obtain⟨xs,w,z,r⟩:=h;exact⟨xs,by rw[e];exact w,z,r.kp k⟩
 | dtt ks ps=>obtain⟨xs,w,z,r⟩:=h;exact⟨xs,by rw[e];exact w,z,r.kp k⟩
 | _=>exact h
theorem StOk.turn{l':Sl}(S:StOk K B H σ ρ)(e:ρ[i]?=some (.own p))(f:σ[i]?=some (some (.ref a)))(oth:∀b,b≠a->H' b=H b)(hl:E1 K H' (some (some (.ref a))) l')(hn:∀t,l'≠.tree t:=by intro _ h;cases h):StOk K B H' σ (ρ.set i l'):=by
 obtain⟨b,f2,w⟩:=S.vw i _ e;rw[f] at f2;cases f2;obtain⟨u,hu,nf⟩:=w.obj;have fa:=S.fresh i p a e f
 have k:Kp H H':=fun b u' eb fb=>by
  have:b≠a:=fun z=>by
   subst z;rw[hu] at eb;cases eb;rw[nf] at fb;cases fb
  rw[oth b this];exact eb
 have ne:∀(j:Nat)(q:PV)(b:Addr),j≠i->ρ[j]?=some (.own q)->σ[j]?=some (some (.ref b))->b≠a:=fun j q b hj e2 f2 z=>by
  subst z;exact hj (S.apart j i q p b e2 e f2 f)
 refine⟨by simp[S.len],S.same.but fa (fun u h=>(w.nt u h).1) oth,S.kp.trans k,⟨fun j l ej=>?_,S.vw.tb.but w.nt oth⟩,fun j q b ej fj=>?_,fun j m q q' b e1 e2 f1 f2=>?_,fun j t e=>?_⟩
 ·rcases b7 ej with⟨rfl,rfl,hl2⟩|⟨hj,ej⟩
  ·rw[f]
   exact hl
  ·have:=S.vw j l ej
   cases l with
   | no=>exact trivial
   | val q=>obtain⟨v,e1,r⟩:=this;exact⟨v,e1,r.kp k⟩
   | own q=>
    obtain⟨b,e1,r⟩:=this;exact⟨b,e1,r.kp k (oth b (ne j q b hj ej e1))⟩
   | tree t=>
    obtain⟨a',r',_,h2,h3⟩:=S.treed j t ej;exact⟨a',r',h2,h3.same (S.same.but fa (fun u h=>(w.nt u h).1) oth)⟩
 ·rcases b7 ej with⟨rfl,_,_⟩|⟨hj,ej⟩
  ·rw[f] at fj
   cases fj;exact fa
  ·exact S.fresh j q b ej fj
 ·have fix:∀(j:Nat)(q:PV),(ρ.set i l')[j]?=some (.own q)->∃q',ρ[j]?=some (.own q'):=fun j q ej=>by
   rcases b7 ej with⟨rfl,_,_⟩|⟨hj,ej⟩
   ·exact⟨p,e⟩
   ·exact⟨q,ej⟩
  obtain⟨q1,g1⟩:=fix j q e1;obtain⟨q2,g2⟩:=fix m q' e2;exact S.apart j m q1 q2 b g1 g2 f1 f2
 ·rcases b7 e with⟨_,z,_⟩|⟨hj,e⟩
  ·exact absurd z.symm (hn t)
  ·exact S.treed j t e
theorem StOk.rebase{B':Hp}(S:StOk K B H σ ρ)(k:Kp B' H):StOk K ⟨B.1,B',B.3⟩ H σ ρ:=⟨S.len,S.same,k,S.vw,S.fresh,S.apart,S.treed⟩
end
def RS(C:Cn)(B:Bs)(D:Ends):R Fl->Prop
 | .ok (.next ρ)=>∀σ H,StOk C.X.K B H σ ρ->D.nx σ H
 | .ok (.brk ρ)=>∀σ H,StOk C.X.K B H σ ρ->D.bk σ H
 | .ok (.cont ρ)=>∀σ H,StOk C.X.K B H σ ρ->D.ct σ H
 | .ok (.ret p)=>∀v H,Same B.1 H->Rep C.X.K H p v->D.rt v H
 | .er x=>∀H,Same B.1 H->C.Ac x H
 | .no=>False
def tS(C:Cn)(g:PSt->R Fl):TS:=fun D σ H=>∃ρ B,StOk C.X.K B H σ ρ/\RS C B D (g ρ)
def SV(C:Cn)(st:Stmt)(g:PSt->R Fl):Prop:=PS C.X st (tS C g)
def SVs(C:Cn)(st:List Stmt)(g:PSt->R Fl):Prop:=PSs C.X st (tS C g)
section
variable{C : Cn}{B : Bs}{D : Ends}{H : Hp}{α : Type}
theorem RS.bind{r:R α}{g:α->R Fl}(h:RS C B D (r >>= g))(s:Same B.1 H):RQ C H r fun a=>RS C B D (g a):=by
 cases r with
 | ok a=>exact h
 | er x=>exact fun H' s'=>h H' (s.trans s')
 | no=>exact h
theorem RS.ofO{o:Option α}{g:α->R Fl}(h:RS C B D (R.ofO o >>= g)):∃a,o=some a/\RS C B D (g a):=by
 cases o with
 | none=>exact LP h
 | some a=>exact⟨a,rfl,h⟩
end
section
variable{C : Cn}{st : Stmt}{sts a b body : List Stmt}{e tg iter c : Expr}{f fk : PSt → R PV}{g g' : PSt → R Fl}{pos : Nf}{t : PSt → R Bool}
theorem aA:SVs C [] bA:=fun pins s σ H D I ⟨ρ,B,S,h⟩=>wq pins s σ H D I (h σ H S)
theorem aa(h1:SV C st g)(h2:SVs C sts g'):SVs C (st::sts) (bX g g'):=by
 intro pins s σ H D I ⟨ρ,B,S,h⟩;refine sr h1 h2 pins s σ H D I ⟨ρ,B,S,?_⟩;unfold bX at h;cases hg:g ρ with
 | ok fl=>
  rw[hg] at h;cases fl with
  | next ρ'=>exact fun σ' H' S'=>⟨ρ',B,S',h⟩
  | brk ρ'=>exact h
  | cont ρ'=>exact h
  | ret p=>exact h
 | er x=>rw[hg] at h;exact h
 | no=>rw[hg] at h;exact h
theorem af(h1:SV C st g):SVs C [st] g:=by
 intro pins s σ H D I ⟨ρ,B,S,h⟩;exact wo h1 pins s σ H D I ⟨ρ,B,S,h⟩
theorem au(he:EV C e f):SV C (.Return (some e) pos) (cv f):=by
 intro pins s σ H D I ⟨ρ,B,S,h⟩;exact wu he pins s σ H D I ⟨ρ,S.vw,(h.bind S.same).imp fun p _ k v H' s' r=>k v H' (S.same.trans s') r⟩
theorem bH(hc:ET C c t)(ha:SVs C a g)(hb:SVs C b g'):SV C (.If c a b pos) (ifF t g g'):=by
 intro pins s σ H D I ⟨ρ,B,S,h⟩;refine EU hc ha hb pins s σ H D I ⟨ρ,S.vw,(h.bind S.same).imp fun k _ q H' s'=>?_⟩;cases k with
 | true=>exact zX ⟨ρ,B,S.grow s',q⟩
 | false=>exact zY ⟨ρ,B,S.grow s',q⟩
theorem aK(i:Nat){x:Str}{pos':Nf}(hN:C.X.N.Nodup)(he:EV C e f)(hs:OY e (some (.Name x pos')) pos.line C.X.env=pure false:=by rfl)
  (hf:C.X.fn x=true\/C.X.env.scope.names.lookup x=some .local:=by first | exact .inl rfl | exact .inr rfl | assumption) (hi:C.X.N[i]?=some x:=by rfl) (hx:Loc C.X.env.scope x:=by first | exact .inl rfl | exact .inr rfl) :
  SV C (.Assign [.Name x pos'] e pos) (dN i f):=by
 intro pins s σ H D I ⟨ρ,B,S,h⟩;exact wt hN hi hx he hs hf pins s σ H D I ⟨ρ,S.vw,(h.bind S.same).imp fun p _ k v H' s' r=>k _ H' ((S.grow s').setV r)⟩
theorem oQ(i:Nat){x:Str}{pos':Nf}(hN:C.X.N.Nodup)(he:EN C e f)(hs:OY e (some (.Name x pos')) pos.line C.X.env=pure false:=by rfl)
  (hf:C.X.fn x=true\/C.X.env.scope.names.lookup x=some .local:=by first | exact .inl rfl | exact .inr rfl | assumption) (hi:C.X.N[i]?=some x:=by rfl) (hx:Loc C.X.env.scope x:=by first | exact .inl rfl | exact .inr rfl) :
  SV C (.Assign [.Name x pos'] e pos) (zD i f):=by
 intro pins s σ H D I ⟨ρ,B,S,h⟩;exact wt hN hi hx he hs hf pins s σ H D I ⟨ρ,S.vw,(h.bind S.same).imp fun p _ k a H' s' n r=>k _ H' (S.setN s' n r)⟩
theorem Bg{pins:List (Addr×Obj)}{s:LG}{σ:L2.St}{H:Hp}{B:Bs}{ρ:PSt}(i:Nat)(I:Inv C.X pins σ H s)(S:StOk C.X.K B H σ ρ):∃H',Inv C.X pins σ H' s/\StOk C.X.K B H' σ (rC i ρ):=by
 unfold rC
 split
 ·rename_i p e
  obtain⟨a,f,w⟩:=S.vw i _ e;obtain⟨H',I',rp,oth⟩:=L2.Inv.frz I w;exact⟨H',I',S.turn e f oth ⟨_,rfl,rp⟩⟩
 ·exact⟨H,I,S⟩
theorem SV.frz(i:Nat)(h:SV C st g):SV C st (Ad i g):=by
 intro pins s σ H D I ⟨ρ,B,S,q⟩;obtain⟨H',I',S'⟩:=Bg i I S;exact h pins s σ H' D I' ⟨_,B,S',q⟩
theorem nA:SV C st noF:=fun _ _ _ _ _ _ ⟨_,_,_,h⟩=>LP h
def tTg(C:Cn)(h:PV->PSt->Option PSt):TG:=fun v σ H Q=>∃ρ B p ρ',StOk C.X.K B H σ ρ/\Rep C.X.K H p v/\h p ρ=some ρ'/\∀σ',StOk C.X.K B H σ' ρ'->Q σ' H
def TGt(C:Cn)(tg:Expr)(h:PV->PSt->Option PSt):Prop:=PG C.X tg (tTg C h)
def Kg(C:Cn)(h:List PV->PSt->Option PSt):TGs:=fun vs σ H Q=>∃ρ B ps ρ',StOk C.X.K B H σ ρ/\aF C.X.K H ps vs/\h ps ρ=some ρ'/\∀σ',StOk C.X.K B H σ' ρ'->Q σ' H
def DG(C:Cn)(ts:List Expr)(h:List PV->PSt->Option PSt):Prop:=PGs C.X ts (Kg C h)
theorem bG(i:Nat){x:Str}(hN:C.X.N.Nodup)(hf:C.X.fn x=true\/C.X.env.scope.names.lookup x=some .local:=by first | exact .inl rfl | exact .inr rfl | assumption)(hi:C.X.N[i]?=some x:=by rfl)(hx:Loc C.X.env.scope x:=by first | exact .inl rfl | exact .inr rfl) :
  TGt C (.Name x pos) (ak i):=by
 intro pins s σ H v u Q I r ⟨ρ,B,p,ρ',S,rp,e,k⟩;cases e;exact qV hN hi hx hf pins s σ H v u Q I r (k _ (S.setV rp))
theorem jG:DG C [] gJ:=by
 intro pins s σ H vs us Q I r ⟨ρ,B,ps,ρ',S,rp,e,k⟩;cases ps with
 | nil=>cases e;cases rp;exact wF pins s σ H _ us Q I r ⟨rfl,k _ S⟩
 | cons _ _=>cases e
theorem cq{es:List Expr}{h:PV->PSt->Option PSt}{h':List PV->PSt->Option PSt}(h1:TGt C e h)(h2:DG C es h')(hs:(NI (e::es) C.X.env).map (·.2)=QS e C.X.env::(NI es C.X.env).map (·.2):=by rfl):DG C (e::es) (aE h h'):=by
 intro pins s σ H vs us Q I r ⟨ρ,B,ps,ρ',S,rp,ee,k⟩;cases ps with
 | nil=>cases ee
 | cons p qs=>
  obtain⟨x,xs,rfl,rp1,rp2⟩:=rp;have ee:(h p ρ).bind (fun ρ1=>h' qs ρ1)=some ρ':=ee;obtain⟨ρ1,e1,e2⟩:=LW.mp ee;exact su h1 h2 hs pins s σ H _ us Q I r ⟨x,xs,rfl,ρ,B,p,ρ1,S,rp1,e1,fun σ1 S1=>⟨ρ1,B,qs,ρ',S1,rp2,e2,k⟩⟩
end
end PU
namespace PU
open PySem PySem.Spec PyProof.Rows L2
variable[TW]
section
variable{C : Cn}{st : Stmt}{sts a b body : List Stmt}{e tg iter c : Expr}{f fk : PSt → R PV}{g g' : PSt → R Fl}{pos : Nf}{t : PSt → R Bool}
theorem mC{es:List Expr}{k n:Nat}{h:List PV->PSt->Option PSt}(hc:C.X.calm=true)(hh:DG C es h)
  (hn:(NI es C.X.env).length=n:=by rfl) (hst:(NI es C.X.env).findIdx? (·.1)=none:=by rfl):TGt C (.Tuple es k pos) (gF n h):=by
 intro pins s σ H v u Q I r ⟨ρ,B,p,ρ',S,rp,e,k⟩;cases p with
 | tup ps=>
  have e:(if ps.length=n then h ps ρ else none)=some ρ':=e
  by_cases hl:ps.length=n
  ·rw[if_pos hl] at e
   obtain⟨a,xs,rfl,hq,r1⟩:=rp;exact AZ hc hh hn hst pins s σ H _ u Q I r ⟨a,xs,rfl,hq.sq,by rw[← r1.length];exact hl,ρ,B,ps,ρ',S,r1,e,k⟩
  ·rw[if_neg hl] at e
   cases e
 | _=>cases e
def ItP(K:LC)(J:It)(H₁:Hp)(ps:List PV):Prop:=
 ∀(i:Nat)(H:Hp),Kp H₁ H->(i=ps.length->J.stop i H)/\∀p,ps[i]?=some p->J.go i H/\∀x H',J.yld i H x H'->Same H H'/\Rep K H' p x
def tI(C:Cn)(f:PSt->R (List PV)):TI:=fun σ H Q=>∃ρ,View C.X.K H σ ρ/\RQ C H (f ρ) fun ps=>∀J H',Same H H'->ItP C.X.K J H' ps->Q J H'
def EI(C:Cn)(tg iter:Expr)(f:PSt->R (List PV)):Prop:=PI C.X tg iter (tI C f)
theorem oA{α:Type}{l:List α}{i:Nat}{x:α}(h:l[i]?=some x):l.drop i=x::l.drop (i+1):=by
 obtain⟨hl,e⟩:=Lw.mp h;rw[RN hl,e]
theorem iy{fi:PSt->R (List PV)}{h:PV->PSt->Option PSt}(hi:EI C tg iter fi)(hg:TGt C tg h)(hb:SVs C body g)
  (hs:∀x,O8 iter C.X.env x=pure x:=by intro _;rfl) (hp:PassesOwn (Lz C.X.prog C.X.w) C.X.A C.X.env C.X.xe:=by exact SO) (hc:C.X.calm=true:=by rfl):SV C (.For tg iter body [] pos) (sR fi h g):=by
 intro pins s σ H D I ⟨ρ,B,S,q⟩;refine AX hp hc hi hg hb hs pins s σ H D I ⟨ρ,S.vw,(q.bind S.same).imp fun ps _ k J H1 s1 it=>?_⟩;refine⟨fun i m σ' H'=>∃ρ',m=ps.length-i/\i<=ps.length/\StOk C.X.K ⟨B.1,H1,B.3⟩ H' σ' ρ'/\RS C B D (qj h g (ps.drop i) ρ'),⟨ps.length,ρ,rfl,Mr _,(S.grow s1).rebase (Kp.refl H1),by simpa using k⟩,?_⟩;rintro i m σ' H' ⟨ρ',rfl,hi',S',q'⟩;have back:∀{σ2:L2.St}{H2:Hp}{ρ2:PSt},StOk C.X.K ⟨B.1,H1,B.3⟩ H2 σ2 ρ2->StOk C.X.K B H2 σ2 ρ2:=fun {σ2 H2 ρ2} S2=>⟨S2.len,S2.same,(S.kp.trans (Same.kp s1)).trans S2.kp,S2.vw,S2.fresh,S2.apart,S2.treed⟩;obtain⟨stp,stepp⟩:=it i H' S'.kp
 by_cases hlt:i<ps.length
 ·have ei:ps[i]?=some ps[i]:=by simp[hlt]
  obtain⟨go,yl⟩:=stepp _ ei;rw[oA ei] at q';obtain⟨ρ1,e1,q1⟩:=RS.ofO q';refine .inr ⟨go,fun σ2 H2=>∃ρ2,StOk C.X.K ⟨B.1,H1,B.3⟩ H2 σ2 ρ2/\RS C B D (qj h g (ps.drop (i+1)) ρ2),fun σ2 H2 ⟨ρ2,S2,r2⟩=>⟨ps.length-(i+1),by omega,ρ2,rfl,hlt,S2,r2⟩,fun x H2 y=>?_⟩;obtain⟨s2,rp⟩:=yl x H2 y;refine⟨ρ',⟨B.1,H1,B.3⟩,ps[i],ρ1,S'.grow s2,rp,e1,fun σ3 S3=>⟨ρ1,⟨B.1,H1,B.3⟩,S3,?_⟩⟩;cases hgr:g ρ1 with
  | ok fl=>
   rw[hgr] at q1;cases fl with
   | next ρ2=>exact fun σ4 H4 S4=>⟨ρ2,S4,q1⟩
   | cont ρ2=>exact fun σ4 H4 S4=>⟨ρ2,S4,q1⟩
   | brk ρ2=>exact fun σ4 H4 S4=>q1 σ4 H4 (back S4)
   | ret p=>exact q1
  | er x=>rw[hgr] at q1;exact q1
  | no=>rw[hgr] at q1;exact q1
 ·have e:i=ps.length:=by omega
  subst e;rw[PY] at q';exact .inl ⟨stp rfl,q' σ' H' (back S')⟩
end
end PU
namespace PU
open PySem PySem.Spec PyProof.Rows L2
variable[TW]
def spP(K:LC)(n:Nat)(F:List PV->Option PV):Sp:=fun vs H Q _=>vs.length=n/\tQ H/\∃ps p,aF K H ps vs/\F ps=some p/\∀v H',Same H H'->Rep K H' p v->Q v H'
structure PF(P:LY)(w:Ly)(K:LC)(mg:Str->Option LD)(base:Heap)(k:Nat)(x:Str)(F:List PV->Option PV):Prop where
 ex:∃(f:Addr)(fd:FuncData)(ps:List Str),FnOk P w K mg base CX0 k f fd ps (spP K ps.length F)/\mg x=some (.ref f)/\NR K (.ref f)=true/\Binds K fd ps []/\∀qs p,F qs=some p->qs.length=ps.length
section
variable{C : Cn}{e : Expr}{es : List Expr}{fs : PSt → R (List PV)}{x : Str}{k : Nat}{F : List PV → Option PV}{p pos : Nf}
theorem az(G:PF C.X.prog C.X.w C.X.K C.X.mg C.X.base k x F){kr:Nat}(hr:Room kr C.X.A)(ha:EA C (e::es) fs)
  (hdb:(x == ("__debug__":Str))=false:=by decide) (he:Ls (e::es) C.X.env=(false,Mu e C.X.env)::Ls es C.X.env:=by exact eI rfl) (hpl:(Nj pos (Ls es C.X.env)).any (·.1)=false:=by exact nH rfl) (hk:k<=kr:=by decide) (hg:Gl C.X x:=by exact rfl) :
  EV C (.Call (.Name x p) (e::es) [] pos) (bg fs F):=by
 replace hr:=hr.mono hk;obtain⟨f,fd,ps,a,b,c,d,l⟩:=G.ex;intro pins s σ H Q I ⟨ρ,vw,q⟩;refine qZ (dvs:=[]) (ds:=[]) (E:=E0) a hr hg b c d .nil Cj ha hdb he hpl pins s σ H Q I ⟨ρ,vw,q.bind.imp fun qs _ k vs H1 s1 r1=>?_⟩;obtain⟨z,ez,k⟩:=k.ofO;rw[Mh];exact⟨by rw[← r1.length];exact l qs z ez,s1.tabs vw.tb,qs,z,r1,ez,fun v H' s' r'=>k v H' (s1.trans s') r'⟩
end
section
variable{P : LY}{w : Ly}{K : LC}{mg : Str → Option LD}{base : Heap}
abbrev Dw(P:LY)(w:Ly)(K:LC)(mg:Str->Option LD)(base:Heap)(N:List Str)(qual:Str)(sc:Scope)(f:Addr)(cdv:LD)(A:M3)(outer:List Qo)(s:LG)(H:Hp)(E:XK):Cn:=
 ⟨(Ds CX0 P w K mg base N qual sc f cdv A outer s H E).nox,fun _ _=>False⟩
theorem B6{ps:List PV}{n i:Nat}{p:PV}(e:(start n ps)[i]?=some (.own p)):False:=by
 unfold start at e
 by_cases hi:i<ps.length
 ·rw[MI (by simpa using hi),LR] at e
  cases h:ps[i]? with
  | none=>rw[h] at e;cases e
  | some p=>rw[h] at e;cases e
 ·rw[MX (by simpa using hi),MW] at e
  split at e <;> cases e
theorem wR{n i:Nat}{ps:List PV}{t:Tr}(e:(start n ps)[i]?=some (.tree t)):False:=by
 unfold start at e
 by_cases hi:i<ps.length
 ·rw[MI (by simpa using hi),LR] at e
  cases h:ps[i]? with
  | none=>rw[h] at e;cases e
  | some p=>rw[h] at e;cases e
 ·rw[MX (by simpa using hi),MW] at e
  split at e <;> cases e
theorem nF{K:LC}{H:Hp}{N:List Str}{ps:List PV}{vs:List V}(tb:tQ H)(r:aF K H ps vs):StOk K ⟨H,H,fun _=>none⟩ H (L2.start N vs) (start N.length ps):=by
 have hl:=r.length;refine⟨by simp[start,L2.start,hl],Same.refl H,Kp.refl H,⟨fun i l e=>?_,tb⟩,fun i p a e f=>?_,fun i j p q a e1 e2 f1 f2=>?_,fun i t e=>?_⟩
 ·unfold start at e
  by_cases hi:i<ps.length
  ·rw[MI (by simpa using hi),LR] at e
   cases h:ps[i]? with
   | none=>rw[h] at e;cases e
   | some p=>
    rw[h] at e;cases e;obtain⟨v,ev,rp⟩:=r.get h;refine⟨v,?_,rp⟩;unfold L2.start;rw[MI (by rw[LI,← hl];exact hi),LR,ev];rfl
  ·rw[MX (by simpa using hi),MW] at e
   split at e
   ·cases e
    exact trivial
   ·cases e
 all_goals exfalso
 ·exact B6 e
 ·exact B6 e1
 ·exact wR e
theorem HU{x qual:Str}{st:Stmt}{f:Addr}{fd:FuncData}{N ps:List Str}{k:Nat}{g:PSt->R Fl}(F:Fun K x qual st f fd)(S:FnScope N ps (ab st))(hm:mg x=some (.ref f))(hb:Binds K fd ps [])
  (hbody:∀(cdv:LD)(A:M3)(outer:List Qo)(s:LG)(H:Hp)(E:XK),Room k (A.deeper (Oh qual (ab st) s.heap.objs.size f cdv))->SVs (Dw P w K mg base N qual (ab st) f cdv A outer s H E) (bT st) g) :
  PF P w K mg base (k+1) x (iR ps.length N.length g):=by
 refine⟨f,fd,ps,F.ok S (fun vs H Q E h=>h.1) (fun cdv A outer s H vs Q E hr h=>?_),hm,F.kp,hb,fun qs p h=>?_⟩
 ·obtain⟨hl,tb,qs,p,r,e,k⟩:=h
  refine⟨_,hbody cdv A outer s H E hr,start N.length qs,⟨H,H,fun _=>none⟩,nF tb r,?_⟩;unfold iR at e;rw[if_pos (by rw[r.length];exact hl)] at e;cases hg:g (start N.length qs) with
  | ok fl=>
   rw[hg] at e;cases fl with
   | next ρ=>cases e;exact fun σ H' S'=>k .non H' S'.same rfl
   | ret q=>cases e;exact fun v H' s' r'=>k v H' s' r'
   | brk ρ=>cases e
   | cont ρ=>cases e
  | er x=>rw[hg] at e;cases e
  | no=>rw[hg] at e;cases e
 ·unfold iR at h
  split at h
  ·rename_i hl;exact hl
  ·cases h
end
end PU
namespace PU
open PySem PySem.Spec PyProof.Rows L2
variable[TW]
def fJ(X:Cx)(N':List Str)(scope:Scope)(cl:List (Str×Addr))(L:Addr)(s₂:LG)(H₂:Hp)(fp:List Addr):Cx where
 prog:=X.prog
 w:=X.w
 K:=X.K
 mg:=X.mg
 base:=X.base
 A:=X.A
 N:=N'
 s₀:=s₂
 H₀:=H₂
 env:=compEnvC scope cl L X.env
 outer:=X.stack
 stack:=X.stack
 ex:=fp
 fn:=fun _=>false
 calm:=true
 pn:=[]
 xe:=fun _ _=>False
abbrev cy(C:Cn)(N':List Str)(scope:Scope)(cl:List (Str×Addr))(L:Addr)(s₂:LG)(H₂:Hp)(fp:List Addr):Cn:=⟨fJ C.X N' scope cl L s₂ H₂ fp,fun _ _=>False⟩
def tTc(C:Cn)(h:Tgt):TG:=fun v σ H Q=>∃ρ p ρ',ρ.length=σ.length/\View C.X.K H σ ρ/\Rep C.X.K H p v/\h p ρ=some ρ'/\∀σ',ρ'.length=σ'.length->View C.X.K H σ' ρ'->Q σ' H
def TCt(C:Cn)(tg:Expr)(h:Tgt):Prop:=PG C.X tg (tTc C h)
def Kh(C:Cn)(h:vc):TGs:=fun vs σ H Q=>∃ρ ps ρ',ρ.length=σ.length/\View C.X.K H σ ρ/\aF C.X.K H ps vs/\h ps ρ=some ρ'/\∀σ',ρ'.length=σ'.length->View C.X.K H σ' ρ'->Q σ' H
def DH(C:Cn)(ts:List Expr)(h:vc):Prop:=PGs C.X ts (Kh C h)
theorem View.setV{K:LC}{H:Hp}{σ:L2.St}{ρ:PSt}{i:Nat}{p:PV}{v:V}(vw:View K H σ ρ)(hl:ρ.length=σ.length)(r:Rep K H p v):View K H (σ.set i (some v)) (ρ.set i (.val p)):=by
 refine⟨fun j l e=>?_,vw.tb⟩;rcases b7 e with⟨rfl,rfl,hl2⟩|⟨hj,e⟩
 ·exact⟨v,cL (by rw[← hl];exact hl2),r⟩
 ·rw[aI hj]
  exact vw j l e
section
variable{C : Cn}{e : Expr}{pos : Nf}
theorem BF(i:Nat){x:Str}(hN:C.X.N.Nodup)(hi:C.X.N[i]?=some x)(hx:Loc C.X.env.scope x)(hf:C.X.fn x=true\/C.X.env.scope.names.lookup x=some .local:=by first | exact .inl rfl | exact .inr rfl | assumption) :
  TCt C (.Name x pos) (ak i):=by
 intro pins s σ H v u Q I r ⟨ρ,p,ρ',hl,vw,rp,e,k⟩;cases e;exact qV hN hi hx hf pins s σ H v u Q I r (k _ (by simp[hl]) (vw.setV hl rp))
theorem jH:DH C [] gJ:=by
 intro pins s σ H vs us Q I r ⟨ρ,ps,ρ',hl,vw,rp,e,k⟩;cases ps with
 | nil=>cases e;cases rp;exact wF pins s σ H _ us Q I r ⟨rfl,k _ hl vw⟩
 | cons _ _=>cases e
theorem cF{es:List Expr}{h:Tgt}{h':vc}(h1:TCt C e h)(h2:DH C es h')(hs:(NI (e::es) C.X.env).map (·.2)=QS e C.X.env::(NI es C.X.env).map (·.2):=by rfl):DH C (e::es) (aE h h'):=by
 intro pins s σ H vs us Q I r ⟨ρ,ps,ρ',hl,vw,rp,ee,k⟩;cases ps with
 | nil=>cases ee
 | cons p qs=>
  obtain⟨x,xs,rfl,rp1,rp2⟩:=rp;have ee:(h p ρ).bind (fun ρ1=>h' qs ρ1)=some ρ':=ee;obtain⟨ρ1,e1,e2⟩:=LW.mp ee;exact su h1 h2 hs pins s σ H _ us Q I r ⟨x,xs,rfl,ρ,p,ρ1,hl,vw,rp1,e1,fun σ1 hl1 vw1=>⟨ρ1,qs,ρ',hl1,vw1,rp2,e2,k⟩⟩
theorem mE{es:List Expr}{k n:Nat}{h:vc}(hc:C.X.calm=true)(hh:DH C es h)
  (hn:(NI es C.X.env).length=n:=by rfl) (hst:(NI es C.X.env).findIdx? (·.1)=none:=by rfl):TCt C (.Tuple es k pos) (gF n h):=by
 intro pins s σ H v u Q I r ⟨ρ,p,ρ',hl,vw,rp,e,k⟩;cases p with
 | tup ps=>
  have e:(if ps.length=n then h ps ρ else none)=some ρ':=e
  by_cases hl2:ps.length=n
  ·rw[if_pos hl2] at e
   obtain⟨a,xs,rfl,hq,r1⟩:=rp;exact AZ hc hh hn hst pins s σ H _ u Q I r ⟨a,xs,rfl,hq.sq,by rw[← r1.length];exact hl2,ρ,ps,ρ',hl,vw,r1,e,k⟩
  ·rw[if_neg hl2] at e
   cases e
 | _=>cases e
end
def AD(n:Nat)(h:Tgt):Prop:=∀p ρ ρ1,h p ρ=some ρ1->ρ1.length=ρ.length/\∀i,n<=i->ρ1[i]?=ρ[i]?
def AC(n:Nat)(h:vc):Prop:=∀p ρ ρ1,h p ρ=some ρ1->ρ1.length=ρ.length/\∀i,n<=i->ρ1[i]?=ρ[i]?
theorem o7{n i:Nat}(h:i<n):AD n (ak i):=fun p ρ ρ1 e=>by
 cases e;exact⟨by simp,fun j hj=>aI (by omega)⟩
theorem rg{n:Nat}:AC n gJ:=fun ps ρ ρ1 e=>by
 cases ps with
 | nil=>cases e;exact⟨rfl,fun _ _=>rfl⟩
 | cons _ _=>cases e
theorem o8{n:Nat}{h:Tgt}{h':vc}(a:AD n h)(b:AC n h'):AC n (aE h h'):=fun ps ρ ρ2 e=>by
 cases ps with
 | nil=>cases e
 | cons p qs=>
  have e:(h p ρ).bind (fun ρ1=>h' qs ρ1)=some ρ2:=e;obtain⟨ρ1,e1,e2⟩:=LW.mp e;obtain⟨l1,g1⟩:=a p ρ ρ1 e1;obtain⟨l2,g2⟩:=b qs ρ1 ρ2 e2;exact⟨l2.trans l1,fun i hi=>(g2 i hi).trans (g1 i hi)⟩
theorem rf{n m:Nat}{h:vc}(a:AC n h):AD n (gF m h):=fun p ρ ρ1 e=>by
 cases p with
 | tup ps=>
  have e:(if ps.length=m then h ps ρ else none)=some ρ1:=e;split at e
  ·exact a ps ρ ρ1 e
  ·cases e
 | _=>cases e
def ETs(C:Cn)(ifs:List Expr)(t:PSt->R Bool):Prop:=(ifs=[]/\t=gN)\/∃c,ifs=[c]/\ET C c t
theorem rE{C:Cn}:ETs C [] gN:=.inl ⟨rfl,rfl⟩
theorem Df{C:Cn}{c:Expr}{t:PSt->R Bool}(h:ET C c t):ETs C [c] t:=.inr ⟨c,rfl,h⟩
def fW(cells:List (Str×Addr)):List (Str×OS)->List (Str×Addr)->List (Str×Addr)
 | [],acc=>acc
 | (n,k)::r,acc=>if (k == .free)=true then (match cells.lookup n with
  | some c=>fW cells r ((n,c)::acc)
  | none=>fW cells r acc) else fW cells r acc
theorem fu{scope:Scope}{env:Qo}(h:∀y∈scope.names,y.2=.free->∃c,env.cells.lookup y.1=some c):closureFor scope env=pure (fW env.cells scope.names []):=by
 have gen:∀(l:List (Str×OS))(acc:List (Str×Addr)),(∀y∈l,y.2=.free->∃c,env.cells.lookup y.1=some c)->
   (forIn l acc fun x r=>(match x with | (name,kind)=>if (kind == Mf)=true then do let a<- cellOf env name;pure (NU ((name,a)::r)) else pure (NU r):Sem (ForInStep (List (Str×Addr)))))=pure (fW env.cells l acc):=by
  intro l
  induction l with
  | nil=>intro acc _;rfl
  | cons y r ih=>
   intro acc hy;obtain⟨n,k⟩:=y;rw[Pw];have hr:=fun z hz=>hy z (Lq _ hz)
   by_cases hk:(k == Mf)=true
   ·obtain⟨c,hc⟩:=hy (n,k) Lp (by simpa using hk)
    have hc:env.cells.lookup n=some c:=hc;have e1:cellOf env n=pure c:=by unfold cellOf;rw[hc]
    simp only[hk,if_true,e1,fW,hc];exact ih _ hr
   ·simp only[hk,if_false,fW]
    exact ih _ hr
 have:=gen scope.names [] h;have e:closureFor scope env=((forIn scope.names ([]:List (Str×Addr)) fun x r=>(match x with | (name,kind)=>if (kind == Mf)=true then do let a<- cellOf env name;pure (NU ((name,a)::r)) else pure (NU r):Sem (ForInStep (List (Str×Addr))))) >>= fun cs=>pure cs):=rfl;rw[e,this];rfl
theorem dm{cells:List (Str×Addr)}{x:Str}{c:Addr}:∀{l:List (Str×OS)}{acc:List (Str×Addr)},(fW cells l acc).lookup x=some c->cells.lookup x=some c\/acc.lookup x=some c
 | [],acc,h=>.inr h
 | (n,k)::r,acc,h=>by
  unfold fW at h;split at h
  ·split at h
   ·rename_i d hd
    rcases dm h with z | z
    ·exact .inl z
    ·rw[Mj] at z
     by_cases e:(x == n)=true
     ·rw[e] at z
      cases z;rw[RO e];exact .inl hd
     ·simp only[Pb] at e
      rw[e] at z;exact .inr z
   ·exact dm h
  ·exact dm h
theorem jC{cells:List (Str×Addr)}{x:Str}:∀{l:List (Str×OS)}{acc:List (Str×Addr)},(acc.lookup x).isSome=true->((fW cells l acc).lookup x).isSome=true
 | [],acc,h=>h
 | (n,k)::r,acc,h=>by
  unfold fW
  split
  ·split
   ·refine jC ?_
    rw[Mj]
    split
    ·rfl
    ·exact h
   ·exact jC h
  ·exact jC h
theorem tD{cells:List (Str×Addr)}{x:Str}{c:Addr}(hc:cells.lookup x=some c):∀{l:List (Str×OS)}{acc:List (Str×Addr)},(x,Mf)∈l->(fW cells l acc).lookup x=some c:=by
 have fin:∀{l:List (Str×OS)}{acc:List (Str×Addr)},(∀d,acc.lookup x=some d->d=c)->((fW cells l acc).lookup x).isSome=true->(fW cells l acc).lookup x=some c:=fun {l acc} ha h=>by
  obtain⟨d,hd⟩:=RA.mp h;rcases dm hd with z | z
  ·rw[hc] at z;cases z;exact hd
  ·rw[hd,ha d z]
 intro l
 induction l with
 | nil=>intro acc h;cases h
 | cons y r ih=>
  intro acc h;obtain⟨n,k⟩:=y;have rest:∀acc,(x,Mf)∈r->(fW cells r acc).lookup x=some c:=fun acc hr=>ih hr;rcases LJ.mp h with z | z
  ·cases z
   unfold fW;rw[if_pos (show (Mf == Mf)=true from rfl),hc];show (fW cells r ((x,c)::acc)).lookup x=some c;have hs:(((x,c)::acc).lookup x)=some c:=by rw[Mj,beq_self_eq_true]
   exact fin (fun d hd=>by rw[hs] at hd;cases hd;rfl) (jC (by rw[hs];rfl))
  ·unfold fW
   split
   ·split
    ·exact rest _ z
    ·exact rest _ z
   ·exact rest _ z
theorem iA{env:Qo}{x:Str}:∀{names:List (Str×OS)},names.lookup x=some .free->
  (names.map fun (n,k)=>if (k == Mf && env.scope.kind == .function && env.kindOf n == some .cell) then (n,Q1) else (n,k)).lookup x=some .cell ∨
  (names.map fun (n,k)=>if (k == Mf && env.scope.kind == .function && env.kindOf n == some .cell) then (n,Q1) else (n,k)).lookup x=some .free
 | [],h=>by simp at h
 | (n,k)::r,h=>by
  have ih:=@iA env x r;cases hx:x == n with
  | true=>
   simp only[Mj,hx] at h;cases h
   by_cases hc:(Mf == Mf && env.scope.kind == .function && env.kindOf n == some .cell)=true
   ·left
    simp only[LQ,hc,if_true,Mj,hx]
   ·right
    simp only[Pb] at hc;simp only[LQ,hc,Mp,if_false,Mj,hx]
  | false=>
   simp only[Mj,hx] at h
   by_cases hc:(k == Mf && env.scope.kind == .function && env.kindOf n == some .cell)=true
   ·simp only[LQ,hc,if_true,Mj,hx]
    exact ih h
   ·simp only[Pb] at hc
    simp only[LQ,hc,Mj,Mp,if_false,hx];exact ih h
theorem qt{prog:LY}{w:Ly}{A:M3}{R:TF->LG->Prop}{s:LG}{elt target iter:Expr}{ifs:List Expr}{scope:Scope}{pos:Nf}{it acc:LD}{env:Qo}(I:Nat->LG->Prop)
  (turn:∀n s,I n s->LO (Lz prog w) A (Om it) (fun r s₁=>match r with
   | none=>R (.ok .next) s₁
   | some v=>LO (Lz prog w) A (QB target it v) (fun _ s₁=>LO (Lz prog w) A (QS target env v) (fun _ s₂=>
     LO (Lz prog w) A (forIn ifs true fun c r=>if r=true then do let ok<- isTrue c env (Mu c env);pure (NU ok) else pure (NU r)) (fun ok s₃=>
      if ok=true then LO (Lz prog w) A (Mu elt env) (fun x s₄=>
       LO (Lz prog w) A (call (.builtin "list.append") [acc,x]) (fun _ s₅=>∃m,m<n/\I m s₅) (fun _ _=>False) s₄) (fun _ _=>False) s₃
      else ∃m,m<n/\I m s₃) (fun _ _=>False) s₂) (fun _ _=>False) s₁) (fun _ _=>False) s₁) (fun _ _=>False) s)
  (n:Nat) (h:I n s) :
  P9 (Lz prog w) A (.compLoop (.ListComp elt [⟨target,iter,ifs,0⟩] scope pos) 0 it acc env) R s:=by
 refine codeAny_loop rfl I (fun n s hI=>?_) n h;show LO _ A ((compTurn (.ListComp elt [⟨target,iter,ifs,0⟩] scope pos) 0 it acc env).onRaise (fun x=>do noteFrame x env;theTreesLotGoes x)) _ _ s;refine wpAny_noted ?_;rw[compTurn_list];refine LA (Qg (LA (Mx (turn n s hI) (fun r s₁ h₁=>?_) fun _ _ h'=>h'.elim)));cases r with
 | none=>exact LF h₁
 | some v=>
  refine LA (Mx h₁ (fun _ s₁ h₁=>?_) fun _ _ h'=>h'.elim);refine LA (Mx h₁ (fun _ s₂ h₂=>LA (Mx h₂ (fun ok s₃ h₃=>?_) fun _ _ h'=>h'.elim)) fun _ _ h'=>h'.elim);cases ok with
  | false=>exact LF ⟨rfl,h₃⟩
  | true=>
   exact LA (LA (Mx h₃ (fun x s₄ h₄=>LA (Mx h₄ (fun _ s₅ h₅=>LF (LF ⟨rfl,h₅⟩)) fun _ _ h'=>h'.elim)) fun _ _ h'=>h'.elim))
end PU
namespace PU
open PySem PySem.Spec PyProof.Rows L2
variable[TW]
structure CompOk(NX:List Str)(scX:Scope)(scope:Scope)(N':List Str)(nt:Nat)(idx:List Nat):Prop where
 kind:scope.kind=.function
 cell:∀y∈scope.names,y.2≠.cell
 names:∀y∈scope.names,y.2=.local->scope.names.lookup y.1=some .local
 free:∀y∈scope.names,y.2=.free->scX.names.lookup y.1=some .cell\/scX.names.lookup y.1=some .free
 len:N'.length=nt+idx.length
 ix:(idx.zip (N'.drop nt)).all (fun p=>decide (NX[p.1]?=some p.2) && decide (scope.names.lookup p.2=some .free))=true
theorem CompOk.at{NX:List Str}{scX:Scope}{scope:Scope}{N':List Str}{nt:Nat}{idx:List Nat}(O:CompOk NX scX scope N' nt idx){k:Nat}{x:Str}(h:N'[nt+k]?=some x) :
  ∃i,idx[k]?=some i/\NX[i]?=some x/\scope.names.lookup x=some .free:=by
 have hk:k<idx.length:=by
  have:=(Lw.mp h).1;have:=O.len;omega
 have e1:idx[k]?=some idx[k]:=by simp[hk]
 have e2:(N'.drop nt)[k]?=some x:=by rw[List.getElem?_drop];exact h
 have e3:(idx.zip (N'.drop nt))[k]?=some (idx[k],x):=by
  rw[List.getElem?_zip_eq_some];exact⟨e1,e2⟩
 have:=MY.mp O.ix _ (O3 e3);simp only[M6,decide_eq_true_eq] at this;exact⟨_,e1,this.1,this.2⟩
section
variable{C : Cn}{elt tg iter : Expr}{ifs : List Expr}{scope : Scope}{pos : Nf}{N' : List Str}{nt : Nat}{idx : List Nat}{h : Tgt}{t : PSt → R Bool}{fe : PSt → R PV}
theorem uS{pins:List (Addr×Obj)}{σ:L2.St}{H₂:Hp}{s₂:LG}{J:It}{fp:List Addr}{it:Addr}{tn:Nat->Heap->Prop}{ρ:PSt}(O:CompOk C.X.N C.X.env.scope scope N' nt idx)(hc:C.X.calm=true)
  (I:Inv C.X pins σ H₂ s₂) (T:Turn C.X.prog C.X.w C.X.K tg J fp it tn) (st:tn 0 s₂.heap) (hf:∀b∈fp,qG C.X pins H₂ b) (vw:View C.X.K H₂ σ ρ)
  {L D:Addr} {h₁:Heap} {tk:Nat} (hD:D=s₂.heap.objs.size) (hL:s₂.heap.objs.size<=L) (hDL:D≠L) (ns:h₁.Ns L (fun _=>none)) (keep:∀b o,s₂.heap.get? b=some o->h₁.get? b=some o)
  (acc:h₁.get? D=some { cls:=.type "list",data:=.seq ([]:List LD).toArray }) :
  ∃σ',Inv (fJ C.X N' scope (fW C.X.env.cells scope.names []) L s₂ H₂ fp) [] σ' (upd H₂ D (.lst [])) { s₂ with heap:=h₁,toks:=tk }/\View C.X.K (upd H₂ D (.lst [])) σ' (d7 nt idx ρ)/\(d7 nt idx ρ).length=σ'.length/\
   ∀b∈fp,b<s₂.heap.objs.size:=by
 have fl:∀b∈fp,b<s₂.heap.objs.size:=fun b hb=>by
  obtain⟨o,e,_⟩:=T.obj 0 _ st b hb;exact LM e
 have nD:H₂ D=none:=by rw[hD];exact I.fresh
 have frC:∀y∈scope.names,y.2=.free->∃c,C.X.env.cells.lookup y.1=some c:=fun y hy hk=>I.ok.has y.1 (O.free y hy hk)
 have clS:∀x c,(fW C.X.env.cells scope.names []).lookup x=some c->C.X.env.cells.lookup x=some c:=fun x c e=>by
  rcases dm e with z | z
  ·exact z
  ·cases z
 have cne:∀x c,(fW C.X.env.cells scope.names []).lookup x=some c->c<s₂.heap.objs.size:=fun x c e=>by
  obtain⟨v,q⟩:=I.cell x c (clS x c e);exact q.lt
 refine⟨Mg nt none++idx.map (fun i=>(σ[i]?).getD none),⟨⟨I.ok.mod,O.kind,I.ok.glob,I.ok.blt,hL,fun x y c e1 e2=>I.ok.inj x y c (clS x c e1) (clS y c e2),fun x hx=>?_,(fun x c z=>absurd (show false=true from z) LX),fun _=>I.ok.hd hc,I.ok.frames,.inl rfl,
  fun b hb=>⟨Lo (LK (fl b hb) hL),fun x c e=>(hf b hb).2.2.2.2.1 x c (clS x c e)⟩,I.bs,MR I.ok.bsz I.sz,fun b o e hb=>?_,fun b hb z=>?_,I.stack,I.stkFree⟩,
  rfl,I.bare,Un.laid keep (Qd hD.symm) nD,⟨_,ns,fun i x v hN hσ hv=>?_⟩,fun x c e=>?_,?_,fun x c e=>?_,fun p hp=>absurd (show p∈([]:List (Addr×Obj)) from hp) (by simp),?_,?_⟩,?_,?_,fl⟩
 ·-- has
  have hx:(T3 scope C.X.env).names.lookup x=some .cell\/(T3 scope C.X.env).names.lookup x=some .free:=hx
  have:scope.names.lookup x=some .free:=by
   have gen:∀(l:List (Str×OS)),(∀y∈l,y.2≠.cell)->((l.map fun (n,k)=>if (k == Mf && C.X.env.scope.kind == .function && C.X.env.kindOf n == some .cell) then (n,Q1) else (n,k)).lookup x=some .cell ∨
     (l.map fun (n,k)=>if (k == Mf && C.X.env.scope.kind == .function && C.X.env.kindOf n == some .cell) then (n,Q1) else (n,k)).lookup x=some .free)->l.lookup x=some .free:=by
    intro l
    induction l with
    | nil=>intro _ z;simp at z
    | cons y r ih=>
     intro hy z;obtain⟨n,k⟩:=y;have hk:k≠.cell:=hy (n,k) Lp;have ih:=ih fun y' hy'=>hy y' (Lq _ hy');rw[Mj]
     by_cases hc':(k == Mf && C.X.env.scope.kind == .function && C.X.env.kindOf n == some .cell)=true
     ·simp only[LQ,hc',if_true,Mj] at z
      cases hx':x == n with
      | true=>
       have:k=.free:=by
        simp only[M6] at hc';exact RO hc'.1.1
       rw[this]
      | false=>
       rw[hx'] at z;exact ih z
     ·simp only[Pb] at hc'
      simp only[LQ,hc',Mp,if_false,Mj] at z;cases hx':x == n with
      | true=>
       rw[hx'] at z;rcases z with z | z
       ·cases z;exact absurd rfl hk
       ·cases z;rfl
      | false=>
       rw[hx'] at z;exact ih z
   exact gen scope.names O.cell hx
  obtain⟨c,e⟩:=frC (x,.free) (Mt this) rfl;exact⟨c,tD e (Mt this)⟩
 ·-- noex
  obtain⟨e1,e2⟩:=I.bs b o e;obtain⟨g1,g2,g3,g4,_⟩:=hf b hb;rcases g4 with z | z
  ·exact I.ok.noex b o e z
  ·exact absurd (LM (I.ok.bs b o e).1) (Oi.mpr z)
 ·-- exfs
  obtain⟨g1,g2,g3,_⟩:=hf b hb;exact(LJ.mp (I.stkSub b z)).elim g2 g3
 ·-- loc
  by_cases hi:i<nt
  ·rw[MI (by simpa using hi),MW,if_pos hi] at hσ
   cases hσ
  ·obtain⟨k,rfl⟩:∃k,i=nt+k:=⟨i-nt,by omega⟩
   have hN:N'[nt+k]?=some x:=hN;obtain⟨j,ej,ex,el⟩:=O.at hN;rw[MX (by simp),Py,Pe,LR,ej] at hσ;have hσ:some ((σ[j]?).getD none)=some (some v):=hσ
   have hσ:σ[j]?=some (some v):=by
    cases q:σ[j]? with
    | none=>rw[q] at hσ;cases hσ
    | some z=>rw[q] at hσ;cases hσ;rfl
   obtain⟨m,hn,hl⟩:=I.loc;have hfr:=O.free (x,.free) (Mt el) rfl;obtain⟨u,ru,lk⟩:=hl j x v ex hσ (by rcases hfr with z | z;exact .inr (.inl z);exact .inr (.inr z));refine⟨u,ru,.inr ?_⟩;rcases lk with⟨z,_⟩|⟨_,c,ec,hcell⟩
   ·exfalso
    have z:C.X.env.scope.names.lookup x=some .local:=z;rcases hfr with q | q <;> (rw[show C.X.env.scope.names.lookup x=_ from q] at z;cases z)
   ·refine⟨iA (env:=C.X.env) el,c,tD ec (Mt el),?_⟩
    obtain⟨o,ho,hd⟩:=hcell;exact⟨o,keep c o ho,hd⟩
 ·obtain⟨v,o,ho,hd⟩:=I.cell x c (clS x c e)
  exact⟨v,o,keep c o ho,hd⟩
 ·-- free
  show upd H₂ D _ L=none;rw[aw (NG hDL)];exact I.hok.fresh hL
 ·show upd H₂ D _ c=none
  rw[aw (by rw[hD];exact Lo (cne x c e))];exact I.freeC x c (clS x c e)
 ·exact I.hok.laid keep (Qd hD.symm) ⟨by simp,[],0,.nil,acc⟩
 ·show _=N'.length
  rw[O.len];simp
 ·refine⟨fun i l e=>?_,(Same.new (o:=.lst []) nD).tabs vw.tb⟩
  unfold d7 at e
  by_cases hi:i<nt
  ·rw[MI (by simpa using hi),MW,if_pos hi] at e
   cases e;exact trivial
  ·obtain⟨k,rfl⟩:∃k,i=nt+k:=⟨i-nt,by omega⟩
   rw[MX (by simp),Py,Pe,LR] at e ⊢;cases ej:idx[k]? with
   | none=>rw[ej] at e;cases e
   | some j=>
    rw[ej] at e;have e:some (roS ρ[j]?)=some l:=e;cases e;cases q:ρ[j]? with
    | none=>exact trivial
    | some l'=>
     have:=(vw j l' q).same (Same.new (o:=.lst []) nD);cases l' with
     | no=>exact trivial
     | val p=>
      obtain⟨v,ev,r⟩:=this;exact⟨v,by show some ((σ[j]?).getD none)=_;rw[ev];rfl,r⟩
     | own p=>exact trivial
     | tree t=>exact trivial
 ·simp[d7]
theorem uU{ρ:PSt}{p:PV}{ps rest:List PV}(e:bz h t fe ρ (p::ps)=.ok rest):∃ρ1 b,h p ρ=some ρ1/\t ρ1=.ok b/\
  ((b=true/\∃q r,fe ρ1=.ok q/\bz h t fe ρ ps=.ok r/\rest=q::r)\/(b=false/\bz h t fe ρ ps=.ok rest)):=by
 unfold bz at e;cases h1:h p ρ with
 | none=>rw[h1] at e;cases e
 | some ρ1=>
  rw[h1] at e;simp only[R.ofO_some,R.ok_bind] at e;cases h2:t ρ1 with
  | ok b=>
   rw[h2] at e;simp only[R.ok_bind] at e;refine⟨ρ1,b,rfl,h2,?_⟩;cases b with
   | true=>
    rw[if_pos rfl] at e;cases h3:fe ρ1 with
    | ok q=>
     rw[h3] at e;simp only[R.ok_bind] at e;cases h4:bz h t fe ρ ps with
     | ok r=>
      rw[h4] at e;cases e;exact .inl ⟨rfl,q,r,rfl,rfl,rfl⟩
     | er x=>rw[h4] at e;cases e
     | no=>rw[h4] at e;cases e
    | er x=>rw[h3] at e;cases e
    | no=>rw[h3] at e;cases e
   | false=>
    rw[if_neg LX] at e;exact .inr ⟨rfl,e⟩
  | er x=>rw[h2] at e;cases e
  | no=>rw[h2] at e;cases e
theorem View.weak{K:LC}{H:Hp}{σ:L2.St}{ρ ρ1:PSt}{n:Nat}(vw:View K H σ ρ1)(low:∀i,n<=i->ρ1[i]?=ρ[i]?)(no:∀i l,i<n->ρ[i]?=some l->l=.no):View K H σ ρ:=by
 refine⟨fun i l e=>?_,vw.tb⟩
 by_cases hi:i<n
 ·rw[no i l hi e];exact trivial
 ·exact vw i l (by rw[low i (by omega)];exact e)
theorem ym{idx:List Nat}{nt:Nat}{ρ:PSt}{i:Nat}{l:Sl}(hi:i<nt)(e:(d7 nt idx ρ)[i]?=some l):l=.no:=by
 unfold d7 at e;rw[MI (by simpa using hi),MW,if_pos hi] at e;cases e;rfl
theorem yk{idx:List Nat}{nt:Nat}{ρ:PSt}{i:Nat}{p:PV}(e:(d7 nt idx ρ)[i]?=some (.own p)):False:=by
 unfold d7 at e
 by_cases hi:i<nt
 ·rw[MI (by simpa using hi),MW,if_pos hi] at e
  cases e
 ·rw[MX (by simpa using hi),LR] at e
  cases q:idx[i-(Mg nt Sl.no).length]? with
  | none=>rw[q] at e;cases e
  | some j=>
   rw[q] at e;have e:some (roS ρ[j]?)=some (Sl.own p):=e;unfold roS at e;split at e <;> cases e
theorem uV{idx:List Nat}{nt:Nat}{ρ:PSt}{i:Nat}{t:Tr}(e:(d7 nt idx ρ)[i]?=some (.tree t)):False:=by
 unfold d7 at e
 by_cases hi:i<nt
 ·rw[MI (by simpa using hi),MW,if_pos hi] at e
  cases e
 ·rw[MX (by simpa using hi),LR] at e
  cases q:idx[i-(Mg nt Sl.no).length]? with
  | none=>rw[q] at e;cases e
  | some j=>
   rw[q] at e;have e:some (roS ρ[j]?)=some (Sl.tree t):=e;unfold roS at e;split at e <;> cases e
theorem View.noOwn{K:LC}{H H':Hp}{σ:L2.St}{ρ:PSt}(vw:View K H σ ρ)(no:∀(i:Nat)(p:PV),ρ[i]?≠some (Sl.own p))(k:Kp H H')(tb:tQ H')(np:∀(i:Nat)(t:Tr),ρ[i]?≠some (Sl.tree t):=by exact fun _ _ e=>uV e):View K H' σ ρ:=by
 refine⟨fun i l e=>?_,tb⟩;have:=vw i l e;cases l with
 | no=>exact trivial
 | val p=>obtain⟨v,ev,r⟩:=this;exact⟨v,ev,r.kp k⟩
 | own p=>exact absurd e (no i p)
 | tree t=>exact absurd e (np i t)
def ItS(K:LC)(J:It)(H₁:Hp)(ps:List PV):Prop:=
 ∀(i:Nat)(H:Hp),Same H₁ H->(i=ps.length->J.stop i H)/\∀p,ps[i]?=some p->J.go i H/\∀x H',J.yld i H x H'->Same H H'/\Rep K H' p x
def Ks(K:LC)(Ac:Addr->Hp->List PV->List V->Prop)(H₂:Hp)(fe:PSt->R PV):TE:=fun σ H Q=>∃ρ D xs dn q,View K H σ ρ/\fe ρ=.ok q/\Ac D H dn xs/\H₂ D=none/\Same H₂ H/\H D=some (.lst xs)/\
 ∀v H',Same H H'->Ac D (upd H' D (.lst (xs++[v]))) (dn++[q]) (xs++[v])->Q v H'
theorem uT{pins:List (Addr×Obj)}{σ:L2.St}{H₂:Hp}{s₂:LG}{J:It}{fp:List Addr}{it:Addr}{tn:Nat->Heap->Prop}{ρ:PSt}{ps qs:List PV}{RR:LD->Addr->TF->LG->Prop}{E:LD->LG->Prop}{Ac:Addr->Hp->List PV->List V->Prop}
  (ac0:∀D H,Ac D H [] []) (acs:∀D H H' dn xs,Ac D H dn xs->Same H H'->Ac D H' dn xs) (acl:∀D H dn xs,Ac D H dn xs->dn.length=xs.length)
  (O:CompOk C.X.N C.X.env.scope scope N' nt idx) (hc:C.X.calm=true)
  (hg:∀cl L s H fp,TCt (cy C N' scope cl L s H fp) tg h) (hlow:AD nt h) (ht:∀cl L s H fp,ETs (cy C N' scope cl L s H fp) ifs t) (he:∀cl L s H fp,PE (cy C N' scope cl L s H fp).X elt (Ks C.X.K Ac H₂ fe))
  (I:Inv C.X pins σ H₂ s₂) (T:Turn C.X.prog C.X.w C.X.K tg J fp it tn) (st:tn 0 s₂.heap) (hf:∀b∈fp,qG C.X pins H₂ b) (vw:View C.X.K H₂ σ ρ) (ip:ItS C.X.K J H₂ ps)
  (hq:bz h t fe (d7 nt idx ρ) ps=.ok qs) (hz:qs.length<=sizeLine)
  (hRR:∀D L σ' H' s' xs,Inv (fJ C.X N' scope (fW C.X.env.cells scope.names []) L s₂ H₂ fp) [] σ' H' s'->Same H₂ H'->H₂ D=none->H' D=some (.lst xs)->Ac D H' qs xs->s₂.heap.objs.size<=L->RR (.ref D) L (.ok .next) s') :
  LO (Lz C.X.prog C.X.w) C.X.A (T5 []) (fun acc s₃=>LO (Lz C.X.prog C.X.w) C.X.A (S8 scope C.X.env.globals (fW C.X.env.cells scope.names []) [] C.X.env.qual none .none (some C.X.env)) (fun cenv s₄=>
   P9 (Lz C.X.prog C.X.w) C.X.A (.compStart (.ListComp elt [⟨tg,iter,ifs,0⟩] scope pos) 0 (.ref it) acc { cenv with scope:=T3 scope C.X.env }) (RR acc cenv.locals) s₄) E s₃) E s₂:=by
 refine MO (wpAny_newFunctionEnv O.cell (by intro y hy;simp at hy) (fun h₁ hns₁ hsb₁=>?_) O.kind);dsimp only at hns₁ hsb₁ ⊢;generalize hG:s₂.heap.push { cls:=.type "list",dict:=none,data:=.seq ([]:List LD).toArray }=G at hns₁ hsb₁ ⊢;have hC:G.objs.size=s₂.heap.objs.size+1:=by rw[← hG,MC]
 have hDL:s₂.heap.objs.size≠G.objs.size:=by rw[hC];exact Lo (Nk _)
 have keep:∀b o,s₂.heap.get? b=some o->h₁.get? b=some o:=fun b o e=>
  hsb₁.extBut b o (by rw[hC];exact Lo (N0 (LM e))) (LH _ (hG▸LH _ e))
 have acc:h₁.get? s₂.heap.objs.size=some { cls:=.type "list",data:=.seq ([]:List LD).toArray }:=hsb₁.extBut _ _ hDL (LH _ (hG▸LN _ rfl));have nD:H₂ s₂.heap.objs.size=none:=I.fresh;have hGe:s₂.heap.objs.size<=G.objs.size:=by rw[hC];exact OR _
 obtain⟨σ0,I0,vw0,hl0,fl⟩:=uS O hc I T st hf vw (L:=G.objs.size) (tk:=s₂.toks+([]:List (Str×LD)).length) rfl hGe hDL (by simpa using hns₁) keep acc
 have fpk:∀{H':Hp}{pins':List (Addr×Obj)},(∀b∈fp,H' b=none)->(∀p∈pins',p.1 ∉ fp)->∀b∈fp,qG (fJ C.X N' scope (fW C.X.env.cells scope.names []) G.objs.size s₂ H₂ fp) pins' H' b:=fun {H' pins'} hn hp b hb=>by
  obtain⟨g1,g2,g3,g4,g5,g6⟩:=hf b hb;refine⟨hn b hb,Lo (LK (fl b hb) hGe),fun z=>?_,.inl hb,fun x c e=>?_,fun p hp' z=>?_⟩
  ·exact(LJ.mp (I.stkSub b z)).elim g2 g3
  ·rcases dm e with z | z
   ·exact g5 x c z
   ·cases z
  ·subst z
   exact hp p ((show p∈([]:List (Addr×Obj))++pins' from hp')) hb
 have loop:P9 (Lz C.X.prog C.X.w) C.X.A (.compLoop (.ListComp elt [⟨tg,iter,ifs,0⟩] scope pos) 0 (.ref it) (.ref s₂.heap.objs.size) (compEnvC scope (fW C.X.env.cells scope.names []) G.objs.size C.X.env))
   (RR (.ref s₂.heap.objs.size) G.objs.size) { s₂ with heap:=h₁,toks:=s₂.toks+([]:List (Str×LD)).length }:=by
  refine qt (fun n s=>∃i σ' H' xs dn rest,n=ps.length-i/\i<=ps.length/\Inv (fJ C.X N' scope (fW C.X.env.cells scope.names []) G.objs.size s₂ H₂ fp) [] σ' H' s/\tn i s.heap/\(∀b∈fp,H' b=none)/\Same H₂ H'/\
   H' s₂.heap.objs.size=some (.lst xs)/\Ac s₂.heap.objs.size H' dn xs/\View C.X.K H' σ' (d7 nt idx ρ)/\(d7 nt idx ρ).length=σ'.length/\bz h t fe (d7 nt idx ρ) (ps.drop i)=.ok rest/\dn++rest=qs) ?_ ps.length
   ⟨0,σ0,_,[],[],qs,rfl,Mr _,I0,T.keep _ _ _ st fun b _ o e=>keep b o e,fun b hb=>?_,Same.new nD,ao,ac0 _ _,vw0,hl0,by simpa using hq,rfl⟩
  ·rintro n s ⟨i,σ',H',xs,dn,rest,rfl,hi,I',st',fr',sm',hD',rp',vw',hl',e',ea⟩
   obtain⟨stp,stepp⟩:=ip i H' sm'
   by_cases hlt:i<ps.length
   ·have ei:ps[i]?=some ps[i]:=by simp[hlt]
    obtain⟨go,yl⟩:=stepp _ ei;rw[oA ei] at e';obtain⟨ρ1,b,e1,e2,e3⟩:=uU e';obtain⟨l1,low1⟩:=hlow _ _ _ e1;refine thn (T.item (fJ C.X N' scope (fW C.X.env.cells scope.names []) G.objs.size s₂ H₂ fp) rfl rfl rfl rfl i [] s σ' H' _ I' (fpk fr' (by simp)) st' go) fun r s1 ⟨u,hr,h4⟩=>?_;subst hr;refine thn h4 fun _ s2 ⟨x,H3,I3,r3,y3,st3,fr3⟩=>?_;obtain⟨sm3,rp3⟩:=yl x H3 y3;have I3':=I3.pinned (fpk fr3 (by simp)) (T.obj _ _ st3);refine thn (hg _ _ _ _ _ _ s2 σ' H3 x u (fun σ4 H4=>H4=H3/\ρ1.length=σ4.length/\View C.X.K H4 σ4 ρ1) I3' r3 ⟨_,_,ρ1,hl',vw'.same sm3,rp3,e1,fun σ4 hl4 vw4=>⟨rfl,hl4,vw4⟩⟩) fun _ s4 ⟨σ4,H4,I4,q4⟩=>?_;obtain⟨rfl,hl4,vw4⟩:=q4
    have tests:LO (Lz C.X.prog C.X.w) C.X.A (forIn ifs true fun c r=>if r=true then do let ok<- isTrue c (compEnvC scope (fW C.X.env.cells scope.names []) G.objs.size C.X.env) (Mu c (compEnvC scope (fW C.X.env.cells scope.names []) G.objs.size C.X.env));pure (NU ok) else pure (NU r))
      (TP (fJ C.X N' scope (fW C.X.env.cells scope.names []) G.objs.size s₂ H₂ fp) ([]++mK fp s2.heap) σ4 (fun b' H5=>b'=b/\Same H4 H5)) (fun _ _=>False) s4:=by
     rcases ht (fW C.X.env.cells scope.names []) G.objs.size s₂ H₂ fp with⟨ez,et⟩|⟨c,ez,et⟩
     ·subst ez
      subst et;cases e2;exact wpAny_tests_nil ⟨H4,I4,rfl,Same.refl _⟩
     ·subst ez
      exact wpAny_tests_one (et _ s4 σ4 H4 _ I4 ⟨ρ1,vw4,by rw[e2];exact fun H' s'=>⟨rfl,s'⟩⟩)
    refine thn tests fun b' s5 ⟨H5,I5,eb,sm5⟩=>?_;subst eb
    have fin:∀{H7:Hp}{s7:LG},Inv (fJ C.X N' scope (fW C.X.env.cells scope.names []) G.objs.size s₂ H₂ fp) ([]++mK fp s2.heap) σ4 H7 s7->Inv (fJ C.X N' scope (fW C.X.env.cells scope.names []) G.objs.size s₂ H₂ fp) [] σ4 H7 s7/\tn (i+1) s7.heap/\∀b∈fp,H7 b=none:=fun {H7 s7} I7=>by
     refine⟨I7.unpinned,T.keep _ _ _ st3 fun b hb o e=>(I7.pin (b,o) (MP _ (MP _ (iq hb e)))).1,fun b hb=>?_⟩;obtain⟨o,e,_⟩:=T.obj _ _ st3 b hb;exact(I7.pin (b,o) (MP _ (MP _ (iq hb e)))).2.1
    have sm25:Same H₂ H5:=(sm'.trans sm3).trans sm5;have smd:Same H' H5:=sm3.trans sm5;have vw5:View C.X.K H5 σ4 (d7 nt idx ρ):=View.weak (vw4.same sm5) low1 fun i l hi e=>ym hi e;have hl5:(d7 nt idx ρ).length=σ4.length:=by rw[← l1];exact hl4
    rcases e3 with⟨rfl,q,r,e4,e5,rfl⟩|⟨rfl,e4⟩
    ·rw[if_pos rfl]
     refine thn (he _ _ _ _ _ _ s5 σ4 H5 (fun v H6=>Same H5 H6/\Ac s₂.heap.objs.size (upd H6 s₂.heap.objs.size (.lst (xs++[v]))) (dn++[q]) (xs++[v])) I5 ⟨ρ1,_,xs,dn,q,vw4.same sm5,e4,acs _ _ _ _ _ rp' smd,nD,sm25,smd _ _ hD',fun v H' s' r=>⟨s',r⟩⟩) fun u6 s6 ⟨v,H6,I6,r6,sm6,rp6⟩=>?_;have hD6:H6 s₂.heap.objs.size=some (.lst xs):=sm6 _ _ (smd _ _ hD')
     have hx:xs.length<sizeLine:=by
      have a1:=acl _ _ _ _ rp';have a2:qs.length=dn.length+(r.length+1):=by rw[← ea];simp
      omega
     refine thn (lB (X:=fJ C.X N' scope (fW C.X.env.cells scope.names []) G.objs.size s₂ H₂ fp) _ s6 σ4 H6 (.ref s₂.heap.objs.size) [v] (.ref s₂.heap.objs.size) [u6] (fun _ H7=>H7=upd H6 s₂.heap.objs.size (.lst (xs++[v]))) I6 rfl (.cons r6 .nil) ⟨_,xs,v,rfl,rfl,hD6,hx,rfl⟩) fun _ s7 ⟨_,H7,I7,_,e7⟩=>?_;subst e7;obtain⟨J7,st7,fr7⟩:=fin I7;have kp7:Kp H6 (upd H6 s₂.heap.objs.size (.lst (xs++[v]))):=Kp.upd hD6 rfl;refine⟨ps.length-(i+1),by omega,i+1,σ4,_,xs++[v],dn++[q],r,rfl,hlt,J7,st7,fr7,(sm25.trans sm6).but nD (fun u h=>by rw[hD6] at h;cases h;rfl) (fun b hb=>aw hb),ao,?_,?_,hl5,e5,by rw[← ea];simp⟩
     ·exact rp6
     ·exact(vw5.same sm6).noOwn (fun i p e=>yk e) kp7 ((vw5.same sm6).tb.but (fun u h=>by rw[hD6] at h;cases h;exact⟨rfl,rfl⟩) (fun b hb=>aw hb))
    ·rw[if_neg LX]
     obtain⟨J7,st7,fr7⟩:=fin I5;exact⟨ps.length-(i+1),by omega,i+1,σ4,H5,xs,dn,rest,rfl,hlt,J7,st7,fr7,sm25,smd _ _ hD',acs _ _ _ _ _ rp' smd,vw5,hl5,e4,ea⟩
   ·have e:i=ps.length:=by omega
    subst e;rw[PY] at e';cases e';rw[Mh] at ea;subst ea;refine thn (T.done (fJ C.X N' scope (fW C.X.env.cells scope.names []) G.objs.size s₂ H₂ fp) rfl rfl rfl rfl ps.length [] s σ' H' _ I' (fpk fr' (by simp)) st' (stp rfl)) fun r s1 ⟨hr,I1⟩=>?_;subst hr;exact hRR _ _ σ' H' s1 xs I1 sm' nD hD' rp' hGe
  ·show upd H₂ _ _ b=none
   rw[aw (Lo (fl b hb))];exact(hf b hb).1
 exact codeAny_compStart_list loop (T.self _ 0 _ _ _ (T.keep _ _ _ st fun b _ o e=>keep b o e) loop)
theorem nc{pins:List (Addr×Obj)}{σ:L2.St}{H₂:Hp}{s₂:LG}{J:It}{fp:List Addr}{it:Addr}{tn:Nat->Heap->Prop}{ρ:PSt}{ps qs:List PV}{RR:LD->Addr->TF->LG->Prop}{E:LD->LG->Prop}
  (O:CompOk C.X.N C.X.env.scope scope N' nt idx) (hc:C.X.calm=true)
  (hg:∀cl L s H fp,TCt (cy C N' scope cl L s H fp) tg h) (hlow:AD nt h) (ht:∀cl L s H fp,ETs (cy C N' scope cl L s H fp) ifs t) (he:∀cl L s H fp,EV (cy C N' scope cl L s H fp) elt fe)
  (I:Inv C.X pins σ H₂ s₂) (T:Turn C.X.prog C.X.w C.X.K tg J fp it tn) (st:tn 0 s₂.heap) (hf:∀b∈fp,qG C.X pins H₂ b) (vw:View C.X.K H₂ σ ρ) (ip:ItS C.X.K J H₂ ps)
  (hq:bz h t fe (d7 nt idx ρ) ps=.ok qs) (hz:qs.length<=sizeLine)
  (hRR:∀D L σ' H' s' xs,Inv (fJ C.X N' scope (fW C.X.env.cells scope.names []) L s₂ H₂ fp) [] σ' H' s'->Same H₂ H'->H₂ D=none->H' D=some (.lst xs)->aF C.X.K H' qs xs->s₂.heap.objs.size<=L->RR (.ref D) L (.ok .next) s') :
  LO (Lz C.X.prog C.X.w) C.X.A (T5 []) (fun acc s₃=>LO (Lz C.X.prog C.X.w) C.X.A (S8 scope C.X.env.globals (fW C.X.env.cells scope.names []) [] C.X.env.qual none .none (some C.X.env)) (fun cenv s₄=>
   P9 (Lz C.X.prog C.X.w) C.X.A (.compStart (.ListComp elt [⟨tg,iter,ifs,0⟩] scope pos) 0 (.ref it) acc { cenv with scope:=T3 scope C.X.env }) (RR acc cenv.locals) s₄) E s₃) E s₂:=
 uT (Ac:=fun _ H dn xs=>aF C.X.K H dn xs) (fun _ _=>aF.nil) (fun _ _ _ _ _ r s=>r.same s) (fun _ _ _ _ r=>r.length) O hc hg hlow ht (fun cl L s H fp pins s σ H Q I ⟨ρ,D,xs,dn,q,vw,e,ac,_,_,hD,k⟩=>he cl L _ _ _ pins s σ H Q I ⟨ρ,vw,by
  rw[e];exact fun v H' s' r=>k v H' s' (aF.append (aF.kp (Kp.upd (s' _ _ hD) rfl) _ (ac.same s')) (aF.cons (Rep.kp (Kp.upd (s' _ _ hD) rfl) _ r) aF.nil))⟩) I T st hf vw ip hq hz hRR
theorem qr{pins:List (Addr×Obj)}{σ:L2.St}{H₂:Hp}{s₂:LG}{J:It}{fp:List Addr}{it:Addr}{tn:Nat->Heap->Prop}{ρ:PSt}{ps qs:List PV}{RR:LD->Addr->TF->LG->Prop}{E:LD->LG->Prop}
  (O:CompOk C.X.N C.X.env.scope scope N' nt idx) (hc:C.X.calm=true)
  (hg:∀cl L s H fp,TCt (cy C N' scope cl L s H fp) tg h) (hlow:AD nt h) (ht:∀cl L s H fp,ETs (cy C N' scope cl L s H fp) ifs t) (he:∀cl L s H fp,EV (cy C N' scope cl L s H fp) elt fe)
  (I:Inv C.X pins σ H₂ s₂) (T:Turn C.X.prog C.X.w C.X.K tg J fp it tn) (st:tn 0 s₂.heap) (hf:∀b∈fp,qG C.X pins H₂ b) (vw:View C.X.K H₂ σ ρ) (ip:ItP C.X.K J H₂ ps)
  (hq:bz h t fe (d7 nt idx ρ) ps=.ok qs) (hz:qs.length<=sizeLine)
  (hRR:∀D L σ' H' s' xs,Inv (fJ C.X N' scope (fW C.X.env.cells scope.names []) L s₂ H₂ fp) [] σ' H' s'->Same H₂ H'->H₂ D=none->H' D=some (.lst xs)->aF C.X.K H' qs xs->s₂.heap.objs.size<=L->RR (.ref D) L (.ok .next) s') :
  LO (Lz C.X.prog C.X.w) C.X.A (T5 []) (fun acc s₃=>LO (Lz C.X.prog C.X.w) C.X.A (S8 scope C.X.env.globals (fW C.X.env.cells scope.names []) [] C.X.env.qual none .none (some C.X.env)) (fun cenv s₄=>
   P9 (Lz C.X.prog C.X.w) C.X.A (.compStart (.ListComp elt [⟨tg,iter,ifs,0⟩] scope pos) 0 (.ref it) acc { cenv with scope:=T3 scope C.X.env }) (RR acc cenv.locals) s₄) E s₃) E s₂:=
 nc O hc hg hlow ht he I T st hf vw (fun i H k=>ip i H (Same.kp k)) hq hz hRR
end
end PU
namespace PU
open PySem PySem.Spec PyProof.Rows L2
variable[TW]
section
variable{C : Cn}{elt tg iter : Expr}{ifs : List Expr}{scope : Scope}{pos : Nf}{N' : List Str}{nt : Nat}{idx : List Nat}{fi : PSt → R (List PV)}{h : Tgt}{t : PSt → R Bool}{fe : PSt → R PV}
theorem m3{pins:List (Addr×Obj)}{σ σ':L2.St}{H₂ H':Hp}{s₂ s':LG}{fp:List Addr}{cl:List (Str×Addr)}{L:Addr}(I:Inv C.X pins σ H₂ s₂)(hf:∀b∈fp,qG C.X pins H₂ b)
  (I':Inv (fJ C.X N' scope cl L s₂ H₂ fp) [] σ' H' s'):Inv C.X pins σ H' s':=
 I.call' (ch:=fp) I'.os I'.base I'.hok I'.bare fun b hb=>by
  obtain⟨g1,g2,g3,g4,g5,g6⟩:=hf b hb;exact⟨g4,g2,g5,g6⟩
theorem wU{α:Type}{H:Hp}{r:R α}{k:α->Prop}(q:RQ C H (yC r) k):∃a,r=.ok a/\k a:=by
 cases r with
 | ok a=>exact⟨a,rfl,q⟩
 | er x=>exact LP q
 | no=>exact LP q
theorem lZ{pins:List (Addr×Obj)}{σ:L2.St}{H:Hp}{s:LG}{L:Addr}{h':Heap}(I:Inv C.X pins σ H s)(hn:H L=none)(hL:L≠C.X.env.locals)(h1:C.X.s₀.heap.objs.size<=L)(h2:∀x c,C.X.env.cells.lookup x=some c->c≠L)
  (h3:∀p∈C.X.pn++pins,p.1≠L) (sb:NB L s.heap h'):Inv C.X pins σ H { s with heap:=h' }:=
 I.turned (t':=s.toks) (fun b o hb e=>(sb.2 b hb).trans e) hn hL (.inr h1) h2 h3
theorem dP(O:CompOk C.X.N C.X.env.scope scope N' nt idx)(hi:EI C tg iter fi)
  (hg:∀cl L s H fp,TCt (cy C N' scope cl L s H fp) tg h) (he:∀cl L s H fp,EV (cy C N' scope cl L s H fp) elt fe)
  (hs:∀x,O8 iter C.X.env x=pure x:=by intro _;rfl) (hc:C.X.calm=true:=by rfl) (hlow:AD nt h:=by repeat' (first | exact rg | exact o7 (by decide) | apply rf | apply o8)) (ht:∀cl L s H fp,ETs (cy C N' scope cl L s H fp) ifs t:=by exact fun _ _ _ _ _=>rE):EN C (.ListComp elt [⟨tg,iter,ifs,0⟩] scope pos) (dI fi h t fe nt idx):=by
 intro pins s σ H Q I ⟨ρ,vw,q⟩;rw[eval_ListComp];refine Po (use:=none) rfl hs (fu fun y hy hk=>I.ok.has y.1 (O.free y hy hk)) O.kind O.names ?_
 refine thn (hi pins s σ H (fun J H'=>∃ps qs,Same H H'/\ItP C.X.K J H' ps/\bz h t fe (d7 nt idx ρ) ps=.ok qs/\qs.length<=sizeLine/\∀a H'',Same H H''->H a=none->cP C.X.K H'' a (.lst qs)->Q (.ref a) H'') I
  ⟨ρ,vw,q.bind.imp fun ps _ k J H' s' ip=>?_⟩) fun v s1 h1=>thn h1 fun itv s2 h2=>?_
 ·obtain⟨qs,e1,k⟩:=wU k.bind
  obtain⟨z,k⟩:=jo k;exact⟨ps,qs,s',ip,e1,z,k⟩
 ·obtain⟨it,fp,tn,J,H2,e,I2,T,st2,f2,ps,qs,sm,ip,e1,hz,k⟩:=h2
  subst e;refine qr O hc hg hlow ht he I2 T st2 f2 (vw.same sm) ip e1 hz fun D L σ' H' s' xs I' sm' nD hD rp hL=>?_;obtain⟨m,hn,_⟩:=id I'.loc;have IB:=m3 I2 f2 I';refine⟨m,hn,fun h' sb=>⟨.ref D,H',lZ IB I'.free ?_ (MR I2.sz hL) ?_ ?_ sb,rfl,k D H' (sm.trans sm') (sm.free nD) ⟨xs,hD,rp⟩⟩⟩
  ·exact ML (LK I2.lt hL)
  ·intro x c ec z
   obtain⟨v,qc⟩:=I2.cell x c ec;have z:c=L:=z;exact Mk _ (LK (z▸qc.lt) hL)
  ·intro p hp z
   have z:p.1=L:=z;exact Mk _ (LK (z▸LM (I2.pin p hp).1) hL)
theorem RS.bind'{C:Cn}{B:Bs}{D:Ends}{H:Hp}{fi:PSt->R (List PV)}{h:Tgt}{t:PSt->R Bool}{fe:PSt->R PV}{nt:Nat}{idx:List Nat}{ρ:PSt}{g:PV->Sl}{i:Nat}
  (q:RS C B D (dI fi h t fe nt idx ρ >>= fun p=>.ok (.next (ρ.set i (g p))))) (s:Same B.1 H) :
  RQ C H (fi ρ) fun ps=>∃qs,bz h t fe (d7 nt idx ρ) ps=.ok qs/\qs.length<=sizeLine/\∀σ' H'',StOk C.X.K B H'' σ' (ρ.set i (g (.lst qs)))->D.nx σ' H'':=by
 unfold dI at q;rw[R.bind_assoc] at q;refine(q.bind s).imp fun ps _ k=>?_;rw[R.bind_assoc] at k;cases hc:bz h t fe (d7 nt idx ρ) ps with
 | ok qs=>
  rw[hc] at k;have k:RS C B D ((iB qs >>= fun qs=>R.ok (.lst qs)) >>= fun p=>.ok (.next (ρ.set i (g p)))):=k;unfold iB at k
  by_cases hz:qs.length<=16777216
  ·rw[if_pos hz] at k
   exact⟨qs,rfl,by rw[MJ];exact hz,k⟩
  ·rw[if_neg hz] at k
   exact LP k
 | er x=>rw[hc] at k;exact LP k
 | no=>rw[hc] at k;exact LP k
theorem vH(own:Bool)(i:Nat){x:Str}{px:Nf}{spos:Nf}(hN:C.X.N.Nodup)(O:CompOk C.X.N C.X.env.scope scope N' nt idx)(hi:EI C tg iter fi)
  (hg:∀cl L s H fp,TCt (cy C N' scope cl L s H fp) tg h) (he:∀cl L s H fp,EV (cy C N' scope cl L s H fp) elt fe)
  (hsw:OY (.ListComp elt [⟨tg,iter,ifs,0⟩] scope pos) (some (.Name x px)) spos.line C.X.env=pure true:=by rfl)
  (hs:∀x,O8 iter C.X.env x=pure x:=by intro _;rfl)
  (hf:C.X.fn x=true\/C.X.env.scope.names.lookup x=some .local:=by first | exact .inl rfl | exact .inr rfl | assumption) (hc:C.X.calm=true:=by rfl) (hlow:AD nt h:=by repeat' (first | exact rg | exact o7 (by decide) | apply rf | apply o8)) (ht:∀cl L s H fp,ETs (cy C N' scope cl L s H fp) ifs t:=by exact fun _ _ _ _ _=>rE) (hi':C.X.N[i]?=some x:=by rfl) (hx:Loc C.X.env.scope x:=by first | exact .inl rfl | exact .inr rfl) :
  SV C (.Assign [.Name x px] (.ListComp elt [⟨tg,iter,ifs,0⟩] scope pos) spos) ((if own=true then zD else dN) i (dI fi h t fe nt idx)):=by
 intro pins s σ H D I ⟨ρ,B,S,q⟩;rw[exec_Assign_Name_used _ _ _ _ hsw];refine LA (Qg (LA ?_));show LO _ C.X.A (do let _<- comprehension (.ListComp elt [⟨tg,iter,ifs,0⟩] scope pos) scope C.X.env _ (T5 []) false (Mu iter C.X.env) (some (QS (.Name x px) C.X.env))) _ _ s
 refine LA (Mx (Po (use:=some (QS (.Name x px) C.X.env)) (Q:=fun _ s'=>SP C.X pins D .next s') rfl hs (fu fun y hy hk=>I.ok.has y.1 (O.free y hy hk)) O.kind O.names ?_)
  (fun _ s' hq=>LF (LF hq)) fun _ _ e=>e)
 have q':RS C B D (dI fi h t fe nt idx ρ >>= fun p=>.ok (.next (ρ.set i (if own=true then .own p else .val p)))):=by
  cases own with
  | true=>exact q
  | false=>exact q
 refine thn (hi pins s σ H (fun J H'=>∃ps qs,Same H H'/\ItP C.X.K J H' ps/\bz h t fe (d7 nt idx ρ) ps=.ok qs/\qs.length<=sizeLine/\∀σ' H'',StOk C.X.K B H'' σ' (ρ.set i (if own=true then .own (.lst qs) else .val (.lst qs)))->D.nx σ' H'') I
  ⟨ρ,S.vw,(RS.bind' q' S.same).imp fun ps _ k J H' s' ip=>?_⟩) fun v s1 h1=>thn h1 fun itv s2 h2=>?_
 ·obtain⟨qs,e1,z,k⟩:=k
  exact⟨ps,qs,s',ip,e1,z,k⟩
 ·obtain⟨it,fp,tn,J,H2,e,I2,T,st2,f2,ps,qs,sm,ip,e1,hz,k⟩:=h2
  subst e;refine qr O hc hg hlow ht he I2 T st2 f2 (S.vw.same sm) ip e1 hz fun Da L σ' H' s' xs I' sm' nD hD rp hL=>?_;obtain⟨m,⟨o,es,ep,ho,hrest⟩,_⟩:=id I'.loc;have IB:=m3 I2 f2 I';have nL:L≠C.X.env.locals:=ML (LK I2.lt hL)
  have nC:∀x c,C.X.env.cells.lookup x=some c->c≠L:=fun x c ec z=>by
   obtain⟨v,qc⟩:=I2.cell x c ec;have z:c=L:=z;exact Mk _ (LK (z▸qc.lt) hL)
  have nP:∀p∈C.X.pn++pins,p.1≠L:=fun p hp z=>by
   have z:p.1=L:=z;exact Mk _ (LK (z▸LM (I2.pin p hp).1) hL)
  have IP:Inv C.X (pins++[(L,o)]) σ H' s':=IB.pins_of fun p hp=>by
   rcases MA.mp hp with z | z
   ·exact IB.pin p (MP _ z)
   ·have:p=(L,o):=by simpa using z
    subst this;exact⟨ho,I'.free,nL,I2.nofs hL,fun v z=>by rw[hrest.1] at z;cases z⟩
  have S2:=S.grow (sm.trans sm')
  have fin:∀{H3:Hp}{v:V},Inv C.X (pins++[(L,o)]) σ H3 s'->v=.ref Da->(∀σ3,σ3=σ.set i (some v)->D.nx σ3 H3)->
    LO (Lz C.X.prog C.X.w) C.X.A (QS (.Name x px) C.X.env (.ref Da)) (fun _ s''=>∃m,s''.heap.Ns L m/\∀h',NB L s''.heap h'->SP C.X pins D .next { s'' with heap:=h' }) C.X.xe s':=fun {H3 v} I3 ev k3=>by
   refine thn (qV hN hi' hx hf (pins++[(L,o)]) s' σ H3 v (.ref Da) (fun σ4 H4=>σ4=σ.set i (some v)/\H4=H3) I3 (by subst ev;rfl) ⟨rfl,rfl⟩) fun _ s4 ⟨σ4,H4,I4,e4,e5⟩=>?_;have hp:=I4.pin (L,o) (by simp);have IU:Inv C.X pins σ4 H4 s4:=I4.unpinned;refine⟨m,⟨o,es,ep,hp.1,hrest⟩,fun h' sb=>⟨σ4,H4,lZ IU hp.2.1 nL (MR I2.sz hL) nC nP sb,?_⟩⟩;subst e5;exact k3 σ4 e4
  cases own with
  | true=>
   exact fin IP rfl fun σ3 e3=>by
    subst e3;exact k _ _ (S.setN (sm.trans sm') (sm.free nD) ⟨xs,hD,rp⟩)
  | false=>
   obtain⟨H3,I3,rp3,oth⟩:=L2.Inv.frz (a:=Da) (p:=.lst qs) IP ⟨xs,hD,rp⟩;refine fin I3 rfl fun σ3 e3=>?_;subst e3;exact k _ _ ((S.grow ((sm.trans sm').but (sm.free nD) (fun u h=>by rw[hD] at h;cases h;rfl) oth)).setV rp3)
end
end PU
namespace PU
open PySem PySem.Spec PyProof.Rows L2 PySem.SeqAt
variable[TW]
section
variable{X : Cx}{pins : List (Addr×Obj)}{σ : L2.St}{H : Hp}{s : LG}
theorem jZ{a:Addr}{xs ys:List V}(I:Inv X pins σ H s)(h1:SqT X.K H a xs)(h2:SqO X.K H a ys):False:=by
 obtain⟨its,_,⟨o,e,c,_⟩,_⟩:=I.tuple h1;obtain⟨_,its2,n,_,e2⟩:=h2.is I;rw[e] at e2;cases e2;have c:N8 "list"=N8 "tuple":=c;exact absurd c (by decide)
theorem BK{a:Addr}{xs ys:List V}(I:Inv X pins σ H s)(h1:SqO X.K H a xs)(h2:SqO X.K H a ys):xs=ys:=I.list_inj h1.l h2.l
mutual
theorem je(I:Inv X pins σ H s):∀(p q:PV)(v:V)(b:Bool),aZ X.K H p v->aZ X.K H q v->bE p q=some b->b=true
 | .non,q,v,b,h1,h2,e=>by
  cases (show v=.non from h1);cases q with
  | non=>simpa [bE] using e.symm
  | bl j=>cases (show V.non=.bl j from h2)
  | int j=>cases (show V.non=.int j from h2)
  | str j=>cases (show V.non=.str j from h2)
  | tup qs=>obtain⟨a,xs,z,_⟩:=aZ.tup_inv h2;cases z
  | lst qs=>obtain⟨a,xs,z,_⟩:=aZ.lst_inv h2;cases z
  | _=>simp[bE] at e
 | .bl i,q,v,b,h1,h2,e=>by
  cases (show v=.bl i from h1);cases q with
  | bl j=>cases (show V.bl i=.bl j from h2);simpa [bE] using e.symm
  | non=>cases (show V.bl i=.non from h2)
  | int j=>cases (show V.bl i=.int j from h2)
  | str j=>cases (show V.bl i=.str j from h2)
  | tup qs=>obtain⟨a,xs,z,_⟩:=aZ.tup_inv h2;cases z
  | lst qs=>obtain⟨a,xs,z,_⟩:=aZ.lst_inv h2;cases z
  | _=>simp[bE] at e
 | .int i,q,v,b,h1,h2,e=>by
  cases (show v=.int i from h1);cases q with
  | int j=>cases (show V.int i=.int j from h2);simpa [bE] using e.symm
  | bl j=>cases (show V.int i=.bl j from h2)
  | non=>cases (show V.int i=.non from h2)
  | str j=>cases (show V.int i=.str j from h2)
  | tup qs=>obtain⟨a,xs,z,_⟩:=aZ.tup_inv h2;cases z
  | lst qs=>obtain⟨a,xs,z,_⟩:=aZ.lst_inv h2;cases z
  | _=>simp[bE] at e
 | .str i,q,v,b,h1,h2,e=>by
  cases (show v=.str i from h1);cases q with
  | str j=>cases (show V.str i=.str j from h2);simpa [bE] using e.symm
  | bl j=>cases (show V.str i=.bl j from h2)
  | non=>cases (show V.str i=.non from h2)
  | int j=>cases (show V.str i=.int j from h2)
  | tup qs=>obtain⟨a,xs,z,_⟩:=aZ.tup_inv h2;cases z
  | lst qs=>obtain⟨a,xs,z,_⟩:=aZ.lst_inv h2;cases z
  | _=>simp[bE] at e
 | .tup ps,q,v,b,h1,h2,e=>by
  obtain⟨a,xs,rfl,g1,r1⟩:=aZ.tup_inv h1;cases q with
  | tup qs=>
   obtain⟨a2,ys,z,g2,r2⟩:=aZ.tup_inv h2;cases z;cases I.tuple_inj g1 g2;exact l8 I ps qs xs b r1 r2 (by simpa [bE] using e)
  | lst qs=>
   obtain⟨a2,ys,z,g2,r2⟩:=aZ.lst_inv h2;cases z;exact(jZ I g1 g2).elim
  | non=>cases (show V.ref a=.non from h2)
  | bl j=>cases (show V.ref a=.bl j from h2)
  | int j=>cases (show V.ref a=.int j from h2)
  | str j=>cases (show V.ref a=.str j from h2)
  | _=>simp[bE] at e
 | .lst ps,q,v,b,h1,h2,e=>by
  obtain⟨a,xs,rfl,g1,r1⟩:=aZ.lst_inv h1;cases q with
  | lst qs=>
   obtain⟨a2,ys,z,g2,r2⟩:=aZ.lst_inv h2;cases z;cases BK I g1 g2;exact l8 I ps qs xs b r1 r2 (by simpa [bE] using e)
  | tup qs=>
   obtain⟨a2,ys,z,g2,r2⟩:=aZ.tup_inv h2;cases z;exact(jZ I g2 g1).elim
  | non=>cases (show V.ref a=.non from h2)
  | bl j=>cases (show V.ref a=.bl j from h2)
  | int j=>cases (show V.ref a=.int j from h2)
  | str j=>cases (show V.ref a=.str j from h2)
  | _=>simp[bE] at e
 | .dct _ _,_,_,_,_,_,e=>by simp[bE] at e
 | .dtt _ _,_,_,_,_,_,e=>by simp[bE] at e
 | .fn _ _,_,_,_,_,_,e=>by simp[bE] at e
theorem l8(I:Inv X pins σ H s):∀(ps qs:List PV)(xs:List V)(b:Bool),aF X.K H ps xs->aF X.K H qs xs->dC ps qs=some b->b=true
 | [],qs,xs,b,r1,r2,e=>by
  cases r1;cases qs with
  | nil=>simpa [dC] using e.symm
  | cons q qs=>obtain⟨x,r,z,_⟩:=r2;cases z
 | p::ps,qs,xs,b,r1,r2,e=>by
  obtain⟨x,r,rfl,h1,t1⟩:=r1;cases qs with
  | nil=>cases (show x::r=[] from r2)
  | cons q qs=>
   obtain⟨x2,r2',z,h2,t2⟩:=r2;cases z;simp only[dC] at e;obtain⟨b1,e1,e⟩:=LW.mp e;obtain⟨b2,e2,e⟩:=LW.mp e;cases e;rw[je I p q x b1 h1.o h2.o e1,l8 I ps qs r b2 t1 t2 e2];rfl
end
theorem mM{p q:PV}{ps qs:List PV}{j:Nat}:iW (p::ps) (q::qs) (j+1)=iW ps qs j:=by simp[iW]
theorem kA:∀(ps qs:List PV)(b:Bool),dC ps qs=some b->((M9 (Si ps.length qs.length)).all (iW ps qs) && ps.length == qs.length)=b
 | [],[],b,e=>by simp[dC] at e;simp[e]
 | [],_::_,b,e=>by simp[dC] at e;simp[e]
 | _::_,[],b,e=>by simp[dC] at e;simp[e]
 | p::ps,q::qs,b,e=>by
  simp only[dC] at e;obtain⟨b1,e1,e⟩:=LW.mp e;obtain⟨b2,e2,e⟩:=LW.mp e;cases e;have ih:=kA ps qs b2 e2;have hm:Si (p::ps).length (q::qs).length=Si ps.length qs.length+1:=by simp only[LS];omega
  rw[hm,Pl,OI,S5];have h0:iW (p::ps) (q::qs) 0=b1:=by simp[iW,e1]
  have hs:(iW (p::ps) (q::qs) ∘ Nat.succ)=iW ps qs:=by funext j;exact mM
  rw[h0,hs,← ih,LS,LS];simp[Bool.and_assoc]
theorem kC:∀{ps:List PV}{j:Nat}{p:PV},ps[j]?=some p->mi p<=bL ps
 | [],_,_,h=>by simp at h
 | p::ps,0,_,h=>by simp at h;subst h;simp only[bL];omega
 | p::ps,j+1,q,h=>by
  have:=kC (ps:=ps) (j:=j) (p:=q) (by simpa using h);simp only[bL];omega
mutual
theorem xW(I:Inv X pins σ H s):∀(p q:PV)(A:M3)(v u:V)(v' u':LD)(b:Bool),aZ X.K H p v->aZ X.K H q u->RelV v v'->RelV u u'->bE p q=some b->A.units+mi p<cLine->EqAt A s v' u' b
 | .non,q,A,v,u,v',u',b,h1,h2,e1,e2,e,hu=>by
  cases (show v=.non from h1);cases e1;have hu:=P8 (Ml _ _) hu;cases q with
  | non=>cases (show u=.non from h2);cases e2;simp[bE] at e;subst e;exact EqAt.same _
  | bl j=>cases (show u=.bl j from h2);cases e2;simp[bE] at e;subst e;exact EqAt.none_bool j
  | int j=>cases (show u=.int j from h2);obtain⟨t,rfl⟩:=e2;simp[bE] at e;subst e;exact EqAt.none_int j t
  | str j=>cases (show u=.str j from h2);obtain⟨t,rfl⟩:=e2;simp[bE] at e;subst e;exact EqAt.none_str j t
  | tup qs=>obtain⟨a,xs,rfl,g,_⟩:=aZ.tup_inv h2;cases e2;obtain⟨its,_,pl,_⟩:=I.tuple g;simp[bE] at e;subst e;exact EqAt.none_tuple pl hu
  | lst qs=>obtain⟨a,xs,rfl,g,_⟩:=aZ.lst_inv h2;cases e2;obtain⟨its,_,pl,_⟩:=I.list g.l;simp[bE] at e;subst e;exact EqAt.none_list pl.isList hu
  | _=>simp[bE] at e
 | .bl i,q,A,v,u,v',u',b,h1,h2,e1,e2,e,hu=>by
  cases (show v=.bl i from h1);cases e1;have hu:=P8 (Ml _ _) hu;cases q with
  | non=>cases (show u=.non from h2);cases e2;simp[bE] at e;subst e;exact EqAt.bool_none i
  | bl j=>cases (show u=.bl j from h2);cases e2;simp only[bE,OG] at e;subst e;exact EqAt.bool_bool i j
  | int j=>cases (show u=.int j from h2);obtain⟨t,rfl⟩:=e2;simp only[bE,OG] at e;subst e;exact EqAt.bool_int i j t
  | str j=>cases (show u=.str j from h2);obtain⟨t,rfl⟩:=e2;simp[bE] at e;subst e;exact EqAt.bool_str i j t
  | tup qs=>obtain⟨a,xs,rfl,g,_⟩:=aZ.tup_inv h2;cases e2;obtain⟨its,_,pl,_⟩:=I.tuple g;simp[bE] at e;subst e;exact EqAt.bool_tuple i pl hu
  | lst qs=>obtain⟨a,xs,rfl,g,_⟩:=aZ.lst_inv h2;cases e2;obtain⟨its,_,pl,_⟩:=I.list g.l;simp[bE] at e;subst e;exact EqAt.bool_list i pl.isList hu
  | _=>simp[bE] at e
 | .int i,q,A,v,u,v',u',b,h1,h2,e1,e2,e,hu=>by
  cases (show v=.int i from h1);obtain⟨t',rfl⟩:=e1;have hu:=P8 (Ml _ _) hu;cases q with
  | non=>cases (show u=.non from h2);cases e2;simp[bE] at e;subst e;exact EqAt.int_none i t'
  | bl j=>cases (show u=.bl j from h2);cases e2;simp only[bE,OG] at e;subst e;exact EqAt.int_bool i t' j
  | int j=>cases (show u=.int j from h2);obtain⟨t,rfl⟩:=e2;simp only[bE,OG] at e;subst e;exact EqAt.int_int i t' j t
  | str j=>cases (show u=.str j from h2);obtain⟨t,rfl⟩:=e2;simp[bE] at e;subst e;exact EqAt.int_str i t' j t
  | tup qs=>obtain⟨a,xs,rfl,g,_⟩:=aZ.tup_inv h2;cases e2;obtain⟨its,_,pl,_⟩:=I.tuple g;simp[bE] at e;subst e;exact EqAt.int_tuple i t' pl hu
  | lst qs=>obtain⟨a,xs,rfl,g,_⟩:=aZ.lst_inv h2;cases e2;obtain⟨its,_,pl,_⟩:=I.list g.l;simp[bE] at e;subst e;exact EqAt.int_list i t' pl.isList hu
  | _=>simp[bE] at e
 | .str i,q,A,v,u,v',u',b,h1,h2,e1,e2,e,hu=>by
  cases (show v=.str i from h1);obtain⟨t',rfl⟩:=e1;have hu:=P8 (Ml _ _) hu;cases q with
  | non=>cases (show u=.non from h2);cases e2;simp[bE] at e;subst e;exact EqAt.str_none i t'
  | bl j=>cases (show u=.bl j from h2);cases e2;simp[bE] at e;subst e;exact EqAt.str_bool i t' j
  | int j=>cases (show u=.int j from h2);obtain⟨t,rfl⟩:=e2;simp[bE] at e;subst e;exact EqAt.str_int i t' j t
  | str j=>cases (show u=.str j from h2);obtain⟨t,rfl⟩:=e2;simp only[bE,OG] at e;subst e;exact EqAt.str_str i t' j t
  | tup qs=>obtain⟨a,xs,rfl,g,_⟩:=aZ.tup_inv h2;cases e2;obtain⟨its,_,pl,_⟩:=I.tuple g;simp[bE] at e;subst e;exact EqAt.str_tuple i t' pl hu
  | lst qs=>obtain⟨a,xs,rfl,g,_⟩:=aZ.lst_inv h2;cases e2;obtain⟨its,_,pl,_⟩:=I.list g.l;simp[bE] at e;subst e;exact EqAt.str_list i t' pl.isList hu
  | _=>simp[bE] at e
 | .tup ps,q,A,v,u,v',u',b,h1,h2,e1,e2,e,hu=>by
  obtain⟨a,xs,rfl,g1,r1⟩:=aZ.tup_inv h1;cases e1;obtain⟨its,rv,pl,_⟩:=I.tuple g1;simp only[mi] at hu;have hu0:A.units<cLine:=by omega
  cases q with
  | non=>cases (show u=.non from h2);cases e2;simp[bE] at e;subst e;exact EqAt.tuple_none pl hu0
  | bl j=>cases (show u=.bl j from h2);cases e2;simp[bE] at e;subst e;exact EqAt.tuple_bool j pl hu0
  | int j=>cases (show u=.int j from h2);obtain⟨t,rfl⟩:=e2;simp[bE] at e;subst e;exact EqAt.tuple_int j t pl hu0
  | str j=>cases (show u=.str j from h2);obtain⟨t,rfl⟩:=e2;simp[bE] at e;subst e;exact EqAt.tuple_str j t pl hu0
  | lst qs=>obtain⟨a2,ys,rfl,g,_⟩:=aZ.lst_inv h2;cases e2;obtain⟨its2,_,pl2,_⟩:=I.list g.l;simp[bE] at e;subst e;exact EqAt.tuple_list pl pl2.isList hu0
  | tup qs=>
   by_cases hv:V.ref a=u
   ·subst hv
    rw[je I _ _ _ b h1 h2 e];cases e2;exact EqAt.same _
   ·obtain⟨a2,ys,rfl,g2,r2⟩:=aZ.tup_inv h2
    cases e2;obtain⟨its2,rv2,pl2,_⟩:=I.tuple g2;have l1:=r1.length;have l2:=r2.length;have l3:=rv.length;have l4:=rv2.length;have e':dC ps qs=some b:=by simpa [bE] using e
    rw[← kA ps qs b e',show ps.length=its.toArray.size by simp;omega,show qs.length=its2.toArray.size by simp;omega];refine EqAt.of_refs (fun z=>hv (by rw[z])) (RcAt.tuples pl pl2 hu0 fun j j1 j2=>?_);have:=lU I ps qs A.in1 xs ys its its2 b r1 r2 rv rv2 e' (by show A.units+1+_<_;omega) j (by simpa using j1) (by simpa using j2);simpa using this
  | _=>simp[bE] at e
 | .lst ps,q,A,v,u,v',u',b,h1,h2,e1,e2,e,hu=>by
  obtain⟨a,xs,rfl,g1,r1⟩:=aZ.lst_inv h1;cases e1;obtain⟨its,rv,pl,_⟩:=I.list g1.l;simp only[mi] at hu;have hu0:A.units<cLine:=by omega
  cases q with
  | non=>cases (show u=.non from h2);cases e2;simp[bE] at e;subst e;exact EqAt.list_none pl.isList hu0
  | bl j=>cases (show u=.bl j from h2);cases e2;simp[bE] at e;subst e;exact EqAt.list_bool j pl.isList hu0
  | int j=>cases (show u=.int j from h2);obtain⟨t,rfl⟩:=e2;simp[bE] at e;subst e;exact EqAt.list_int j t pl.isList hu0
  | str j=>cases (show u=.str j from h2);obtain⟨t,rfl⟩:=e2;simp[bE] at e;subst e;exact EqAt.list_str j t pl.isList hu0
  | tup qs=>obtain⟨a2,ys,rfl,g,_⟩:=aZ.tup_inv h2;cases e2;obtain⟨its2,_,pl2,_⟩:=I.tuple g;simp[bE] at e;subst e;exact EqAt.list_tuple pl.isList pl2 hu0
  | lst qs=>
   by_cases hv:V.ref a=u
   ·subst hv
    rw[je I _ _ _ b h1 h2 e];cases e2;exact EqAt.same _
   ·obtain⟨a2,ys,rfl,g2,r2⟩:=aZ.lst_inv h2
    cases e2;obtain⟨its2,rv2,pl2,_⟩:=I.list g2.l;have l1:=r1.length;have l2:=r2.length;have l3:=rv.length;have l4:=rv2.length;have e':dC ps qs=some b:=by simpa [bE] using e
    have hp:=kA ps qs b e';refine EqAt.of_refs (fun z=>hv (by rw[z])) ?_
    by_cases hl:ps.length=qs.length
    ·have hb:(M9 its.toArray.size).all (iW ps qs)=b:=by
      rw[← hp,hl,Nat.min_self,beq_self_eq_true,Rj,show its.toArray.size=qs.length by simp;omega]
     rw[← hb];refine RcAt.lists pl.isList pl2.isList (by simp;omega) hu0 fun j j1 j2=>?_;have:=lU I ps qs A.in1 xs ys its its2 b r1 r2 rv rv2 e' (by show A.units+1+_<_;omega) j (by simpa using j1) (by simpa using j2);simpa using this
    ·have hb:b=false:=by
      rw[← hp,beq_eq_false_iff_ne.mpr hl,O5]
     rw[hb];exact RcAt.lists_lengths pl.isList pl2.isList (by simp;omega) hu0
  | _=>simp[bE] at e
 | .dct _ _,_,_,_,_,_,_,_,_,_,_,_,e,_=>by simp[bE] at e
 | .dtt _ _,_,_,_,_,_,_,_,_,_,_,_,e,_=>by simp[bE] at e
 | .fn _ _,_,_,_,_,_,_,_,_,_,_,_,e,_=>by simp[bE] at e
theorem lU(I:Inv X pins σ H s):∀(ps qs:List PV)(A:M3)(xs ys:List V)(vs ws:List LD)(b:Bool),aF X.K H ps xs->aF X.K H qs ys->Vals xs vs->Vals ys ws->dC ps qs=some b->A.units+bL ps<cLine->
  ∀j (h1:j<vs.length) (h2:j<ws.length),EqAt A s vs[j] ws[j] (iW ps qs j)
 | [],qs,A,xs,ys,vs,ws,b,r1,r2,rv,rw',e,hu,j,h1,h2=>by
  cases r1;cases rv;exact absurd h1 (Nr _)
 | p::ps,[],A,xs,ys,vs,ws,b,r1,r2,rv,rw',e,hu,j,h1,h2=>by
  cases r2;cases rw';exact absurd h2 (Nr _)
 | p::ps,q::qs,A,xs,ys,vs,ws,b,r1,r2,rv,rw',e,hu,j,h1,h2=>by
  obtain⟨x,r,rfl,p1,t1⟩:=r1;obtain⟨y,r',rfl,p2,t2⟩:=r2;cases rv with
  | cons a1 c1=>
   cases rw' with
   | cons a2 c2=>
    simp only[dC] at e;obtain⟨b1,e1,e⟩:=LW.mp e;obtain⟨b2,e2,e⟩:=LW.mp e;simp only[bL] at hu;cases j with
    | zero=>
     have:iW (p::ps) (q::qs) 0=b1:=by simp[iW,e1]
     rw[this];exact xW I p q A x y _ _ b1 p1.o p2.o a1 a2 e1 (by omega)
    | succ j=>
     rw[mM];exact lU I ps qs A r r' _ _ b2 t1 t2 c1 c2 e2 (by omega) j (SG h1) (SG h2)
end
end
end PU
namespace PU
open PySem PySem.Spec PyProof.Rows L2 PySem.SeqAt PySem.Calls PyProof.V
variable[TW]
def EqW(P:LY)(w:Ly)(A:M3)(s:LG)(y x:LD)(b:Bool):Prop:=∀(E:LD->LG->Prop)(Q:Bool->LG->Prop),Q b s->LO (Lz P w) A (eqBool y x) Q E s
theorem EqW.of{P:LY}{w:Ly}{A:M3}{s:LG}{y x:LD}{b:Bool}(h:EqAt A s y x b):EqW P w A s y x b:=fun E Q q=>h P w E Q q
section
variable{P : LY}{w : Ly}{κ : Type}[DecidableEq κ]{kd : KeyKind P w κ}{A : M3}{E : LD → LG → Prop}{s : LG}
inductive HitW (P:LY) (w:Ly) (A:M3) (s:LG) (other:List (κ×LD)):List (κ×LD)->Bool->Prop
 | done:HitW P w A s other [] true
 | lacks {k:κ} {v:LD} {t:List (κ×LD)}:NJ other k=none->HitW P w A s other ((k,v)::t) false
 | meets {k:κ} {v y:LD} {t:List (κ×LD)} {e b:Bool}:NJ other k=some y->EqW P w A s v y e->HitW P w A s other t b->HitW P w A s other ((k,v)::t) (e && b)
theorem HitW.split{other:List (κ×LD)}{k:κ}{v:LD}{t:List (κ×LD)}{b:Bool}(h:HitW P w A s other ((k,v)::t) b) :
  (NJ other k=none/\b=false)\/∃y e c,NJ other k=some y/\EqW P w A s v y e/\HitW P w A s other t c/\b=(e && c):=by
 cases h with
 | lacks n=>exact .inl ⟨n,rfl⟩
 | meets y1 y2 y3=>exact .inr ⟨_,_,_,y1,y2,y3,rfl⟩
theorem mH{nm:String}{d1 d2:Addr}{l1 l2:List (κ×LD)}{r:Bool}{Q:Bool->LG->Prop}(n1:(d1 == Mb)=false)(n2:(d2 == Mb)=false)(D1:s.heap.DictOf kd d1 l1)(D2:s.heap.DictOf kd d2 l2)
  (hh:l1.length=l2.length->HitW P w A s l2 l1 r) (q:Q (l1.length == l2.length && r) s):LO (Lz P w) A (Qj nm d1 d2) Q E s:=by
 obtain⟨o1,es1,c1,get1,_,dat1,ks1,prs1,_⟩:=D1;obtain⟨o2,es2,c2,get2,_,dat2,ks2,prs2,_⟩:=D2;have len1:l1.length=es1.size:=by rw[← prs1.length];exact M5
 have len2:l2.length=es2.size:=by rw[← prs2.length];exact M5
 have seek:∀k,findBy kd.is es2 k=NJ l2 k:=fun k=>by
  rw[← prs2.find k];clear len2 prs2 ks2 dat2 get2;cases es2;simp[findBy]
 rw[len1,len2] at q;unfold Qj Builtin.Dict.showsAll;rw[if_neg (by rw[n1];exact LX),if_neg (by rw[n2];exact LX)];refine LA (LF (LA (LF (LA (Pi get1 dat1 ?_)))));dsimp only;refine LA (Pi get2 dat2 ?_)
 by_cases sz:es1.size=es2.size
 case neg=>
  rw[if_pos (by simpa using sz)];have no:(es1.size == es2.size)=false:=by simpa using sz
  rw[no,O4] at q;exact LA (OV (LF q))
 case pos=>
  have q':Q r s:=by simpa [sz] using q
  have hh':=hh (by rw[len1,len2];exact sz);rw[if_neg (by rw[sz];simp)];refine LA (wpAny_dictEpoch get1 dat1 (LA ?_));rw[Std.Legacy.Range.forIn_eq_forIn_range'];simp only[Std.Legacy.Range.size,Nat.sub_zero,Nat.add_sub_cancel,Nat.div_one];refine RD _ (fun todo z s'=>s'=s/\z=(none,())/\∃j,todo=SW j (es1.size-j)/\j<=es1.size/\HitW P w A s l2 (l1.drop j) r) _ ?_ ?_ _ _ ⟨rfl,rfl,0,by simp,Mr _,hh'⟩
  ·rintro x todo z s' ⟨rfl,rfl,j,et,hj,rest⟩
   have lt:j<es1.size:=by
    rcases Nat.lt_or_ge j es1.size with g | g
    ·exact g
    ·rw[Nat.sub_eq_zero_of_le g] at et;simp at et
   have e1:es1.size-j=(es1.size-(j+1))+1:=by omega
   rw[e1,Oc] at et;injection et with ex et;subst ex;refine LA (Pi get1 dat1 ?_);rw[Ms lt];have lt':x<l1.length:=by rw[len1];exact lt
   obtain⟨k,v,ekv⟩:∃k v,l1[x]=(k,v):=⟨_,_,rfl⟩;have cut:l1.drop x=(k,v)::l1.drop (x+1):=by rw[← ekv];exact RN lt'
   obtain⟨isk,isv⟩:=prs1.get? (i:=x) (e:=es1[x]) (k:=k) (v:=v) (by rw[Oa];exact Ms lt) (by rw[LU lt',ekv]);obtain⟨k',isk',hs⟩:=ks1 es1[x] (Array.getElem_mem lt);have ek:k'=k:=kd.inj _ _ _ isk' isk;rw[ek] at hs;rw[cut] at rest;show LO _ _ (T6 [es1[x].key,es1[x].val] _ >>= _) _ _ _;rw[hs];refine LA (N3 (LA (wpAny_dictFind_of isk get2 dat2 ks2 ?_)));cases at2:es2.findIdx? fun e=>kd.is k e.key with
   | none=>
    have nn:NJ l2 k=none:=by rw[← seek k,findBy_of_findIdx?,at2]
    rcases rest.split with⟨_,er⟩|⟨y,_,_,hy,_⟩
    ·rw[er] at q'
     refine LF ?_;show LO _ _ (if (!false)=true then _ else _) _ _ _;rw[if_pos (by decide)];exact LF (LF q')
    ·rw[nn] at hy;cases hy
   | some m=>
    obtain⟨mlt,_,_⟩:=Array.findIdx?_eq_some_iff_getElem.mp at2
    have vv:NJ l2 k=some es2[m].val:=by
     rw[← seek k,findBy_of_findIdx?,at2];simp[Ms mlt]
    refine LA (Pi get2 dat2 ?_);rw[Ms mlt];rcases rest.split with⟨nn,_⟩|⟨y,e,c,hy,he,ht,er⟩
    ·rw[vv] at nn;cases nn
    ·have ey:es2[m].val=y:=MK (vv.symm.trans hy)
     rw[← ey,← isv] at he;refine N3 (he _ _ ?_);cases e with
     | false=>
      rw[er,O4] at q';show LO _ _ (if (!false)=true then _ else _) _ _ _;rw[if_pos (by decide)];exact LF (LF q')
     | true=>
      rw[Nt] at er;rw[← er] at ht;show LO _ _ (if (!true)=true then _ else _) _ _ _;rw[if_neg (by decide)];refine LA (wpAny_dictEpoch get1 dat1 ?_);rw[if_neg (by simp)];exact LF ⟨rfl,rfl,x+1,et,lt,ht⟩
  ·rintro z s' ⟨rfl,rfl,j,et,hj,rest⟩
   have ej:j=es1.size:=by
    rcases Nat.lt_or_ge j es1.size with g | g
    ·have e1:es1.size-j=(es1.size-(j+1))+1:=by omega
     rw[e1,Oc] at et;cases et
    ·exact Nat.le_antisymm hj g
   refine LF ?_;rw[ej,← len1,PY] at rest;cases rest;exact q'
theorem kL{d1 d2:Addr}{l1 l2:List (κ×LD)}{r:Bool}{Q:LD->LG->Prop}(n1:(d1 == Mb)=false)(n2:(d2 == Mb)=false)(D1:s.heap.DictOf kd d1 l1)(D2:s.heap.DictOf kd d2 l2)(hu:A.units<cLine)
  (hh:l1.length=l2.length->HitW P w A.in1 s l2 l1 r) (q:Q (.bool (l1.length == l2.length && r)) s):LO (Lz P w) A (richCompare .Eq (.ref d1) (.ref d2)) Q E s:=by
 refine Rt (op:=.Eq) D1.typeIs D2.typeIs Rr (MF Rr D1.typeIs PySem.F.entry_dict_eq ?_ (PySem.F.args_dict_eq_2 _ _)) hu;show LO _ _ (Nq "__eq__" ⟨[.ref d1,.ref d2],[]⟩ >>= _) _ _ s;unfold Nq;refine LA (LA (wpAny_notOrdered_dict D1.typeIs ?_));show LO _ _ (pure (Mn d1,Mn d2)) _ _ s;refine LF (LA (Na (T:="dict") D2.typeIs RZ ?_));simp only[QJ,Mp,if_false];refine LA (LF (LA (LF (LA (mH n1 n2 D1 D2 hh (LF ⟨_,rfl,(fun z=>nomatch z),?_⟩))))));simpa using q
end
section
variable{X : Cx}{pins : List (Addr×Obj)}{σ : L2.St}{H : Hp}{s : LG}
theorem my{kvs:List (Key×V)}{vs:List (Key×LD)}(r:KV kvs vs)(k:Key):(nu kvs k=none/\NJ vs k=none)\/∃v u,nu kvs k=some v/\NJ vs k=some u/\RelV v u:=by
 induction r with
 | nil=>exact .inl ⟨rfl,rfl⟩
 | @cons p q ps qs h t ih=>
  obtain⟨h1,h2⟩:=h
  by_cases e:p.1=k
  ·refine .inr ⟨p.2,q.2,gk e,?_,h2⟩
   simp[NJ,Nb,← h1,e]
  ·rw[cR e]
   have e2:NJ (q::qs) k=NJ qs k:=by simp[NJ,Nb,← h1,e]
   rw[e2];exact ih
theorem mQ{k:Key}:∀{ks:List Key}{ps:List PV}{kvs:List (Key×V)},kvs.map (·.1)=ks->ps.length=kvs.length->eU ks ps k=none->nu kvs k=none
 | [],_,kvs,e,_,_=>by
  have:kvs=[]:=by simpa using e
  subst this;rfl
 | j::ks,[],kvs,e,hl,_=>by
  have:kvs.length=0:=by simpa using hl.symm
  have:kvs=[]:=Mc this;subst this;cases e
 | j::ks,p::ps,kv::kvs,e,hl,h=>by
  have e1:kv.1=j:=by simpa using congrArg QM e
  have e2:kvs.map (·.1)=ks:=by simpa using congrArg Qk e
  have h:(if j=k then some p else eU ks ps k)=none:=h;split at h
  ·cases h
  ·rename_i hn
   rw[cR (by rw[e1];exact hn)];exact mQ e2 (by simpa using hl) h
 | j::ks,p::ps,[],e,_,_=>by cases e
theorem jj{K:LC}{H:Hp}{k:Key}:∀{ks:List Key}{ps:List PV}{kvs:List (Key×V)}{p:PV},kvs.map (·.1)=ks->aF K H ps (kvs.map (·.2))->eU ks ps k=some p->∃v,nu kvs k=some v/\Rep K H p v
 | _,_,[],_,h1,h2,e=>by
  subst h1;simp only[Ot,eU] at e;cases e
 | _,[],kv::kvs,_,h1,h2,e=>by
  cases h2
 | _,q::ps,kv::kvs,p,h1,h2,e=>by
  subst h1;obtain⟨x,r,ex,hx,ht⟩:=h2;simp only[LQ,QV] at ex;obtain⟨rfl,rfl⟩:=ex;simp only[LQ,eU] at e
  by_cases hk:kv.1=k
  ·rw[if_pos hk] at e
   cases e;exact⟨kv.2,gk hk,hx⟩
  ·rw[if_neg hk] at e
   rw[cR hk];exact jj rfl ht e
theorem kG(A:M3)(eqf:PV->PV->Option Bool)(I:Inv X pins σ H s){ls:List Key}{qs:List PV}{kvs2:List (Key×V)}{vs2:List (Key×LD)}(e2:kvs2.map (·.1)=ls)(r2:aF X.K H qs (kvs2.map (·.2)))(kv2:KV kvs2 vs2) :
  ∀(ks:List Key)(ps:List PV)(kvs1:List (Key×V))(vs1:List (Key×LD))(b:Bool),kvs1.map (·.1)=ks->aF X.K H ps (kvs1.map (·.2))->KV kvs1 vs1->iZ eqf ks ps ls qs=some b->
   (∀p∈ps,∀(q:PV)(v u:V)(v' u':LD)(c:Bool),aZ X.K H p v->aZ X.K H q u->RelV v v'->RelV u u'->eqf p q=some c->EqW X.prog X.w A s v' u' c)->HitW X.prog X.w A s vs2 vs1 b
 | [],[],kvs1,vs1,b,e1,r1,kv1,h,_=>by
  have:kvs1=[]:=by simpa using e1
  subst this;cases kv1;have h:some true=some b:=h;cases h;exact .done
 | k::ks,p::ps,kvs1,vs1,b,e1,r1,kv1,h,he=>by
  cases kvs1 with
  | nil=>cases e1
  | cons kv kvs=>
   have ek:kv.1=k:=by simpa using congrArg QM e1
   have et:kvs.map (·.1)=ks:=by simpa using congrArg Qk e1
   obtain⟨x,r,ex,rp,rt⟩:=r1;have exx:kv.2=x:=by simpa using congrArg QM ex
   have err:kvs.map (·.2)=r:=by simpa using congrArg Qk ex
   cases kv1 with
   | @cons _ q _ qs' hd tl=>
    obtain⟨k',u1⟩:=q;obtain⟨h1,h2⟩:=hd;have h1:kv.1=k':=h1;have h2:RelV kv.2 u1:=h2;subst err;rw[← h1,ek];unfold iZ at h;cases hl:eU ls qs k with
    | none=>
     rw[hl] at h;have h:some false=some b:=h;cases h;have:=mQ e2 (by rw[r2.length,LI]) hl;rcases my kv2 k with⟨_,z⟩|⟨v,u,z,_⟩
     ·exact .lacks z
     ·rw[this] at z;cases z
    | some q2=>
     rw[hl] at h;have h:((eqf p q2).bind fun a=>(iZ eqf ks ps ls qs).bind fun b=>some (a && b))=some b:=h;obtain⟨c1,g1,h⟩:=LW.mp h;obtain⟨c2,g2,h⟩:=LW.mp h;cases h;obtain⟨v2,ev2,rp2⟩:=jj e2 r2 hl;rcases my kv2 k with⟨z,_⟩|⟨v,u,z,z2,z3⟩
     ·rw[ev2] at z;cases z
     ·rw[ev2] at z
      cases z;exact .meets z2 (he p Lp q2 kv.2 v2 u1 u c1 (exx▸rp.o) rp2.o h2 z3 g1) (kG A eqf I e2 r2 kv2 ks ps kvs qs' c2 et rt tl g2 fun p' hp'=>he p' (Lq _ hp'))
 | [],_::_,_,_,_,_,_,_,h,_=>by cases h
 | _::_,[],_,_,_,_,_,_,h,_=>by cases h
theorem xa{k:Key}{r:PV}:∀(ks:List Key)(ps:List PV),ks.length=ps.length->k ∉ ks->∀(ls:List Key)(qs:List PV),eU (ks++k::ls) (ps++r::qs) k=some r
 | [],[],_,_,ls,qs=>by
  show (if k=k then some r else _)=_;rw[if_pos rfl]
 | j::ks,p::ps,hl,hn,ls,qs=>by
  show (if j=k then some p else eU (ks++k::ls) (ps++r::qs) k)=_;rw[if_neg (fun e=>hn (by rw[e];exact Lp))];exact xa ks ps (by simpa using hl) (fun h=>hn (Lq _ h)) ls qs
 | [],_::_,h,_,_,_=>by simp at h
 | _::_,[],h,_,_,_=>by simp at h
theorem pI{P:LY}{w:Ly}{κ:Type}[DecidableEq κ]{kd:KeyKind P w κ}:∀{es:List DictEntry}{l1 l2:List (κ×LD)},Pairs kd es l1->Pairs kd es l2->l1=l2
 | _,_,_,.nil,.nil=>rfl
 | _,_,_,.cons a b c,.cons a' b' c'=>by
  rw[pI c c'];have h1:=kd.inj _ _ _ a a';have h2:=b.symm.trans b';rw[Prod.ext h1 h2]
theorem uQ{P:LY}{w:Ly}{κ:Type}[DecidableEq κ]{kd:KeyKind P w κ}{h:Heap}{a:Addr}{l1 l2:List (κ×LD)}(d1:h.DictOf kd a l1)(d2:h.DictOf kd a l2):l1=l2:=by
 obtain⟨o1,es1,c1,get1,_,dat1,_,prs1,_⟩:=d1;obtain⟨o2,es2,c2,get2,_,dat2,_,prs2,_⟩:=d2;rw[get1] at get2;cases get2;rw[dat1] at dat2;cases dat2;exact pI prs1 prs2
theorem Bb:∀{l1 l2:List (Key×V)}{vs:List (Key×LD)},KV l1 vs->KV l2 vs->l1=l2
 | _,_,_,.nil,.nil=>rfl
 | _,_,_,.cons a c,.cons a' c'=>by
  rw[Bb c c'];rw[Prod.ext (a.1.trans a'.1.symm) (RelV.inj a.2 a'.2)]
theorem xk:∀{l:List (Key×V)}{vs:List (Key×LD)},KV l vs->l.map (·.1)=vs.map (·.1)
 | _,_,.nil=>rfl
 | _,_,.cons a c=>by rw[LQ,LQ,xk c,a.1]
theorem qf(eqf:PV->PV->Option Bool)(he:∀(p q:PV)(v:V)(c:Bool),Rep X.K H p v->Rep X.K H q v->eqf p q=some c->c=true):∀(kvs kvs0:List (Key×V))(qs0 qs ps:List PV)(b:Bool),
  ((kvs0++kvs).map (·.1)).Nodup->aF X.K H qs0 (kvs0.map (·.2))->aF X.K H qs (kvs.map (·.2))->aF X.K H ps (kvs.map (·.2))->iZ eqf (kvs.map (·.1)) ps ((kvs0++kvs).map (·.1)) (qs0++qs)=some b->b=true
 | [],kvs0,qs0,qs,ps,b,nd,r0,rq,rp,h=>by
  have:ps=[]:=Mc (by rw[rp.length];rfl);subst this;have h:some true=some b:=h;cases h;rfl
 | kv::kvs,kvs0,qs0,[],ps,b,nd,r0,rq,rp,h=>by
  have:=rq.length;simp at this
 | kv::kvs,kvs0,qs0,q::qs,[],b,nd,r0,rq,rp,h=>by
  have:=rp.length;simp at this
 | kv::kvs,kvs0,qs0,q::qs,p::ps,b,nd,r0,rq,rp,h=>by
  obtain⟨x,r,ex,rp1,rpt⟩:=rp;obtain⟨y,r',ey,rq1,rqt⟩:=rq;have exx:kv.2=x:=by simpa using congrArg QM ex
  have err:kvs.map (·.2)=r:=by simpa using congrArg Qk ex
  have eyy:kv.2=y:=by simpa using congrArg QM ey
  have err':kvs.map (·.2)=r':=by simpa using congrArg Qk ey
  subst exx eyy err;rw[← err'] at rqt
  have nk:kv.1 ∉ kvs0.map (·.1):=fun z=>by
   rw[MD,NK] at nd;exact nd.2.2 _ z _ (by simp) rfl
  have lk:eU ((kvs0++kv::kvs).map (·.1)) (qs0++q::qs) kv.1=some q:=by
   rw[MD,LQ];exact xa _ _ (by rw[LI,r0.length,LI]) nk _ _
  rw[LQ] at h;unfold iZ at h;rw[lk] at h;have h:((eqf p q).bind fun a=>(iZ eqf (kvs.map (·.1)) ps ((kvs0++kv::kvs).map (·.1)) (qs0++q::qs)).bind fun b=>some (a && b))=some b:=h;obtain⟨c1,g1,h⟩:=LW.mp h;obtain⟨c2,g2,h⟩:=LW.mp h;cases h;rw[he p q kv.2 c1 rp1 rq1 g1];have:=qf eqf he kvs (kvs0++[kv]) (qs0++[q]) qs ps c2 (by simpa using nd) (by rw[MD];exact r0.append (aF.cons rq1 aF.nil)) rqt rpt (by simpa using g2);rw[this];rfl
theorem wG(hw:X.w=TW.w)(I:Inv X pins σ H s):∀(n:Nat)(p q:PV)(v:V)(b:Bool),aZ X.K H p v->aZ X.K H q v->lb n p q=some b->b=true:=by
 intro n
 induction n with
 | zero=>
  intro p q v b h1 h2 e;have e:bE p q=some b:=by cases p <;> exact e
  exact je I p q v b h1 h2 e
 | succ n ih=>
  intro p q v b h1 h2 e
  by_cases hd:∃ks ps ls qs,p=.dct ks ps/\q=.dct ls qs
  ·obtain⟨ks,ps,ls,qs,rfl,rfl⟩:=hd
   have e:(if ks.length=ls.length then iZ (lb n) ks ps ls qs else some false)=some b:=e;obtain⟨a1,kvs1,rfl,d1,k1,r1⟩:=h1;obtain⟨a2,kvs2,ea,d2,k2,r2⟩:=h2;cases ea;obtain⟨_,n1,vs1,kv1,D1⟩:=DkR.at hw I d1;obtain⟨_,n2,vs2,kv2,D2⟩:=DkR.at hw I d2;have:=uQ D1 D2;subst this;have:=Bb kv1 kv2;subst this;subst k1;subst k2;rw[if_pos rfl] at e;obtain⟨_,_,_,_,_,_,_,_,nd⟩:=D1;exact qf (lb n) (fun p q v c g1 g2 g=>ih p q v c g1.o g2.o g) kvs1 [] [] qs ps b (by rw[Ol,xk kv1];exact nd) aF.nil r2 r1 (by simpa using e)
  ·have e:bE p q=some b:=by
    rw[← e];cases p with
    | dct ks ps=>
     cases q with
     | dct ls qs=>exact absurd ⟨ks,ps,ls,qs,rfl,rfl⟩ hd
     | _=>rfl
    | _=>rfl
   exact je I p q v b h1 h2 e
theorem xV(hw:X.w=TW.w)(I:Inv X pins σ H s):∀(n:Nat)(p q:PV)(A:M3)(v u:V)(v' u':LD)(b:Bool),aZ X.K H p v->aZ X.K H q u->RelV v v'->RelV u u'->lb n p q=some b->A.units+mi p<cLine->EqW X.prog X.w A s v' u' b:=by
 intro n
 induction n with
 | zero=>
  intro p q A v u v' u' b h1 h2 e1 e2 e hu;have e:bE p q=some b:=by cases p <;> exact e
  exact .of (xW I p q A v u v' u' b h1 h2 e1 e2 e hu)
 | succ n ih=>
  intro p q A v u v' u' b h1 h2 e1 e2 e hu
  by_cases hd:∃ks ps ls qs,p=.dct ks ps/\q=.dct ls qs
  ·obtain⟨ks,ps,ls,qs,rfl,rfl⟩:=hd
   have e0:=e;have h10:=h1;have h20:=h2;have e:(if ks.length=ls.length then iZ (lb n) ks ps ls qs else some false)=some b:=e;obtain⟨a1,kvs1,rfl,d1,k1,r1⟩:=h1;obtain⟨a2,kvs2,rfl,d2,k2,r2⟩:=h2;cases e1;cases e2;obtain⟨_,n1,vs1,kv1,D1⟩:=DkR.at hw I d1;obtain⟨_,n2,vs2,kv2,D2⟩:=DkR.at hw I d2;have l1:vs1.length=ks.length:=by rw[← k1,LI];exact(MZ kv1).symm
   have l2:vs2.length=ls.length:=by rw[← k2,LI];exact(MZ kv2).symm
   simp only[mi] at hu;have hu0:A.units<cLine:=by omega
   have dep:∀p∈ps,mi p<=bL ps:=fun p hp=>by
    obtain⟨j,hj⟩:=Nu.mp hp;exact kC hj
   by_cases same:a1=a2
   ·subst same
    rw[wG hw I (n+1) _ _ _ b h10 h20 e0];exact .of (EqAt.same _)
   ·intro E Q hq
    unfold eqBool;refine N3 (wpAny_ite_split (fun hab=>absurd (by have:=RO hab;injection this) same) fun _=>LA ?_)
    by_cases hl:ks.length=ls.length
    ·rw[if_pos hl] at e
     refine kL (r:=b) n1 n2 D1 D2 hu0 (fun _=>kG A.in1 (lb n) I k2 r2 kv2 ks ps kvs1 vs1 b k1 r1 kv1 e fun p hp q v u v' u' c g1 g2 g3 g4 g5=>ih p q A.in1 v u v' u' c g1 g2 g3 g4 g5 ?_) (Me ?_)
     ·have:=dep p hp
      show A.units+1+_<_;omega
     ·have:(vs1.length == vs2.length)=true:=by rw[l1,l2,hl];simp
      rw[this,Nt];exact hq
    ·rw[if_neg hl] at e
     cases e;refine kL (r:=false) n1 n2 D1 D2 hu0 (fun z=>absurd (by rw[← l1,← l2];exact z) hl) (Me ?_);rw[O5];exact hq
  ·have e:bE p q=some b:=by
    rw[← e];cases p with
    | dct ks ps=>
     cases q with
     | dct ls qs=>exact absurd ⟨ks,ps,ls,qs,rfl,rfl⟩ hd
     | _=>rfl
    | _=>rfl
   exact .of (xW I p q A v u v' u' b h1 h2 e1 e2 e hu)
end
end PU
namespace PU
open PySem PySem.Spec PyProof.Rows L2 PySem.SeqAt
variable[TW]
theorem cw{K:LC}{H:Hp}{p:PV}{v:V}(h:lE p=true)(r:aZ K H p v):v=scV p:=by
 cases p with
 | non=>exact r
 | bl b=>exact r
 | int i=>exact r
 | str x=>exact r
 | _=>cases h
section
variable{X : Cx}
theorem sd{pins:List (Addr×Obj)}{σ:L2.St}{H:Hp}{s:LG}{ps qs:List PV}{v u:V}{v' u':LD}{b:Bool}(hu:X.A.units+64<cLine)(I:Inv X pins σ H s)(e:dC ps qs=some b)(hd:bL ps<=60) :
  (aZ X.K H (.tup ps) v->aZ X.K H (.tup qs) u->RelV v v'->RelV u u'->RcAt X.A s v' u' b/\RcNeAt X.A s v' u' (!b))/\
  (aZ X.K H (.lst ps) v->aZ X.K H (.lst qs) u->RelV v v'->RelV u u'->RcAt X.A s v' u' b/\RcNeAt X.A s v' u' (!b)):=by
 have hu0:X.A.units<cLine:=by omega
 have hp:=kA ps qs b e;constructor
 ·intro h1 h2 e1 e2
  obtain⟨a,xs,rfl,g1,r1⟩:=aZ.tup_inv h1;obtain⟨a2,ys,rfl,g2,r2⟩:=aZ.tup_inv h2;cases e1;cases e2;obtain⟨its,rv,pl,_⟩:=I.tuple g1;obtain⟨its2,rv2,pl2,_⟩:=I.tuple g2;have l1:=r1.length;have l2:=r2.length;have l3:=rv.length;have l4:=rv2.length
  have each:∀j (j1:j<its.toArray.size) (j2:j<its2.toArray.size),EqAt X.A.in1 s its.toArray[j] its2.toArray[j] (iW ps qs j):=fun j j1 j2=>by
   have:=lU I ps qs X.A.in1 xs ys its its2 b r1 r2 rv rv2 e (by show X.A.units+1+_<_;omega) j (by simpa using j1) (by simpa using j2);simpa using this
  rw[← hp,show ps.length=its.toArray.size by simp;omega,show qs.length=its2.toArray.size by simp;omega];exact⟨RcAt.tuples pl pl2 hu0 each,RcNeAt.tuples pl pl2 hu0 each⟩
 ·intro h1 h2 e1 e2
  obtain⟨a,xs,rfl,g1,r1⟩:=aZ.lst_inv h1;obtain⟨a2,ys,rfl,g2,r2⟩:=aZ.lst_inv h2;cases e1;cases e2;obtain⟨its,rv,pl,_⟩:=I.list g1.l;obtain⟨its2,rv2,pl2,_⟩:=I.list g2.l;have l1:=r1.length;have l2:=r2.length;have l3:=rv.length;have l4:=rv2.length
  have each:∀j (j1:j<its.toArray.size) (j2:j<its2.toArray.size),EqAt X.A.in1 s its.toArray[j] its2.toArray[j] (iW ps qs j):=fun j j1 j2=>by
   have:=lU I ps qs X.A.in1 xs ys its its2 b r1 r2 rv rv2 e (by show X.A.units+1+_<_;omega) j (by simpa using j1) (by simpa using j2);simpa using this
  by_cases hl:ps.length=qs.length
  ·have hb:(M9 its.toArray.size).all (iW ps qs)=b:=by
    rw[← hp,hl,Nat.min_self,beq_self_eq_true,Rj,show its.toArray.size=qs.length by simp;omega]
   rw[← hb];exact⟨RcAt.lists pl.isList pl2.isList (by simp;omega) hu0 each,RcNeAt.lists pl.isList pl2.isList (by simp;omega) hu0 each⟩
  ·have hb:b=false:=by
    rw[← hp,beq_eq_false_iff_ne.mpr hl,O5]
   rw[hb];exact⟨RcAt.lists_lengths pl.isList pl2.isList (by simp;omega) hu0,RcNeAt.lists_lengths pl.isList pl2.isList (by simp;omega) hu0⟩
theorem j7(hu:X.A.units+64<cLine)(hw:X.w=TW.w:=by rfl):OpR X (MG .Eq) (rP X.K gEq):=by
 intro pins s σ H x y v u Q I rx ry ⟨p,q,z,hp,hq,e,k⟩;unfold gEq at e;split at e
 ·rename_i ks ps ls qs
  split at e
  ·rename_i hd
   obtain⟨b,eb,ez⟩:=LV.mp e;subst ez;have eb:(if ks.length=ls.length then iZ (lb 2) ks ps ls qs else some false)=some b:=eb;obtain⟨a1,kvs1,rfl,d1,k1,r1⟩:=hp;obtain⟨a2,kvs2,rfl,d2,k2,r2⟩:=hq;cases rx;cases ry;obtain⟨_,n1,vs1,kv1,D1⟩:=DkR.at hw I d1;obtain⟨_,n2,vs2,kv2,D2⟩:=DkR.at hw I d2;have l1:vs1.length=ks.length:=by rw[← k1,LI];exact(MZ kv1).symm
   have l2:vs2.length=ls.length:=by rw[← k2,LI];exact(MZ kv2).symm
   have fin:EP X pins σ Q (.bool b) s:=⟨.bl b,H,I,rfl,k _ H (Same.refl H) rfl⟩;have hu0:X.A.units<cLine:=by omega
   by_cases hl:ks.length=ls.length
   ·rw[if_pos hl] at eb
    refine kL (r:=b) n1 n2 D1 D2 hu0 (fun _=>kG X.A.in1 (lb 2) I k2 r2 kv2 ks ps kvs1 vs1 b k1 r1 kv1 eb fun p hp q v u v' u' c g1 g2 g3 g4 g5=>xV hw I 2 p q X.A.in1 v u v' u' c g1 g2 g3 g4 g5 ?_) ?_
    ·obtain⟨j,hj⟩:=Nu.mp hp
     have:=kC hj;show X.A.units+1+_<_;omega
    ·have:(vs1.length == vs2.length)=true:=by rw[l1,l2,hl];simp
     rw[this,Nt];exact fin
   ·rw[if_neg hl] at eb
    cases eb;refine kL (r:=false) n1 n2 D1 D2 hu0 (fun z=>absurd (by rw[← l1,← l2];exact z) hl) ?_;rw[O5];exact fin
  ·cases e
 ·split at e
  ·rename_i hd
   obtain⟨b,eb,ez⟩:=LV.mp e;subst ez;exact((sd hu I eb hd).1 hp hq rx ry).1 _ _ _ _ ⟨.bl b,H,I,rfl,k _ H (Same.refl H) rfl⟩
  ·cases e
 ·split at e
  ·rename_i hd
   obtain⟨b,eb,ez⟩:=LV.mp e;subst ez;exact((sd hu I eb hd).2 hp hq rx ry).1 _ _ _ _ ⟨.bl b,H,I,rfl,k _ H (Same.refl H) rfl⟩
  ·cases e
 ·split at e
  ·rename_i hc
   obtain⟨h1,h2,h3⟩:=hc;cases e;rw[cw h1 hp] at rx;rw[cw h2 hq] at ry;exact Ie pins s σ H _ _ v u Q I rx ry ⟨h3,k _ H (Same.refl H) rfl⟩
  ·cases e
theorem Cp(hu:X.A.units+64<cLine):OpR X (MG .NotEq) (rP X.K gNe):=by
 intro pins s σ H x y v u Q I rx ry ⟨p,q,z,hp,hq,e,k⟩;unfold gNe at e;split at e
 ·split at e
  ·rename_i hd
   obtain⟨b,eb,ez⟩:=LV.mp e;subst ez;exact((sd hu I eb hd).1 hp hq rx ry).2 _ _ _ _ ⟨.bl (!b),H,I,rfl,k _ H (Same.refl H) rfl⟩
  ·cases e
 ·split at e
  ·rename_i hd
   obtain⟨b,eb,ez⟩:=LV.mp e;subst ez;exact((sd hu I eb hd).2 hp hq rx ry).2 _ _ _ _ ⟨.bl (!b),H,I,rfl,k _ H (Same.refl H) rfl⟩
  ·cases e
 ·split at e
  ·rename_i hc
   obtain⟨h1,h2,h3⟩:=hc;cases e;rw[cw h1 hp] at rx;rw[cw h2 hq] at ry;exact I9 pins s σ H _ _ v u Q I rx ry ⟨h3,k _ H (Same.refl H) rfl⟩
  ·cases e
theorem DQ:OpR X (MG .Lt) (rP X.K gLt):=by
 intro pins s σ H x y v u Q I rx ry ⟨p,q,z,hp,hq,e,k⟩;unfold gLt at e;split at e
 ·rename_i i j
  cases e;cases (show x=.int i from hp);cases (show y=.int j from hq);exact Ia pins s σ H _ _ v u Q I rx ry ⟨i,j,rfl,rfl,k _ H (Same.refl H) rfl⟩
 ·rename_i i j
  cases e;cases (show x=.str i from hp);cases (show y=.str j from hq);exact wJ pins s σ H _ _ v u Q I rx ry ⟨i,j,rfl,rfl,k _ H (Same.refl H) rfl⟩
 ·cases e
theorem GL:OpR X (MG .Gt) (rP X.K gGt):=pC Ic fun p q z e=>by
 unfold gGt at e;split at e
 ·rename_i i j
  cases e;exact⟨i,j,rfl,rfl,_,fun _ _=>rfl,fun H Q q=>⟨i,j,rfl,rfl,q⟩⟩
 ·cases e
theorem B2:OpR X (MG .LtE) (rP X.K gLe):=by
 intro pins s σ H x y v u Q I rx ry ⟨p,q,z,hp,hq,e,k⟩;unfold gLe at e;split at e
 ·rename_i i j
  cases e;cases (show x=.int i from hp);cases (show y=.int j from hq);exact Ib pins s σ H _ _ v u Q I rx ry ⟨i,j,rfl,rfl,k _ H (Same.refl H) rfl⟩
 ·rename_i i j
  cases e;cases (show x=.str i from hp);cases (show y=.str j from hq);obtain⟨t,rfl⟩:=rx;obtain⟨t',rfl⟩:=ry;exact PySem.P.le_str ⟨.bl _,H,I,rfl,k _ H (Same.refl H) rfl⟩
 ·cases e
theorem C3{K:LC}{H:Hp}{p:PV}{v:V}(r:aZ K H p v):decide (v=.non)=lF p:=by
 cases p with
 | non=>cases (show v=.non from r);rfl
 | bl b=>cases (show v=.bl b from r);rfl
 | int b=>cases (show v=.int b from r);rfl
 | str b=>cases (show v=.str b from r);rfl
 | tup ps=>obtain⟨a,xs,rfl,_⟩:=aZ.tup_inv r;rfl
 | lst ps=>obtain⟨a,xs,rfl,_⟩:=aZ.lst_inv r;rfl
 | dct ks ps=>obtain⟨a,kvs,rfl,_⟩:=r;rfl
 | dtt ks ps=>obtain⟨a,kvs,rfl,_⟩:=r;rfl
 | fn L cs=>obtain⟨f,_,_,_,_,_,rfl,_⟩:=(show Rep K H (.fn L cs) v from r);rfl
theorem Ih:OpR X (MG .Is) (rP X.K DX):=by
 intro pins s σ H x y v u Q I rx ry ⟨p,q,z,hp,hq,e,k⟩;unfold DX at e;split at e
 ·cases e
  cases (show y=.non from hq);refine Ff pins s σ H _ _ v u Q I rx ry ⟨rfl,?_⟩;rw[C3 hp];exact k _ H (Same.refl H) rfl
 ·cases e
end
end PU
namespace PU
open PySem PySem.Spec PyProof.Rows L2 PySem.SeqAt
variable[TW]
theorem eG{K:LC}{H:Hp}{p:PV}{v:V}{k:Key}(e:gm p=some k)(r:aZ K H p v):v=kV k:=by
 cases p with
 | int i=>cases e;exact r
 | str i=>cases e;exact r
 | _=>cases e
theorem si{K:LC}{H:Hp}{ps:List PV}{xs:List V}{i:Int}{p:PV}(r:aF K H ps xs)(e:atI ps i=some p):∃v,atI xs i=some v/\Rep K H p v:=by
 unfold atI at e ⊢;rw[← r.length];obtain⟨j,ej,e2⟩:=LW.mp e;obtain⟨v,ev,rp⟩:=r.get e2;exact⟨v,by rw[ej];exact ev,rp⟩
section
variable{X : Cx}
theorem ixP(hu:X.A.units+64<cLine)(hw:X.w=TW.w:=by rfl):IxR X (rP X.K gIx):=by
 intro value slice pins s σ H x y v u Q I rx ry ⟨p,q,z,hp,hq,e,k⟩ hs;have h16:=MJ;unfold gIx at e;split at e
 ·rename_i ps i
  obtain⟨a,xs,rfl,g,r⟩:=aZ.lst_inv hp;cases (show y=.int i from hq);obtain⟨w,ew,rp⟩:=si r e;exact CK value slice pins s σ H _ _ v u Q I rx ry ⟨a,xs,i,w,rfl,rfl,g.l,ew,k w H (Same.refl H) rp⟩ hs
 ·rename_i ps i
  obtain⟨a,xs,rfl,g,r⟩:=aZ.tup_inv hp;cases (show y=.int i from hq);obtain⟨w,ew,rp⟩:=si r e;exact FP value slice pins s σ H _ _ v u Q I rx ry ⟨a,xs,i,w,rfl,rfl,g,ew,k w H (Same.refl H) rp⟩ hs
 ·rename_i t i
  split at e
  ·rename_i hl
   obtain⟨c,ec,ez⟩:=LV.mp e;subst ez;cases (show x=.str t from hp);cases (show y=.int i from hq);exact FQ value slice pins s σ H _ _ v u Q I rx ry ⟨t,i,c,rfl,rfl,by omega,ec,k _ H (Same.refl H) rfl⟩ hs
  ·cases e
 ·rename_i ks ps
  obtain⟨kk,ek,e⟩:=LW.mp e;obtain⟨a,kvs,rfl,g,e1,r⟩:=hp;cases rx;have hy:=eG ek hq;subst hy;obtain⟨w,ew,rp⟩:=jj e1 r e;obtain⟨zz,hd,vs,rel,dd⟩:=DkR.at hw I g;obtain⟨w',hw,rw'⟩:=rS.some_of (v:=w) (o:=NJ vs kk) (by rw[← ew];exact rel.val kk);exact tail_any dd.typeIs Qr.lookup (wpAny_getItem_of (oe ry) dd.mapOf hw ⟨w,H,I.tok _,rw',k w H (Same.refl H) rp⟩) hs
 ·cases e
theorem qF{K:LC}{H:Hp}:∀{qs:List PV}{xs:List V},qs.all lE=true->aF K H qs xs->xs=qs.map scV/\xs.all mr=true
 | [],_,_,r=>by cases r;exact⟨rfl,rfl⟩
 | q::qs,_,h,⟨x,t,e,h1,h2⟩=>by
  subst e;simp only[OI,M6] at h;obtain⟨e1,e2⟩:=qF h.2 h2;have hx:=cw h.1 h1.o;refine⟨by rw[LQ,hx,e1],?_⟩;rw[OI,e2,Rj,hx];cases q <;> first | rfl | cases h.1
theorem nM{p:PV}(h:lE p=true):mr (scV p)=true:=by
 cases p <;> first | rfl | cases h
theorem B3(hu:X.A.units+64<cLine)(hw:X.w=TW.w:=by rfl):OpR X (MG .In) (rP X.K gIn):=by
 intro pins s σ H x y v u Q I rx ry ⟨p,q,z,hp,hq,e,k⟩;unfold gIn at e;split at e
 ·rename_i i j
  cases e;cases (show x=.str i from hp);cases (show y=.str j from hq);exact wK pins s σ H _ _ v u Q I rx ry ⟨i,j,rfl,rfl,k _ H (Same.refl H) rfl⟩
 ·rename_i qs _
  split at e
  ·rename_i hc
   cases e;obtain⟨a,xs,rfl,g,r⟩:=aZ.lst_inv hq;obtain⟨e1,e2⟩:=qF hc.2 r;refine pK pins s σ H _ _ v u Q I rx ry ⟨a,xs,rfl,.inl g.l,by rw[cw hc.1 hp];exact nM hc.1,e2,?_⟩;rw[cw hc.1 hp,e1];exact k _ H (Same.refl H) rfl
  ·cases e
 ·rename_i qs _
  split at e
  ·rename_i hc
   cases e;obtain⟨a,xs,rfl,g,r⟩:=aZ.tup_inv hq;obtain⟨e1,e2⟩:=qF hc.2 r;refine pK pins s σ H _ _ v u Q I rx ry ⟨a,xs,rfl,.inr g,by rw[cw hc.1 hp];exact nM hc.1,e2,?_⟩;rw[cw hc.1 hp,e1];exact k _ H (Same.refl H) rfl
  ·cases e
 ·rename_i ks ps _
  obtain⟨kk,ek,ez⟩:=LV.mp e;subst ez;obtain⟨a,kvs,rfl,g,e1,r⟩:=hq;cases ry;have hx:=eG ek hp;subst hx;obtain⟨zz,hd,vs,rel,dd⟩:=DkR.at hw I g;refine wpAny_in_of (oe rx) hd dd.mapOf ?_;rw[← (rel.val kk).isSome_eq,← j8];refine⟨.bl _,H,I.tok _,rfl,k _ H (Same.refl H) ?_⟩;subst e1;rw[Ou];rfl
 ·cases e
theorem r8(hu:X.A.units+64<cLine)(hw:X.w=TW.w:=by rfl):OpR X (MG .NotIn) (rP X.K ka):=by
 intro pins s σ H x y v u Q I rx ry ⟨p,q,z,hp,hq,e,k⟩;have e:=e;obtain⟨z0,e1,ez⟩:=LW.mp e;clear e;have e:=e1;clear e1;unfold gIn at e;split at e
 ·rename_i i j _
  cases e;cases ez;cases (show x=.str i from hp);cases (show y=.str j from hq);exact pJ pins s σ H _ _ v u Q I rx ry ⟨i,j,rfl,rfl,k _ H (Same.refl H) rfl⟩
 ·rename_i qs _
  split at e
  ·rename_i hc
   cases e;cases ez;obtain⟨a,xs,rfl,g,r⟩:=aZ.lst_inv hq;obtain⟨e1,e2⟩:=qF hc.2 r;refine k0 pins s σ H _ _ v u Q I rx ry ⟨a,xs,rfl,.inl g.l,by rw[cw hc.1 hp];exact nM hc.1,e2,?_⟩;rw[cw hc.1 hp,e1];exact k _ H (Same.refl H) rfl
  ·cases e
 ·rename_i qs _
  split at e
  ·rename_i hc
   cases e;cases ez;obtain⟨a,xs,rfl,g,r⟩:=aZ.tup_inv hq;obtain⟨e1,e2⟩:=qF hc.2 r;refine k0 pins s σ H _ _ v u Q I rx ry ⟨a,xs,rfl,.inr g,by rw[cw hc.1 hp];exact nM hc.1,e2,?_⟩;rw[cw hc.1 hp,e1];exact k _ H (Same.refl H) rfl
  ·cases e
 ·rename_i ks ps _
  obtain⟨kk,ek,ez'⟩:=LV.mp e;subst ez';cases ez;obtain⟨a,kvs,rfl,g,e1,r⟩:=hq;cases ry;have hx:=eG ek hp;subst hx;obtain⟨zz,hd,vs,rel,dd⟩:=DkR.at hw I g;refine wpAny_notIn_of (oe rx) hd dd.mapOf ?_;rw[← (rel.val kk).isSome_eq,← j8];refine⟨.bl _,H,I.tok _,rfl,k _ H (Same.refl H) ?_⟩;subst e1;rw[Ou];rfl
 ·cases e
theorem BE(hw:X.w=TW.w):K4 X (fun v H Q=>∃p b,aZ X.K H p v/\kj p=some b/\Q b H):=by
 intro pins s σ H x v Q I rx ⟨p,b,rp,e,q⟩;have h16:=MJ;cases p with
 | non=>
  cases (show x=.non from rp);cases e;exact mB pins s σ H _ v Q I rx ⟨_,rfl,q⟩
 | bl i=>
  cases (show x=.bl i from rp);cases e;exact mB pins s σ H _ v Q I rx ⟨_,rfl,q⟩
 | int i=>
  cases (show x=.int i from rp);cases e;exact mB pins s σ H _ v Q I rx ⟨_,rfl,q⟩
 | str i=>
  cases (show x=.str i from rp);simp only[kj] at e;split at e
  ·cases e
   exact mB pins s σ H _ v Q I rx ⟨_,⟨by omega,rfl⟩,q⟩
  ·cases e
 | tup ps=>
  obtain⟨a,xs,rfl,g,r⟩:=aZ.tup_inv rp;cases e;have:ps.isEmpty=xs.isEmpty:=by have:=r.length;cases ps <;> cases xs <;> simp_all
  exact mB pins s σ H _ v Q I rx ⟨_,.inr (.inl ⟨xs,g,by rw[this]⟩),q⟩
 | lst ps=>
  obtain⟨a,xs,rfl,g,r⟩:=aZ.lst_inv rp;cases e;have:ps.isEmpty=xs.isEmpty:=by have:=r.length;cases ps <;> cases xs <;> simp_all
  exact mB pins s σ H _ v Q I rx ⟨_,.inl ⟨xs,g.l,by rw[this]⟩,q⟩
 | dct ks ps=>
  obtain⟨a,kvs,rfl,g,e1,r⟩:=rp;cases rx;cases e;obtain⟨hz,hS,vs,rel,m⟩:=DkR.at hw I g;have hlen:kvs.length=vs.length:=MZ rel;refine wpAny_truthy_dict hS m (by omega) ⟨H,I.tok _,?_⟩;rw[mU rel];subst e1;have:(kvs.map (·.1)).isEmpty=kvs.isEmpty:=by cases kvs <;> rfl
  rw[this] at q;exact q
 | dtt ks ps=>cases e
 | fn L cs=>cases e
end
section
variable{C : Cn}{a b c e : Expr}{f fa fb fc : PSt → R PV}{t u : PSt → R Bool}{rest : List Expr}{pos : Nf}
theorem bo(ha:EO C a f)(he:∀whole,isTrue a C.X.env whole=(do let v<- whole;standAt a.pos;T6 [v] (truthy v)):=by intro _;rfl)(hw:C.X.w=TW.w:=by rfl):ET C a (bU f):=by
 intro pins s σ H Q I ⟨ρ,vw,q⟩;refine isTrue_plain (thn (ha pins s σ H (fun v H'=>∃p b,aZ C.X.K H' p v/\kj p=some b/\Q b H') I ⟨ρ,vw,q.bind.imp fun p _ k v H' s' r=>?_⟩) fun v s1 ⟨x,H1,I1,r1,q1⟩=>BE hw pins s1 σ H1 x v Q I1 r1 q1) (he _);obtain⟨b,eb,k⟩:=k.ofO;exact⟨p,b,r,eb,k H' s'⟩
def uJ(g:PV->PV->Option PV):Prop:=∀p q z,g p q=some z->∃b,z=.bl b
theorem aM{op:SE}{g:PV->PV->Option PV}(ho:OpR C.X (MG op) (rP C.X.K g))(hg:uJ g)(ha:EO C a fa)(hb:EO C b fb)(hm:Oq op b=false:=by first | exact B5 _ | with_unfolding_all rfl):ET C (.Compare a [op] [b] pos) (bU (ai fa fb g)):=by
 intro pins s σ H Q I ⟨ρ,vw,q⟩;refine C8 ho ha hb hm pins s σ H Q I ?_;refine t2 vw (g:=g) (q.bind.imp fun p e k v H' s' r=>?_) fun _ _ _ _ h=>h
 have:∃b,p=.bl b:=by
  unfold ai at e;cases h1:fa ρ with
  | ok x=>
   rw[h1] at e;cases h2:fb ρ with
   | ok y=>
    rw[h2] at e;cases h3:g x y with
    | some z=>
     simp only[R.ok_bind,h3,R.ofO_some] at e;cases e;exact hg x y _ h3
    | none=>simp only[R.ok_bind,h3,R.ofO_none] at e;cases e
   | er x=>rw[h2] at e;cases e
   | no=>rw[h2] at e;cases e
  | er x=>rw[h1] at e;cases e
  | no=>rw[h1] at e;cases e
 obtain⟨b,rfl⟩:=this;cases (show v=.bl b from r);exact⟨b,rfl,k H' s'⟩
theorem EW.et(h:EW C e t):ET C e t:=PW.pt h
theorem D9(ha:ET C a t):EW C (.BoolOp .And [a] pos) t:=C5 ha
theorem jy(ha:ET C a t):EW C (.BoolOp .Or [a] pos) t:=EL ha
theorem G0(ha:ET C a t)(hb:EW C (.BoolOp .And (b::rest) pos) u):EW C (.BoolOp .And (a::b::rest) pos) (GT t u):=by
 intro wh pins s σ H Q I ⟨ρ,vw,q⟩;refine ER ha hb wh pins s σ H Q I ⟨ρ,vw,q.bind.imp fun c _ k H' s'=>?_⟩;cases c with
 | true=>exact zX ⟨ρ,vw.same s',(k.same s').imp fun b _ k2 H2 s2=>k2 H2 (s'.trans s2)⟩
 | false=>exact zY (k H' s')
theorem ox(ha:ET C a t)(hb:EW C (.BoolOp .Or (b::rest) pos) u):EW C (.BoolOp .Or (a::b::rest) pos) (orB t u):=by
 intro wh pins s σ H Q I ⟨ρ,vw,q⟩;refine HP ha hb wh pins s σ H Q I ⟨ρ,vw,q.bind.imp fun c _ k H' s'=>?_⟩;cases c with
 | true=>exact zX (k H' s')
 | false=>exact zY ⟨ρ,vw.same s',(k.same s').imp fun b _ k2 H2 s2=>k2 H2 (s'.trans s2)⟩
theorem gM(ha:ET C a t):ET C (.UnaryOp .Not a pos) (nZ t):=by
 intro pins s σ H Q I ⟨ρ,vw,q⟩;exact AW ha pins s σ H Q I ⟨ρ,vw,q.bind.imp fun c _ k H' s'=>k H' s'⟩
theorem iD{op}(h:EV C a f):EV C (.BoolOp op [a] pos) f:=F3 h
theorem lT(ha:EV C a fa)(hb:EV C (.BoolOp .And (b::rest) pos) fb):EV C (.BoolOp .And (a::b::rest) pos) (yH fa fb):=by
 intro pins s σ H Q I ⟨ρ,vw,q⟩;refine F7 ha hb pins s σ H Q I ⟨ρ,vw,q.bind.imp fun p _ k v H' s' r=>?_⟩;cases p with
 | bl c=>
  cases (show v=.bl c from r);refine⟨c,rfl,?_⟩;cases c with
  | true=>exact zX ⟨ρ,vw.same s',(RQ.same k s').imp fun z _ k2 v2 H2 s2 r2=>k2 v2 H2 (s'.trans s2) r2⟩
  | false=>exact zY (k _ H' s' rfl)
 | _=>exact LP k
theorem Dc(ha:EV C a fa)(hb:EV C (.BoolOp .Or (b::rest) pos) fb):EV C (.BoolOp .Or (a::b::rest) pos) (orV fa fb):=by
 intro pins s σ H Q I ⟨ρ,vw,q⟩;refine HW ha hb pins s σ H Q I ⟨ρ,vw,q.bind.imp fun p _ k v H' s' r=>?_⟩;cases p with
 | bl c=>
  cases (show v=.bl c from r);refine⟨c,rfl,?_⟩;cases c with
  | true=>exact zX (k _ H' s' rfl)
  | false=>exact zY ⟨ρ,vw.same s',(RQ.same k s').imp fun z _ k2 v2 H2 s2 r2=>k2 v2 H2 (s'.trans s2) r2⟩
 | _=>exact LP k
theorem xU(hc:ET C c t)(ha:EV C a fa)(hb:EV C b fb):EV C (.IfExp c a b pos) (ifV t fa fb):=by
 intro pins s σ H Q I ⟨ρ,vw,q⟩;refine zw hc ha hb pins s σ H Q I ⟨ρ,vw,q.bind.imp fun c _ k H' s'=>?_⟩;cases c with
 | true=>exact zX ⟨ρ,vw.same s',(RQ.same k s').imp fun z _ k2 v2 H2 s2 r2=>k2 v2 H2 (s'.trans s2) r2⟩
 | false=>exact zY ⟨ρ,vw.same s',(RQ.same k s').imp fun z _ k2 v2 H2 s2 r2=>k2 v2 H2 (s'.trans s2) r2⟩
end
theorem b9:uJ gEq:=fun p q z e=>by
 unfold gEq at e;split at e
 ·split at e
  ·obtain⟨b,_,ez⟩:=LV.mp e
   exact⟨b,ez.symm⟩
  ·cases e
 ·split at e
  ·obtain⟨b,_,ez⟩:=LV.mp e
   exact⟨b,ez.symm⟩
  ·cases e
 ·split at e
  ·obtain⟨b,_,ez⟩:=LV.mp e
   exact⟨b,ez.symm⟩
  ·cases e
 ·split at e
  ·cases e
   exact⟨_,rfl⟩
  ·cases e
theorem rz:uJ gNe:=fun p q z e=>by
 unfold gNe at e;split at e
 ·split at e
  ·obtain⟨b,_,ez⟩:=LV.mp e;exact⟨_,ez.symm⟩
  ·cases e
 ·split at e
  ·obtain⟨b,_,ez⟩:=LV.mp e;exact⟨_,ez.symm⟩
  ·cases e
 ·split at e
  ·cases e;exact⟨_,rfl⟩
  ·cases e
theorem rA:uJ gLt:=fun p q z e=>by unfold gLt at e;split at e <;> cases e <;> exact⟨_,rfl⟩
theorem lI:uJ gLe:=fun p q z e=>by unfold gLe at e;split at e <;> cases e <;> exact⟨_,rfl⟩
theorem rB:uJ gGt:=fun p q z e=>by unfold gGt at e;split at e <;> cases e <;> exact⟨_,rfl⟩
theorem A5:uJ DX:=fun p q z e=>by unfold DX at e;split at e <;> cases e <;> exact⟨_,rfl⟩
theorem lJ:uJ gIn:=fun p q z e=>by
 unfold gIn at e;split at e
 ·cases e;exact⟨_,rfl⟩
 ·split at e <;> cases e;exact⟨_,rfl⟩
 ·split at e <;> cases e;exact⟨_,rfl⟩
 ·obtain⟨b,_,ez⟩:=LV.mp e;exact⟨_,ez.symm⟩
 ·cases e
theorem uI:uJ ka:=fun p q z e=>by
 obtain⟨z0,e,ez⟩:=LW.mp e;cases z0 <;> cases ez
 exact⟨_,rfl⟩
end PU
namespace PU
open PySem PySem.Spec PyProof.Rows L2 PySem.SeqAt
variable[TW]
def r1(K:LC)(g:PV->Option PV):List V->Hp->VK->Prop:=fun vs H Q=>∃v p z,vs=[v]/\aZ K H p v/\g p=some z/\∀w H',Same H H'->Rep K H' z w->Q w H'
def rn1(K:LC)(g:PV->Option PV):List V->Hp->VK->Prop:=fun vs H Q=>∃v p z,vs=[v]/\aZ K H p v/\g p=some z/\∀a H',Same H H'->H a=none->cP K H' a z->Q (.ref a) H'
section
variable{C : Cn}{e : Expr}{f : PSt → R PV}{g : PV → Option PV}{x : Str}{p pos : Nf}{id T : String}
theorem t1{σ:L2.St}{H:Hp}{Q:VK}{ρ:PSt}(vw:View C.X.K H σ ρ)(q:RQ C H (un1 f g ρ) fun p=>∀v H',Same H H'->Rep C.X.K H' p v->Q v H'):tCB (r1 C.X.K g) (tA1 C f) σ H Q:=by
 refine⟨ρ,vw,q.bind.imp fun p _ k v H1 s1 r1=>?_⟩;obtain⟨z,ez,k⟩:=k.ofO;exact⟨v,p,z,rfl,r1,ez,fun w H' s' r'=>k w H' (s1.trans s') r'⟩
theorem tn1{σ:L2.St}{H:Hp}{Q:VK}{ρ:PSt}(vw:View C.X.K H σ ρ)(q:RQ C H (un1 f g ρ) fun p=>∀a H',Same H H'->H a=none->cP C.X.K H' a p->Q (.ref a) H'):tCB (rn1 C.X.K g) (tA1 C f) σ H Q:=by
 refine⟨ρ,vw,q.bind.imp fun p _ k v H1 s1 r1=>?_⟩;obtain⟨z,ez,k⟩:=k.ofO;exact⟨v,p,z,rfl,r1,ez,fun a H' s' n' r'=>k a H' (s1.trans s') (s1.free n') r'⟩
theorem gd (hc:fU C.X (.builtin id) (r1 C.X.K g)) (hg:Gl C.X x) (hm:C.X.mg x=none) (hv:N4 x=some (.builtin id)) (ha:EO C e f) (hn:x≠"__name__":=by decide) (hdb:(x == ("__debug__":Str))=false:=by decide)
  (hs:Ls [e] C.X.env=[(false,Mu e C.X.env)]:=by exact bV rfl):EV C (.Call (.Name x p) [e] [] pos) (un1 f g):=by
 intro pins s σ H Q I ⟨ρ,vw,q⟩;exact sv hc hg hm hv (qq ha hs) hn hdb hs (by rfl) pins s σ H Q I (t1 vw q)
theorem mw (hc:fU C.X (.type T) (r1 C.X.K g)) (hg:Gl C.X x) (hm:C.X.mg x=none) (hv:N4 x=some (.type T)) (ha:EO C e f) (hn:x≠"__name__":=by decide) (hdb:(x == ("__debug__":Str))=false:=by decide)
  (hs:Ls [e] C.X.env=[(false,Mu e C.X.env)]:=by exact bV rfl):EV C (.Call (.Name x p) [e] [] pos) (un1 f g):=by
 intro pins s σ H Q I ⟨ρ,vw,q⟩;exact pG hc hg hm hv (qq ha hs) hn hdb hs (by rfl) pins s σ H Q I (t1 vw q)
theorem Aj (hc:fU C.X (.type T) (rn1 C.X.K g)) (hg:Gl C.X x) (hm:C.X.mg x=none) (hv:N4 x=some (.type T)) (ha:EO C e f) (hn:x≠"__name__":=by decide) (hdb:(x == ("__debug__":Str))=false:=by decide)
  (hs:Ls [e] C.X.env=[(false,Mu e C.X.env)]:=by exact bV rfl):EN C (.Call (.Name x p) [e] [] pos) (un1 f g):=by
 intro pins s σ H Q I ⟨ρ,vw,q⟩;exact pG hc hg hm hv (qq ha hs) hn hdb hs (by rfl) pins s σ H Q I (tn1 vw q)
end
section
variable{X : Cx}
theorem rM (hw:X.w=TW.w:=by rfl):fU X (.builtin "len") (r1 X.K iC):=by
 intro pins s σ H xs us Q I r ⟨v,p,z,e1,rp,ez,k⟩;have h16:=MJ;subst e1;cases p with
 | lst ps=>
  obtain⟨a,xs,rfl,g,rr⟩:=aZ.lst_inv rp;cases ez;exact oE pins s σ H _ us Q I r ⟨_,_,rfl,.inl ⟨xs,g.l,rfl⟩,by rw[← rr.length];exact k _ H (Same.refl H) rfl⟩
 | tup ps=>
  obtain⟨a,xs,rfl,g,rr⟩:=aZ.tup_inv rp;cases ez;exact oE pins s σ H _ us Q I r ⟨_,_,rfl,.inr ⟨xs,g,rfl⟩,by rw[← rr.length];exact k _ H (Same.refl H) rfl⟩
 | str x=>
  simp only[iC] at ez;split at ez
  ·cases ez
   cases (show v=.str x from rp);exact oE pins s σ H _ us Q I r ⟨_,_,rfl,⟨by omega,rfl⟩,k _ H (Same.refl H) rfl⟩
  ·cases ez
 | dct ks ps=>
  obtain⟨a,kvs,rfl,g,e1,rr⟩:=rp;cases ez;obtain⟨u,rfl,ru⟩:=vals1 r;cases ru;obtain⟨hz,hS,vs,rel,m⟩:=DkR.at hw I g;have hlen:kvs.length=vs.length:=MZ rel;subst e1;rw[LI,hlen] at k;exact call_len_dict hS m (by omega) ⟨.int vs.length,H,I.tok _,⟨_,rfl⟩,k _ H (Same.refl H) rfl⟩
 | _=>cases ez
theorem cInt:fU X (.type "int") (r1 X.K GQ):=by
 intro pins s σ H xs us Q I r ⟨v,p,z,e1,rp,ez,k⟩;subst e1;cases p with
 | int i=>cases ez;cases (show v=.int i from rp);exact qw pins s σ H _ us Q I r (.inl ⟨i,rfl,k _ H (Same.refl H) rfl⟩)
 | bl i=>cases ez;cases (show v=.bl i from rp);exact qw pins s σ H _ us Q I r (.inr ⟨i,rfl,k _ H (Same.refl H) rfl⟩)
 | _=>cases ez
theorem yo:fU X (.type "tuple") (r1 X.K k9):=by
 intro pins s σ H xs us Q I r ⟨v,p,z,e1,rp,ez,k⟩;subst e1;cases p with
 | lst ps=>
  obtain⟨a,xs,rfl,g,rr⟩:=aZ.lst_inv rp;cases ez;exact jD pins s σ H _ us Q I r ⟨a,xs,rfl,.inl ⟨g.l,fun l hl=>k _ _ (Same.new hl) ⟨l,xs,rfl,.inl ao,rr.same (Same.new hl)⟩⟩⟩
 | tup ps=>
  obtain⟨a,xs,rfl,g,rr⟩:=aZ.tup_inv rp;cases ez;exact jD pins s σ H _ us Q I r ⟨a,xs,rfl,.inr ⟨g,k _ H (Same.refl H) rp⟩⟩
 | _=>cases ez
theorem KU:fU X (.builtin "ord") (r1 X.K GP):=by
 intro pins s σ H xs us Q I r ⟨v,p,z,e1,rp,ez,k⟩;subst e1;cases p with
 | str x=>
  simp only[GP] at ez;split at ez
  ·rename_i hl
   cases ez;cases (show v=.str x from rp);exact Aw pins s σ H _ us Q I r ⟨x,rfl,hl,k _ H (Same.refl H) rfl⟩
  ·cases ez
 | _=>cases ez
end
section
variable{C : Cn}{e tg : Expr}{f : PSt → R PV}{pos : Nf}
theorem CM{K:LC}{H:Hp}{a:Addr}{xs:List V}{ps:List PV}(g:SqF K H a xs)(r:aF K H ps xs):ItP K (Itl K a) H ps:=fun i H' k=>by
 have g':=(k.sqF g).l.l;have r':=aF.kp k ps r;have hl:=r'.length;refine⟨fun h=>⟨xs,g',by omega⟩,fun p e=>?_⟩;obtain⟨x,ex,rp⟩:=r'.get e
 exact⟨⟨xs,x,g',ex⟩,fun y H2 ⟨eh,hy⟩=>by
  subst eh;have:=hy xs g';rw[ex] at this;cases this;exact⟨Same.refl _,rp⟩⟩
theorem FR{K:LC}{H:Hp}{a:Addr}{xs:List V}{ps:List PV}(g:SqT K H a xs)(r:aF K H ps xs):ItP K (Itt K a) H ps:=fun i H' k=>by
 have g':=k.sqT g;have r':=aF.kp k ps r;have hl:=r'.length;refine⟨fun h=>⟨xs,g',by omega⟩,fun p e=>?_⟩;obtain⟨x,ex,rp⟩:=r'.get e
 exact⟨⟨xs,x,g',ex⟩,fun y H2 ⟨eh,hy⟩=>by
  subst eh;have:=hy xs g';rw[ex] at this;cases this;exact⟨Same.refl _,rp⟩⟩
theorem A0{K:LC}{H:Hp}{lo:Int}{n:Nat}:ItP K (Itr lo n) H (dU lo n):=fun i H' k=>by
 refine⟨fun h=>?_,fun p e=>?_⟩
 ·have:n<=i:=by simp[dU] at h;omega
  exact this
 ·unfold dU at e
  rw[LR] at e
  have hi:i<n:=by
   by_cases hi:i<n
   ·exact hi
   ·rw[MQ (by simpa using hi)] at e
    cases e
  rw[OB hi] at e;cases e;exact⟨hi,fun y H2 ⟨eh,hy⟩=>by subst eh hy;exact⟨Same.refl _,rfl⟩⟩
theorem gg {p:Nf} (hg:Gl C.X "range") (hm:C.X.mg "range"=none) (he:EV C e f) (hs:Ls [e] C.X.env=[(false,Mu e C.X.env)]:=by exact bV rfl):EI C tg (.Call (.Name "range" p) [e] [] pos) (zf f):=by
 intro pins s σ H Rk I ⟨ρ,vw,q⟩;refine wD hg hm (cX he iz hs) hs pins s σ H Rk I ⟨ρ,vw,q.bind.imp fun p _ k v H1 s1 r1=>?_⟩;cases p with
 | int j=>
  cases (show v=.int j from r1)
  by_cases hj:j.natAbs<1000000000
  ·have k:RQ C H (if j.natAbs<1000000000 then R.ok (dU 0 j.toNat) else R.no) fun ps=>∀J H',Same H H'->ItP C.X.K J H' ps->Rk J H':=k
   rw[if_pos hj] at k;exact⟨j,rfl,by omega,by omega,k _ H1 s1 A0⟩
  ·have k:RQ C H (if j.natAbs<1000000000 then R.ok (dU 0 j.toNat) else R.no) fun ps=>∀J H',Same H H'->ItP C.X.K J H' ps->Rk J H':=k
   rw[if_neg hj] at k;exact LP k
 | _=>exact LP k
end
section
variable{C : Cn}{e : Expr}{f : PSt → R PV}{pos apos cpos : Nf}
theorem gU(i:Nat){x:Str}{np:Nf}(he:EV C e f)(hs:Ls [e] C.X.env=[(false,Mu e C.X.env)]:=by exact bV rfl)
  (hb:O0 (.Name x np) "append" C.X.env (Mu (.Name x np) C.X.env)=Mu (.Name x np) C.X.env:=by rfl) (hline:(apos.endLine == cpos.line)=true:=by rfl)
  (hd:(x == ("__debug__":Str))=false:=by decide) (hcd:(x == ("__classdict__":Str))=false:=by decide) (hN:C.X.N[i]?=some x:=by rfl) (hv:Vis C.X.env.scope x:=by first | exact .inl rfl | exact .inr (.inl rfl) | exact .inr (.inr rfl)):SV C (.Expr (.Call (.Attribute (.Name x np) "append" apos) [e] [] cpos) pos) (yr i f):=by
 intro pins s σ H D I ⟨ρ,B,S,q⟩;unfold yr at q;split at q
 ·rename_i ps e1
  obtain⟨a,e2,xs,hx,rr⟩:=S.vw i _ e1;refine qS (zA R8 Pc R3 lB (gI hN hv hd hcd) (cX he iz hs) hb (by rw[hs];rfl) hline hs (by rfl)) (by rfl) pins s σ H D I ?_;refine⟨_,e2,.inl ⟨rfl,xs,SqL.of hx⟩,ρ,S.vw,(RS.bind q S.same).imp fun p _ q' v H1 s1 r1=>?_⟩
  by_cases hl:ps.length<16777216
  ·rw[if_pos hl] at q'
   refine⟨a,xs,v,rfl,rfl,s1 _ _ hx,by rw[MJ,← rr.length];exact hl,?_⟩;refine q' σ _ ((S.grow s1).turn e1 e2 (fun b hb=>aw hb) ?_);have kp:Kp H1 (upd H1 a (.lst (xs++[v]))):=Kp.upd (s1 _ _ hx) rfl;exact⟨a,rfl,xs++[v],ao,aF.append (aF.kp kp _ (rr.same s1)) (aF.cons (Rep.kp kp _ r1) aF.nil)⟩
  ·rw[if_neg hl] at q'
   exact LP q'
 ·exact LP q
end
end PU
namespace PU
open PySem PySem.Spec PyProof.Rows L2 PySem.SeqAt
variable[TW]
section
variable{C : Cn}
theorem aT(i:Nat){x:Str}{pos:Nf}(hN:C.X.N[i]?=some x:=by rfl)(hv:Vis C.X.env.scope x:=by first | exact Qu rfl | exact Qt (Qu rfl) | exact Qt (Qt rfl))
  (hd:(x == ("__debug__":Str))=false:=by decide) (hcd:(x == ("__classdict__":Str))=false:=by decide):EV C (.Name x pos) (a8 i):=G1 i hN hv hd hcd
theorem yG(i:Nat){x:Str}{pos:Nf}(hN:C.X.N[i]?=some x:=by rfl)(hv:Vis C.X.env.scope x:=by first | exact Qu rfl | exact Qt (Qu rfl) | exact Qt (Qt rfl))
  (hd:(x == ("__debug__":Str))=false:=by decide) (hcd:(x == ("__classdict__":Str))=false:=by decide):EO C (.Name x pos) (lN i):=G3 i hN hv hd hcd
variable{a b c : Expr}{fa fb fc : PSt → R PV}{pos : Nf}
theorem oy{op op':SE}{g g':PV->PV->Option PV}(ho:OpR C.X (MG op) (rP C.X.K g))(ho':OpR C.X (MG op') (rP C.X.K g'))(hg:uJ g)(ha:EO C a fa)(hb:EO C b fb)(hc:EO C c fc)
  (hm:So [op,op'] [b,c]=false:=by with_unfolding_all rfl):EV C (.Compare a [op,op'] [b,c] pos) (kf fa fb fc g g'):=by
 intro pins s σ H Q I ⟨ρ,vw,q⟩;refine zy ho ho' ha hb hc hm pins s σ H Q I ?_;refine⟨ρ,vw,q.bind.imp fun p _ k v H1 s1 r1=>⟨ρ,vw.same s1,(k.bind.same s1).imp fun p2 _ k2 u H2 s2 r2=>?_⟩⟩;obtain⟨z,ez,k3⟩:=k2.bind.ofO;obtain⟨bb,rfl⟩:=hg _ _ _ ez;refine⟨p,p2,.bl bb,r1.same s2,r2,ez,fun w H3 s3 r3=>?_⟩;cases (show w=.bl bb from r3);refine⟨bb,rfl,?_⟩;have s13:=(s1.trans s2).trans s3;cases bb with
 | true=>
  refine zX ⟨ρ,vw.same s13,?_⟩;refine(RQ.same (RQ.bind k3) s13).imp fun p3 _ k4 w4 H4 s4 r4=>?_;obtain⟨z2,ez2,k5⟩:=k4.ofO;exact⟨p2,p3,z2,(r2.same s3).same s4,r4,ez2,fun w5 H5 s5 r5=>k5 w5 H5 ((s13.trans s4).trans s5) r5⟩
 | false=>exact zY (k3 _ H3 s13 rfl)
end
end PU
namespace PU
open PySem PySem.Spec PyProof.Rows L2 PySem.SeqAt
variable[TW]
section
variable{X : Cx}{pins : List (Addr×Obj)}{σ : L2.St}{H : Hp}{s : LG}
theorem _root_.L2.Inv.turnedL{wr:List Addr}{h':Heap}{t':Nat}(I:L2.Inv X pins σ H s)(k:∀b o,b ∉ wr->s.heap.get? b=some o->h'.get? b=some o)(hw:∀b∈wr,qG X pins H b):L2.Inv X pins σ H { s with heap:=h',toks:=t' }:=by
 have nw:∀b u,H b=some u->b ∉ wr:=fun b u e z=>by rw[(hw b z).1] at e;cases e
 refine I.step (g':=s.gens) (d':=s.drawn) (ch:=wr) (fun b hb=>?_) (fun b o _ _ hc e _=>k b o hc e) (fun b o _ _ hc e _=>⟨o.slots,k b o hc e⟩) (fun _ _ _ _ n=>n)
  (fun b o hc e=>⟨o,k b o hc e⟩) (fun _ _ e=>e) (fun _ _ _ e=>e) (fun b ps e=>⟨#[],by rw[e];simp⟩) (fun m hm=>?_) (fun b u e=>?_) I.bare
 ·obtain⟨g1,g2,g3,g4,g5,g6⟩:=hw b hb
  exact⟨g4,g2,g5,g6⟩
 ·obtain⟨o,es,ep,ho,r⟩:=hm
  exact⟨o,es,ep,k _ o (fun z=>(hw _ z).2.1 rfl) ho,r⟩
 ·refine(I.hok b u e).stay (fun c v hc q=>k c v ?_ q) (fun _ q=>q) fun _ _ q=>q
  rcases hc with z | z
  ·rw[z];exact nw b u e
  ·exact nw c _ z
theorem _root_.L2.Inv.tupled{wr:List Addr}{h':Heap}{t':Nat}{T:Addr}{vals:List LD}{xs:List V}(I:L2.Inv X pins σ H s)(k:∀b o,b ∉ wr->s.heap.get? b=some o->h'.get? b=some o)(hw:∀b∈wr,qG X pins H b)(hws:∀b∈wr,b<s.heap.objs.size)
  (hT:s.heap.objs.size<=T) (ht:h'.IsTuple T vals.toArray) (rv:Vals xs vals) (hz:xs.length<=sizeLine) (hnr:¬ ∀v∈vals,∃b,v=Mn b):L2.Inv X pins σ (upd H T (.tup xs)) { s with heap:=h',toks:=t' }:=by
 have nw:∀b u,H b=some u->b ∉ wr:=fun b u e z=>by rw[(hw b z).1] at e;cases e
 have nT:H T=none:=I.hok.fresh hT;have neT:∀b u,H b=some u->b≠T:=fun b u e=>bB e nT
 have lo:∀b o,s.heap.get? b=some o->b≠T:=fun b o e z=>by
  subst z;exact absurd (LM e) (Oi.mpr hT)
 have hlt:X.env.locals≠T:=fun z=>absurd I.lt (by rw[z];exact Oi.mpr hT)
 refine I.step (g':=s.gens) (d':=s.drawn) (ch:=wr) (fun b hb=>?_) (fun b o _ _ hc e _=>k b o hc e) (fun b o _ _ hc e _=>⟨o.slots,k b o hc e⟩) (fun b o _ e n=>by rw[aw (lo b o e)];exact n)
  (fun b o hc e=>⟨o,k b o hc e⟩) (fun b xs e=>by rw[aw (neT _ _ e)];exact e) (fun b o u e=>by rw[aw (neT _ _ e)];exact e) (fun b ps e=>⟨#[],by rw[aw (neT _ _ e),e];simp⟩) (fun m hm=>?_) (fun b u e=>?_) I.bare
 ·obtain⟨g1,g2,g3,g4,g5,g6⟩:=hw b hb
  exact⟨g4,g2,g5,g6⟩
 ·obtain⟨o,es,ep,ho,r⟩:=hm
  exact⟨o,es,ep,k _ o (fun z=>(hw _ z).2.1 rfl) ho,r⟩
 ·by_cases hb:b=T
  ·subst hb
   rw[ao] at e;cases e;obtain⟨o,e1,e2,e3⟩:=ht;exact⟨hz,vals,rv,o,e1,e2,e3,fun h=>absurd h hnr⟩
  ·rw[aw hb] at e
   refine(I.hok b u e).stay (fun c v hc q=>k c v ?_ q) (fun c q=>by rw[aw (neT _ _ q)];exact q) fun c ys q=>by rw[aw (neT _ _ q)];exact q
   rcases hc with z | z
   ·rw[z];exact nw b u e
   ·exact nw c _ z
end
theorem rV{P:LY}{w:Ly}{K:LC}{elts:List Expr}{kk:Nat}{tp:Nf}{it:Addr}{fp wr:List Addr}{n:Nat}{own:Nat->Heap->Prop}{J:It}
  (W:∀(X:Cx)(pins:List (Addr×Obj))(σ:L2.St)(H:Hp)(s:LG)(i:Nat),X.prog=P->X.w=w->X.K=K->X.calm=true->L2.Inv X pins σ H s->own i s.heap->J.go i H\/J.stop i H->
   ∃(more:List Addr)(Pt:Nat->Array LD->Prop)(St:Nat->Heap->Prop)(Mid:Nat->Addr->Heap->Prop),WalksT P w X.A it more wr n Pt St Mid/\St i s.heap/\(∀j h,St j h->own j h)/\
    ∀vals,Pt i vals->∃xs,Vals xs vals.toList/\xs.length<=sizeLine/\(¬ ∀v∈vals.toList,∃b,v=Mn b)/\∀T,H T=none->J.yld i H (.ref T) (upd H T (.tup xs)))
  (hI:it∈fp) (hwr:∀b∈wr,b∈fp)
  (obj:∀i h,own i h->∀b∈fp,∃o,h.get? b=some o/\∀v,o.data≠.cell v) (keep:∀i h h',own i h->(∀b∈fp,∀o,h.get? b=some o->h'.get? b=some o)->own i h')
  (hgo:∀i H,J.go i H->i<n) (hstop:∀i H,J.stop i H->i=n)
  (self:∀(A:M3)(i:Nat)(s:LG)(Q:LD->LG->Prop)(E:LD->LG->Prop),own i s.heap->Q (.ref it) s->LO (Lz P w) A (T4 (.ref it)) Q E s) :
  Turn P w K (.Tuple elts kk tp) J fp it own where
 mem:=hI
 obj:=obj
 keep:=keep
 item:=by
  intro X hP hw hK hc i pins s σ H E I hf st hg;obtain⟨more,Pt,St,Mid,W',st',ofSt,hval⟩:=W X pins σ H s i hP hw hK hc I st (.inl hg);subst hP hw hK;refine W'.item i s _ _ (hgo i H hg) st' fun T vals h' tk hPt hT hTup hMid hk=>?_;obtain⟨xs,rv,hz,hnr,hy⟩:=hval vals hPt;have nT:H T=none:=I.hok.fresh hT;have hfw:∀b∈wr,qG X pins H b:=fun b hb=>hf b (hwr b hb)
  have hws:∀b∈wr,b<s.heap.objs.size:=fun b hb=>by
   obtain⟨o,e,_⟩:=obj i _ st b (hwr b hb);exact LM e
  have I1:L2.Inv X pins σ (upd H T (.tup xs)) { s with heap:=h',toks:=tk }:=I.tupled (vals:=vals.toList) hk hfw hws hT (by simpa using hTup) rv hz hnr;refine⟨_,rfl,W'.go elts kk tp i T _ _ _ hMid fun h'' st'' hk''=>?_⟩
  have fne:∀b∈fp,upd H T (.tup xs) b=none:=fun b hb=>by
   obtain⟨o,e,_⟩:=obj i _ st b hb;rw[aw (Lo (LK (LM e) hT))];exact(hf b hb).1
  have I2:L2.Inv X pins σ (upd H T (.tup xs)) { s with heap:=h'',toks:=tk }:=L2.Inv.turnedL (s:={ s with heap:=h',toks:=tk }) (wr:=wr) (t':=tk) I1 hk'' fun b hb=>⟨fne b (hwr b hb),(hfw b hb).2⟩;exact⟨.ref T,_,I2,rfl,hy T nT,ofSt _ _ st'',fne⟩
 done:=by
  intro X hP hw hK hc i pins s σ H E I hf st hg;obtain⟨more,Pt,St,Mid,W',st',ofSt,hval⟩:=W X pins σ H s i hP hw hK hc I st (.inr hg);subst hP hw hK;have e:=hstop i H hg;subst e;refine W'.done s _ _ st' fun h' tk hk=>⟨rfl,?_⟩;exact I.turnedL hk fun b hb=>hf b (hwr b hb)
 self:=self
def m9(n:Nat)(Gd:Hp->Prop)(xs:List (List V)):It:=
 ⟨fun i H=>i<n/\Gd H,fun i H x H'=>∃T ys,x=.ref T/\H T=none/\xs[i]?=some ys/\H'=upd H T (.tup ys),fun i H=>i=n/\Gd H⟩
theorem og{K:LC}{H₁:Hp}{n:Nat}{Gd:Hp->Prop}{xs:List (List V)}{pss:List (List PV)}(hn:pss.length=n)(hg:∀H,Kp H₁ H->Gd H)(r:∀(i:Nat)(ps:List PV)(ys:List V),pss[i]?=some ps->xs[i]?=some ys->aF K H₁ ps ys) :
  ItP K (m9 n Gd xs) H₁ (pss.map PV.tup):=fun i H k=>by
 refine⟨fun h=>⟨by rw[h,LI,hn],hg H k⟩,fun p e=>?_⟩;rw[LR] at e;cases hp:pss[i]? with
 | none=>rw[hp] at e;cases e
 | some ps=>
  rw[hp] at e;cases e;have hi:i<n:=by rw[← hn];exact(Lw.mp hp).1
  refine⟨⟨hi,hg H k⟩,fun x H' ⟨T,ys,ex,nT,ey,eH⟩=>?_⟩;subst ex eH;refine⟨Same.new nT,T,ys,rfl,(.inl ao),?_⟩;exact(aF.kp k ps (r i ps ys hp ey)).same (Same.new nT)
end PU
namespace PU
open PySem PySem.Spec PyProof.Rows L2 PySem.SeqAt
variable[TW]
theorem iF:N4 "enumerate"=some (.type "enumerate"):=by decide +kernel
def p8(x:Str):List V:=x.cps.toList.map fun c=>.str ⟨#[c]⟩
theorem ug{K:LC}{H:Hp}(x:Str):aF K H (fA x) (p8 x):=by
 unfold fA p8
 induction x.cps.toList with
 | nil=>rfl
 | cons c r ih=>exact⟨_,_,rfl,rfl,ih⟩
def DR(xs:List V):List (List V):=(M9 xs.length).zipWith (fun (i:Nat) x=>[.int (i:Int),x]) xs
theorem lu{α β:Type}(f:Nat->α->β)(l:List α)(i:Nat):((M9 l.length).zipWith f l)[i]?=l[i]?.map (f i):=by
 rw[Ob]
 by_cases hi:i<l.length
 ·rw[OB hi]
  simp[hi]
 ·rw[MQ (by simpa using hi)]
  simp[hi]
theorem sA{K:LC}{H:Hp}{ps:List PV}{xs:List V}(r:aF K H ps xs):∀(i:Nat)(qs:List PV)(ys:List V),(mN ps)[i]?=some qs->(DR xs)[i]?=some ys->aF K H qs ys:=fun i qs ys h1 h2=>by
 unfold mN at h1;unfold DR at h2;rw[lu] at h1 h2;cases e:ps[i]? with
 | none=>rw[e] at h1;cases h1
 | some p=>
  rw[e] at h1;obtain⟨x,ex,rp⟩:=r.get e;rw[ex] at h2;cases h1;cases h2;exact⟨_,_,rfl,rfl,_,_,rfl,rp,rfl⟩
theorem sC(ps:List PV):(mN ps).length=ps.length:=by simp[mN]
section
variable{P : LY}{w : Ly}{K : LC}{elts : List Expr}{kk : Nat}{tp : Nf}
theorem ud(a it e:Addr)(xs:List V)(hne:e≠it)(hae:a≠e)(hai:a≠it) :
  Turn P w K (.Tuple elts kk tp) (m9 xs.length (fun H=>SqL K H a xs) (DR xs)) [e,it] e (fun i h=>(∃old,IsEnum h e it i old)/\h.IsListIter it a i):=by
 refine rV (wr:=[e,it]) (n:=xs.length) (fun X pins σ H s i hP hw hK hc I st hg=>?_) (by simp) (fun b hb=>hb) (fun i h st b hb=>?_) (fun i h h' st k=>?_) (fun i H h=>h.1) (fun i H h=>h.1) fun A i s Q E st h=>O7 st.1.choose_spec h
 ·subst hP hw hK
  have hq:SqL X.K H a xs:=by rcases hg with h | h <;> exact h.2
  obtain⟨its,rv,pl,hz⟩:=I.list hq;have hl:=rv.length;have W:=QK (A:=X.A) (Sg (prog:=X.prog) (w:=X.w) (A:=X.A.in1) (I.ok.hd hc) it a hai its.toArray) e hne (by simp[hne,NG hae]) (by simp);rw[show its.toArray.size=xs.length by simp[hl]] at W;refine⟨_,_,_,_,W,⟨st.1,st.2,pl.isList⟩,fun j h st=>⟨st.1,st.2.1⟩,fun vals hv=>?_⟩;obtain⟨t,x,hx,rfl⟩:=hv;have hx:its[i]?=some x:=by simpa using hx
  have hi:i<xs.length:=by rw[hl];exact(Lw.mp hx).1
  have e1:xs[i]?=some xs[i]:=by simp[hi]
  obtain⟨u,eu,ru⟩:=rv.get e1;rw[hx] at eu;cases eu;refine⟨[.int i,xs[i]],.cons ⟨t,rfl⟩ (.cons ru .nil),by show 2<=sizeLine;decide,fun z=>(by obtain⟨b,z⟩:=z _ Lp;cases z),fun T hT=>⟨T,_,rfl,hT,?_,rfl⟩⟩;unfold DR;rw[lu,e1];rfl
 ·obtain⟨⟨old,he⟩,o,ho,hc,hd⟩:=st
  rcases LJ.mp hb with rfl | hb
  ·exact⟨_,he,fun v z=>by cases (show Q4 _=PQ v from z)⟩
  ·have:b=it:=by simpa using hb
   subst this;exact⟨o,ho,fun v z=>by rw[hd] at z;cases z⟩
 ·obtain⟨⟨old,he⟩,hi⟩:=st
  exact⟨⟨old,k e (by simp) _ he⟩,hi.at fun o x=>k it (by simp) o x⟩
theorem yb{prog:LY}{w:Ly}{A:M3}(hh:A.handled=none)(it:Addr)(x:Str)(t:Sf) :
  Rf prog w A it [it] x.cps.size (fun i v=>∃c u,x.cps[i]?=some c/\v=.str ⟨#[c]⟩ u) (fun i h=>h.IsStrIter it (OC x) x t i):=by
 unfold OC
 split
 ·exact Draws.strAscii hh it x t
 ·exact Draws.strWide hh it x t
theorem uc(it e:Addr)(x:Str)(t:Sf)(hne:e≠it) :
  Turn P w K (.Tuple elts kk tp) (m9 x.cps.size (fun _=>True) (DR (p8 x))) [e,it] e (fun i h=>(∃old,IsEnum h e it i old)/\h.IsStrIter it (OC x) x t i):=by
 refine rV (wr:=[e,it]) (n:=x.cps.size) (fun X pins σ H s i hP hw hK hc I st hg=>?_) (by simp) (fun b hb=>hb) (fun i h st b hb=>?_) (fun i h h' st k=>?_) (fun i H h=>h.1) (fun i H h=>h.1) fun A i s Q E st h=>O7 st.1.choose_spec h
 ·subst hP hw hK
  refine⟨_,_,_,_,QK (A:=X.A) (yb (A:=X.A.in1) (I.ok.hd hc) it x t) e hne (by simp[hne]) (by simp),⟨st.1,st.2⟩,fun j h st=>⟨st.1,st.2⟩,fun vals hv=>?_⟩;obtain⟨t',v,⟨c,u,hc',rfl⟩,rfl⟩:=hv
  have e1:(p8 x)[i]?=some (.str ⟨#[c]⟩):=by
   unfold p8;rw[LR];simp[hc']
  refine⟨[.int i,.str ⟨#[c]⟩],.cons ⟨t',rfl⟩ (.cons ⟨u,rfl⟩ .nil),by show 2<=sizeLine;decide,fun z=>(by obtain⟨b,z⟩:=z _ Lp;cases z),fun T hT=>⟨T,_,rfl,hT,?_,rfl⟩⟩;unfold DR;rw[lu,e1];rfl
 ·obtain⟨⟨old,he⟩,o,ho,hc,hd⟩:=st
  rcases LJ.mp hb with rfl | hb
  ·exact⟨_,he,fun v z=>by cases (show Q4 _=PQ v from z)⟩
  ·have:b=it:=by simpa using hb
   subst this;exact⟨o,ho,fun v z=>by rw[hd] at z;cases z⟩
 ·obtain⟨⟨old,he⟩,o,ho,r⟩:=st
  exact⟨⟨old,k e (by simp) _ he⟩,o,k it (by simp) o ho,r⟩
end
theorem rG {C:Cn} {e:Expr} {elts:List Expr} {kk:Nat} {tp p pos:Nf} {f:PSt->R PV} (hg:Gl C.X "enumerate") (hm:C.X.mg "enumerate"=none) (he:EV C e f) (hs:Ls [e] C.X.env=[(false,Mu e C.X.env)]:=by exact bV rfl) :
  EI C (.Tuple elts kk tp) (.Call (.Name "enumerate" p) [e] [] pos) (uO f):=by
 intro pins s σ H Rk I ⟨ρ,vw,q⟩
 refine Call_ (jl I hg hm iF (NF (thn ((cX he iz hs) pos pins s σ H (fun vs H'=>∃v p ps,vs=[v]/\Same H H'/\Rep C.X.K H' p v/\xY p=some ps/\∀J H2,Same H' H2->ItP C.X.K J H2 ps->Rk J H2) I ⟨ρ,vw,q.bind.imp fun p _ k v H' s' r=>?_⟩)
  fun us s1 ⟨vs,H1,I1,r1,v,p,ps,ev,sm,rp,ep,k⟩=>?_) hs rfl))
 ·obtain⟨ps,ep,k⟩:=k.ofO
  exact⟨v,p,ps,rfl,s',r,ep,fun J H2 s2 it=>k J H2 (s'.trans s2) it⟩
 ·subst ev
  obtain⟨u,rfl,ru⟩:=vals1 r1;have hne:s1.heap.objs.size+1≠s1.heap.objs.size:=Qp _
  have fp:∀{h':Heap},(∀b o,s1.heap.get? b=some o->h'.get? b=some o)->L2.Inv C.X pins σ H1 { s1 with heap:=h' }/\∀b∈[s1.heap.objs.size+1,s1.heap.objs.size],qG C.X pins H1 b:=fun {h'} hk=>by
   refine⟨I1.kept (t':=s1.toks) hk,fun b hb=>?_⟩
   have hb:s1.heap.objs.size<=b:=by
    simp only[LJ,Ln,or_false] at hb;rcases hb with rfl | rfl
    ·exact OR _
    ·exact LZ _
   exact I1.fpOk hb (I1.hok.fresh hb)
  cases p with
  | lst qs=>
   cases ep;obtain⟨a,xs,rfl,g,rr⟩:=rp;cases ru;obtain⟨its,rv,pl,hz⟩:=I1.list g.l.l;have ha:a<s1.heap.objs.size:=by obtain⟨o,n,ho,_⟩:=pl;exact LM ho
   refine call_enumerate_list pl.isList fun h' he' hi' hsz hk=>O7 he' ?_;obtain⟨I2,hf⟩:=fp hk;refine⟨_,_,_,_,H1,rfl,I2,ud a s1.heap.objs.size (s1.heap.objs.size+1) xs hne (Lo (N0 ha)) (Lo ha),⟨⟨_,he'⟩,hi'⟩,hf,k _ H1 (Same.refl H1) ?_⟩;exact og (by rw[sC,rr.length]) (fun H2 k2=>(k2.sqF g).l.l) (sA rr)
  | str x=>
   cases ep;cases (show v=.str x from rp);obtain⟨t,rfl⟩:=ru;refine call_enumerate_str fun h' he' hi' hsz hk=>O7 he' ?_;obtain⟨I2,hf⟩:=fp hk;refine⟨_,_,_,_,H1,rfl,I2,uc s1.heap.objs.size (s1.heap.objs.size+1) x t hne,⟨⟨_,he'⟩,hi'⟩,hf,k _ H1 (Same.refl H1) ?_⟩;exact og (by rw[sC];simp[fA]) (fun H2 k2=>trivial) (sA (ug x))
  | _=>cases ep
end PU
namespace PU
open PySem PySem.Spec PyProof.Rows L2 PySem.SeqAt
variable[TW]
theorem zS{K:LC}{H:Hp}(k:Key):Rep K H (xo k) (kV k):=by
 cases k <;> rfl
section
variable{P : LY}{w : Ly}{K : LC}{elts : List Expr}{kk : Nat}{tp : Nf}
theorem uv{kvs:List (Key×V)}{vs:List (Key×LD)}(rel:KV kvs vs):∀{i:Nat}{a:Key×V}{b:Key×LD},kvs[i]?=some a->vs[i]?=some b->a.1=b.1/\RelV a.2 b.2:=by
  induction rel with
  | nil=>intro i a b h _;simp at h
  | cons h t ih=>
   intro i a b h1 h2;cases i with
   | zero=>simp at h1 h2;subst h1 h2;exact h
   | succ i=>exact ih (by simpa using h1) (by simpa using h2)
def AG(K:LC)(H:Hp)(d:Addr)(o:Obj)(kvs:List (Key×V)):Prop:=H d=some (.frz o (.dK kvs))\/(K.lookup d=some o/\yw K d kvs)
theorem AG.at{X:Cx}{pins:List (Addr×Obj)}{σ:L2.St}{H:Hp}{s:LG}{d:Addr}{o:Obj}{kvs:List (Key×V)}{es:Array DictEntry}{ep:Nat}(hw:X.w=TW.w)(I:L2.Inv X pins σ H s)(h:AG X.K H d o kvs)(ho:o.data=.dict es ep) :
  ∃vs,KV kvs vs/\s.heap.DictAt (aj X.prog X.w) d vs ep/\s.heap.get? d=some o/\o.ExactDict:=by
 rcases h with hq | ⟨hk,_,_,o2,es2,ep2,e,x,d2,r⟩
 ·obtain⟨e0,z,_,vs,rel,o',es',ep',e1,x1,d1,rest⟩:=I.hok d _ hq
  rw[e0] at e1;cases e1;rw[ho] at d1;cases d1;exact⟨vs,rel,⟨o,es,e0,x1,ho,rest⟩,e0,x1⟩
 ·rw[hk] at e
  cases e;rw[ho] at d2;cases d2;obtain⟨vs,rel,rest⟩:=r X.prog;rw[← hw] at rest;exact⟨vs,rel,⟨o,es,I.kIn _ _ hk,x,ho,rest⟩,I.kIn _ _ hk,x⟩
end
end PU
namespace PU
open PySem PySem.Spec PyProof.Rows L2 PySem.SeqAt
variable[TW]
section
variable{P : LY}{w : Ly}{K : LC}{tg : Expr}
def Bq(K:LC)(d:Addr)(o:Obj)(kvs:List (Key×V)):It:=
 ⟨fun i H=>i<kvs.length/\AG K H d o kvs,fun i H x H'=>H'=H/\∃kv,kvs[i]?=some kv/\x=kV kv.1,fun i H=>i=kvs.length/\AG K H d o kvs⟩
theorem AG.kp{H H':Hp}{d:Addr}{o:Obj}{kvs:List (Key×V)}(k:Kp H H')(h:AG K H d o kvs):AG K H' d o kvs:=by
 rcases h with h | h
 ·exact .inl (k _ _ h rfl)
 ·exact .inr h
theorem CN{H:Hp}{d:Addr}{o:Obj}{kvs:List (Key×V)}{ks:List Key}(g:AG K H d o kvs)(e:kvs.map (·.1)=ks):ItP K (Bq K d o kvs) H (ks.map xo):=fun i H' k=>by
 subst e;refine⟨fun h=>⟨by simpa using h,g.kp k⟩,fun p ep=>?_⟩;rw[LR,LR] at ep;cases hk:kvs[i]? with
 | none=>rw[hk] at ep;cases ep
 | some kv=>
  rw[hk] at ep;cases ep;refine⟨⟨(Lw.mp hk).1,g.kp k⟩,fun x H2 ⟨eh,kv',e1,e2⟩=>?_⟩;rw[hk] at e1;cases e1;subst eh e2;exact⟨Same.refl _,zS kv.1⟩
theorem vC(d it:Addr)(o:Obj)(es:Array DictEntry)(ep:Nat)(ho:o.data=.dict es ep)(kvs:List (Key×V))(hw:w=TW.w):Turn P w K tg (Bq K d o kvs) [it] it (fun i h=>h.IsKeyIter it d i kvs.length ep) where
 mem:=by simp
 obj:=fun i h st b hb=>by
  have e:b=it:=by simpa using hb
  subst e;obtain⟨o,e,c,dd⟩:=st;exact⟨o,e,fun v z=>by rw[dd] at z;cases z⟩
 keep:=fun i h h' st k=>st.at fun o e=>k it (by simp) o e
 item:=by
  intro X hP hw hK hc i pins s σ H E I hf st hg;subst hP hw hK;obtain⟨hi,hq⟩:=hg;obtain⟨vs,rel,dat,_,_⟩:=hq.at hw I ho;have hl:kvs.length=vs.length:=MZ rel;obtain⟨f0,f1,f2,f3,f4,f5⟩:=hf it (by simp);have eg:vs[i]?=some vs[i]:=by simp[← hl,hi]
  have egk:kvs[i]?=some kvs[i]:=by simp[hi]
  obtain⟨hk1,hk2⟩:kvs[i].1=vs[i].1/\RelV kvs[i].2 vs[i].2:=uv rel egk eg;rw[hl] at st;refine wpAny_pyNext_dict_item st dat (k:=vs[i].1) (v:=vs[i].2) eg fun key h' hkey st' sb=>?_;have I1:Inv X pins σ H { s with heap:=h' }:=I.turned (t':=s.toks) (fun b o hb e=>(sb.2 b hb).trans e) f0 f1 f3 f4 f5;obtain⟨oi,e,c,dd⟩:=id st'
  have rk:RelV (kV kvs[i].1) key:=by
   rw[hk1];rcases aN hkey with⟨j,t,e1,e2⟩|⟨y,t,e1,e2⟩
   ·rw[e1,e2];exact⟨t,rfl⟩
   ·rw[e1,e2];exact⟨t,rfl⟩
  exact⟨key,rfl,xF (s:={ s with heap:=h' }) e c dd (by decide) ⟨kV kvs[i].1,H,I1,rk,⟨rfl,_,egk,rfl⟩,by rw[hl];exact st',fun b hb=>(hf b hb).1⟩⟩
 done:=by
  intro X hP hw hK hc i pins s σ H E I hf st hg;subst hP hw hK;obtain⟨hi,hq⟩:=hg;obtain⟨vs,rel,dat,_,_⟩:=hq.at hw I ho;have hl:kvs.length=vs.length:=MZ rel;obtain⟨f0,f1,f2,f3,f4,f5⟩:=hf it (by simp);rw[hl] at st;exact wpAny_pyNext_dict_end (I.ok.hd hc) st dat (by simp[← hl,hi]) fun h' eb=>⟨rfl,I.turned (t':=s.toks) (fun b o hb e=>eb b o hb e) f0 f1 f3 f4 f5⟩
 self:=fun _ _ _ _ _ st h=>wpAny_pyIter_keyiter st h
def yx(x:Str):It:=⟨fun i _=>i<x.cps.size,fun i H y H'=>H'=H/\∃c,x.cps[i]?=some c/\y=.str ⟨#[c]⟩,fun i _=>i=x.cps.size⟩
theorem zZ{H:Hp}{x:Str}:ItP K (yx x) H (fA x):=fun i H' k=>by
 refine⟨fun h=>show i=x.cps.size by simpa [fA] using h,fun p ep=>?_⟩;unfold fA at ep;rw[LR] at ep;cases hk:x.cps.toList[i]? with
 | none=>rw[hk] at ep;cases ep
 | some c=>
  rw[hk] at ep;cases ep;refine⟨show i<x.cps.size by simpa using (Lw.mp hk).1,fun y H2 ⟨eh,c',e1,e2⟩=>?_⟩
  have:c'=c:=by
   rw[Oa] at hk;rw[hk] at e1;exact(MK e1).symm
  subst this eh e2;exact⟨Same.refl _,rfl⟩
theorem oN{A:M3}(hh:A.handled=none)(it:Addr)(x:Str)(t:Sf):Walks P w A it [it] [it] x.cps.size (SignAt x) (fun i h=>h.IsStrIter it (OC x) x t i):=by
 unfold OC
 split
 ·exact Walks.strAscii hh it x t
 ·exact Walks.strWide hh it x t
theorem qM (x:Str):["enumerate","zip","dict_itemiterator","dict_reverseitemiterator","odict_iterator","itertools.zip_longest","itertools.pairwise"].contains (OC x)=false:=by
 unfold OC
 split <;> decide
theorem tZ(it:Addr)(x:Str)(t:Sf):Turn P w K tg (yx x) [it] it (fun i h=>h.IsStrIter it (OC x) x t i) where
 mem:=by simp
 obj:=fun i h st b hb=>by
  have e:b=it:=by simpa using hb
  subst e;obtain⟨o,e,c,dd⟩:=st;exact⟨o,e,fun v z=>by rw[dd] at z;cases z⟩
 keep:=fun i h h' st k=>by
  obtain⟨o,e,r⟩:=st;exact⟨o,k it (by simp) o e,r⟩
 item:=by
  intro X hP hw hK hc i pins s σ H E I hf st hg;subst hP hw hK;obtain⟨f0,f1,f2,f3,f4,f5⟩:=hf it (by simp);have W:=oN (P:=X.prog) (w:=X.w) (I.ok.hd hc) it x t;refine W.item i s _ _ hg st fun v h' tk hv st' kk=>?_;obtain⟨c,u,ec,rfl⟩:=hv;have I1:Inv X pins σ H { s with heap:=h',toks:=tk }:=I.turned (fun b o hb e=>kk b o (by simpa using hb) e) f0 f1 f3 f4 f5;obtain⟨oi,e,cc,dd⟩:=id st';exact⟨_,rfl,xF (s:={ s with heap:=h',toks:=tk }) e cc dd (qM x) ⟨.str ⟨#[c]⟩,H,I1,⟨u,rfl⟩,⟨rfl,c,ec,rfl⟩,st',fun b hb=>(hf b hb).1⟩⟩
 done:=by
  intro X hP hw hK hc i pins s σ H E I hf st hg;subst hP hw hK;obtain⟨f0,f1,f2,f3,f4,f5⟩:=hf it (by simp);have W:=oN (P:=X.prog) (w:=X.w) (I.ok.hd hc) it x t;have hg:i=x.cps.size:=hg;subst hg;refine W.done s _ _ st fun h' tk hk=>⟨rfl,I.turned (fun b o hb e=>hk b o (by simpa using hb) e) f0 f1 f3 f4 f5⟩
 self:=fun A i s Q E st h=>by
  unfold OC at st;split at st
  ·exact wpAny_pyIter_striter_ascii st h
  ·exact wpAny_pyIter_striter_wide st h
end
section
variable{C : Cn}{e tg : Expr}{f : PSt → R PV}
theorem gf(he:EV C e f)(hw:C.X.w=TW.w:=by rfl):EI C tg e (itF f):=by
 intro pins s σ H R I ⟨ρ,vw,q⟩;refine thn (he pins s σ H (fun v H'=>∃p ps,Same H H'/\Rep C.X.K H' p v/\jm p=some ps/\∀J H2,Same H' H2->ItP C.X.K J H2 ps->R J H2) I ⟨ρ,vw,q.bind.imp fun p _ k v H' s' r=>?_⟩) fun v s1 ⟨x,H1,I1,r1,p,ps,sm,rp,ep,k⟩=>?_
 ·obtain⟨ps,ep,k⟩:=k.ofO
  exact⟨p,ps,s',r,ep,fun J H2 s2 it=>k J H2 (s'.trans s2) it⟩
 ·cases p with
  | lst qs=>
   cases ep;obtain⟨a,xs,rfl,g,rr⟩:=rp;cases r1;obtain⟨its,rv,pl,hz⟩:=I1.list g.l.l;refine NP pl.isList ?_;refine⟨s1.heap.objs.size,[s1.heap.objs.size],_,_,H1,rfl,I1.kept (t':=s1.toks) fun b o e=>LH _ e,oP a _,⟨_,LN _ rfl,rfl,rfl⟩,fun b hb=>?_,k _ H1 (Same.refl H1) (CM g rr)⟩;have e:b=s1.heap.objs.size:=by simpa using hb
   subst e;exact I1.fpOk (LZ _) (I1.hok.fresh (LZ _))
  | tup qs=>
   cases ep;obtain⟨a,xs,rfl,g,rr⟩:=rp;cases r1;obtain⟨its,rv,pl,hz⟩:=I1.tuple g.sq;refine wpAny_pyIter_tuple (show s1.heap.IsTuple a its.toArray from pl) ?_;refine⟨s1.heap.objs.size,[s1.heap.objs.size],_,_,H1,rfl,I1.kept (t':=s1.toks) fun b o e=>LH _ e,tY a _,⟨_,LN _ rfl,rfl,rfl⟩,fun b hb=>?_,k _ H1 (Same.refl H1) (FR g.sq rr)⟩;have e:b=s1.heap.objs.size:=by simpa using hb
   subst e;exact I1.fpOk (LZ _) (I1.hok.fresh (LZ _))
  | dct ks qs=>
   cases ep;obtain⟨a,kvs,rfl,g,ek,rr⟩:=rp;cases r1
   obtain⟨o,es,ep,ho,hq,hs⟩:∃o es ep,o.data=.dict es ep/\AG C.X.K H1 a o kvs/\(a == Mb)=false:=by
    rcases g with⟨o,g⟩ | g
    ·obtain⟨e0,z,hs,vs,rel,o',es',ep',e1,x1,d1,rest⟩:=I1.hok a _ g
     rw[e0] at e1;cases e1;exact⟨o,es',ep',d1,.inl g,hs⟩
    ·obtain⟨_,hs,o,es,ep,e,x,d,r⟩:=id g
     exact⟨o,es,ep,d,.inr ⟨e,g⟩,hs⟩
   obtain⟨vs,rel,dat,_,_⟩:=hq.at hw I1 ho;have hl:kvs.length=vs.length:=MZ rel;refine wpAny_pyIter_dict hs dat ?_;refine⟨s1.heap.objs.size,[s1.heap.objs.size],_,_,H1,rfl,I1.kept (t':=s1.toks) fun b o e=>LH _ e,vC a _ o es ep ho kvs hw,⟨_,LN _ rfl,rfl,by rw[hl];rfl⟩,fun b hb=>?_,k _ H1 (Same.refl H1) (CN hq ek)⟩;have e:b=s1.heap.objs.size:=by simpa using hb
   subst e;exact I1.fpOk (LZ _) (I1.hok.fresh (LZ _))
  | str y=>
   cases ep;cases (show x=.str y from rp);obtain⟨t,rfl⟩:=r1;refine wpAny_pyIter_strU ?_;refine⟨s1.heap.objs.size,[s1.heap.objs.size],_,_,H1,rfl,I1.kept (t':=s1.toks) fun b o e=>LH _ e,tZ _ y t,⟨_,LN _ rfl,rfl,rfl⟩,fun b hb=>?_,k _ H1 (Same.refl H1) zZ⟩;have e:b=s1.heap.objs.size:=by simpa using hb
   subst e;exact I1.fpOk (LZ _) (I1.hok.fresh (LZ _))
  | _=>cases ep
end
end PU
namespace PU
open PySem PySem.Spec PyProof.Rows L2 PySem.SeqAt
variable[TW]
def Br (K:LC) (c:String):Prop:=∀t∈["NoneType","bool","int","str","tuple","list","dict"],PySem.W.kitOne K (.type t) (.type c)=some (FS t c)
theorem xx {K:LC}:Br K "str":=by intro t ht;simp only[LJ,Ln,or_false] at ht;rcases ht with rfl | rfl | rfl | rfl | rfl | rfl | rfl <;> first | rfl | kernel_rfl
theorem CO {K:LC}:Br K "int":=by intro t ht;simp only[LJ,Ln,or_false] at ht;rcases ht with rfl | rfl | rfl | rfl | rfl | rfl | rfl <;> first | rfl | kernel_rfl
theorem A3 {K:LC}:Br K "bool":=by intro t ht;simp only[LJ,Ln,or_false] at ht;rcases ht with rfl | rfl | rfl | rfl | rfl | rfl | rfl <;> first | rfl | kernel_rfl
theorem qb {K:LC}:Br K "tuple":=by intro t ht;simp only[LJ,Ln,or_false] at ht;rcases ht with rfl | rfl | rfl | rfl | rfl | rfl | rfl <;> first | rfl | kernel_rfl
theorem A1 {K:LC}:Br K "list":=by intro t ht;simp only[LJ,Ln,or_false] at ht;rcases ht with rfl | rfl | rfl | rfl | rfl | rfl | rfl <;> first | rfl | kernel_rfl
theorem A2 {K:LC}:Br K "dict":=by intro t ht;simp only[LJ,Ln,or_false] at ht;rcases ht with rfl | rfl | rfl | rfl | rfl | rfl | rfl <;> first | rfl | kernel_rfl
theorem CU{c:String}{p z:PV}(h:kJ c p=some z):z=.bl (FS (tyN p) c):=by
 cases p <;> cases h <;> rfl
def KA(K:LC)(c:String):List V->Hp->VK->Prop:=fun vs H Q=>∃v p,vs=[v,.ty c]/\aZ K H p v/\(kJ c p).isSome=true/\Q (.bl (FS (tyN p) c)) H
theorem KW {X:Cx} {c:String} (hw:X.w=TW.w) (h:Br X.K c):fU X (.builtin "isinstance") (KA X.K c):=by
 intro pins s σ H xs us Q I r ⟨v,p,e1,rp,hsm,q⟩;subst e1;obtain⟨u,u2,rfl,ru,ru2⟩:=vals2 r;cases (show u2=N8 c from ru2);have fin:∀tk,EP X pins σ Q (.bool (FS (tyN p) c)) { s with toks:=tk }:=fun tk=>⟨.bl _,H,I.tok _,rfl,q⟩;have hk:=fun t ht=>h t ht;cases p with
 | non=>cases (show v=.non from rp);cases ru;exact NZ PySem.W.kitx_none I.kIn Nl (hk _ (by simp[tyN])) (fun z=>nomatch z) fin
 | bl b=>cases (show v=.bl b from rp);cases ru;exact NZ PySem.W.kitx_bool I.kIn Nl (hk _ (by simp[tyN])) (fun z=>nomatch z) fin
 | int i=>cases (show v=.int i from rp);obtain⟨t,rfl⟩:=ru;exact NZ PySem.W.kitx_int I.kIn Nl (hk _ (by simp[tyN])) (fun z=>nomatch z) fin
 | str i=>cases (show v=.str i from rp);obtain⟨t,rfl⟩:=ru;exact NZ PySem.W.kitx_str I.kIn Nl (hk _ (by simp[tyN])) (fun z=>nomatch z) fin
 | tup ps=>
  obtain⟨a,ys,rfl,g,_⟩:=aZ.tup_inv rp;cases ru;obtain⟨its,_,⟨o,e,c',_⟩,_⟩:=I.tuple g;exact NZ PySem.W.kitx_tuple I.kIn ⟨o,e,c'⟩ (hk _ (by simp[tyN])) (fun z=>nomatch z) fin
 | lst ps=>
  obtain⟨a,ys,rfl,g,_⟩:=aZ.lst_inv rp;cases ru;obtain⟨_,its,n,_,e⟩:=g.is I;exact NZ PySem.W.kitx_list I.kIn ⟨_,e,rfl⟩ (hk _ (by simp[tyN])) (fun z=>nomatch z) fin
 | dct ks ps=>
  obtain⟨a,kvs,rfl,g,_⟩:=rp;cases ru;obtain⟨_,_,vs,_,o,es,ep,e,x,_⟩:=DkR.at hw I g;exact NZ SM I.kIn ⟨o,e,x.1⟩ (hk _ (by simp[tyN])) (fun z=>nomatch z) fin
 | dtt ks ps=>
  obtain⟨a,kvs,rfl,g,_⟩:=rp;cases ru;obtain⟨_,_,_,_,o,es,ep,e,x,_⟩:=An I.hok g;exact NZ SM I.kIn ⟨o,e,x.1⟩ (hk _ (by simp[tyN])) (fun z=>nomatch z) fin
 | fn L cs=>cases hsm
theorem kc {C:Cn} {e:Expr} {f:PSt->R PV} {c:Str} {cs:String} {p p2 pos:Nf} (h:Br C.X.K cs) (hg:Gl C.X "isinstance") (hm:C.X.mg "isinstance"=none) (hg2:Gl C.X c) (hm2:C.X.mg c=none) (hb2:N4 c=some (.type cs)) (ha:EO C e f)
  (hs:Ls [e,.Name c p2] C.X.env=[(false,Mu e C.X.env),(false,Mu (.Name c p2) C.X.env)]:=by exact nG rfl rfl) (hs2:Ls [.Name c p2] C.X.env=[(false,Mu (.Name c p2) C.X.env)]:=by rfl)
  (hn:c≠"__name__":=by decide) (hd:(c == ("__debug__":Str))=false:=by decide) (hw:C.X.w=TW.w:=by rfl):EV C (.Call (.Name "isinstance" p) [e,.Name c p2] [] pos) (un1 f (kJ cs)):=by
 intro pins s σ H Q I ⟨ρ,vw,q⟩;have hpa:PA C.X [e,.Name c p2] (yS (tO C f) (yS (tC (.ty cs)) Hz)):=cX ha (cX (Ci hg2 hm2 hb2 rfl hn hd) iz hs2) (by rw[hs,hs2]);refine sv (KW hw h) hg hm (by decide +kernel) hpa (by decide) (by decide) (by rw[hs,hs2]) (by rw[hs2];rfl) pins s σ H Q I ⟨ρ,vw,q.bind.imp fun p _ k v H1 s1 r1=>?_⟩;obtain⟨z,ez,k⟩:=RQ.ofO k;have hz:=CU ez;subst hz;exact⟨v,p,rfl,r1,by rw[ez];rfl,k _ H1 s1 rfl⟩
theorem cStr {X:Cx}:fU X (.type "str") (r1 X.K xG):=by
 intro pins s σ H xs us Q I r ⟨v,p,z,e1,rp,ez,k⟩;subst e1;cases p with
 | int i=>
  simp only[xG] at ez;split at ez
  ·rename_i hl
   cases ez;cases (show v=.int i from rp);exact qv pins s σ H _ us Q I r ⟨i,rfl,hl,k _ H (Same.refl H) rfl⟩
  ·cases ez
 | str x=>
  cases ez;cases (show v=.str x from rp);obtain⟨u,rfl,t,rfl⟩:=vals1 r;exact PySem.P.str_of_str ⟨.str x,H,I,⟨t,rfl⟩,k _ H (Same.refl H) rfl⟩
 | _=>cases ez
theorem xT{C:Cn}{e:Expr}{f:PSt->R PV}{pos:Nf}(h:EV C e f):EV C (.UnaryOp .USub e pos) (un1 f FX):=by
 intro pins s σ H Q I ⟨ρ,vw,q⟩;refine HV Es h pins s σ H Q I ⟨ρ,vw,q.bind.imp fun p _ k v H1 s1 r1=>?_⟩;obtain⟨z,ez,k⟩:=k.ofO;cases p with
 | int i=>cases ez;cases (show v=.int i from r1);exact⟨i,rfl,k _ H1 s1 rfl⟩
 | _=>cases ez
def rM1(K:LC)(g:PV->PV->Option PV):V->List V->Hp->VK->Prop:=fun v vs H Q=>∃p q z u,vs=[u]/\aZ K H p v/\aZ K H q u/\g p q=some z/\∀w H',Same H H'->Rep K H' z w->Q w H'
structure StrM(name:Str)(id:String):Prop where
 slot:Slot "str" name id
 ty:typeOf (.builtin id)=pure (.type "method_descriptor")
theorem mx{C:Cn}{o e:Expr}{fo fe:PSt->R PV}{g:PV->PV->Option PV}{name:Str}{id:String}{apos cpos:Nf}(S:StrM name id)(hm:MtR C.X id (rM1 C.X.K g))(ho:EV C o fo)(he:EO C e fe)
  (hbase:O0 o name C.X.env (Mu o C.X.env)=Mu o C.X.env:=by rfl) (hline:(apos.endLine == cpos.line)=true:=by rfl) (hs:Ls [e] C.X.env=[(false,Mu e C.X.env)]:=by exact bV rfl) :
  EV C (.Call (.Attribute o name apos) [e] [] cpos) (jh fo fe g):=by
 intro pins s σ H Q I ⟨ρ,vw,q⟩;refine zA RI S.slot S.ty hm ho (qq he hs) hbase (by rw[hs];rfl) hline hs (by rfl) pins s σ H Q I ⟨ρ,vw,q.bind.imp fun p _ k v H1 s1 r1=>?_⟩;cases p with
 | str x=>
  cases (show v=.str x from r1);have k:RQ C H (fe ρ >>= fun q=>R.ofO (g (.str x) q)) fun p=>∀v H',Same H H'->Rep C.X.K H' p v->Q v H':=k;refine⟨rfl,ρ,vw.same s1,(k.bind.same s1).imp fun p2 _ k2 u H2 s2 r2=>?_⟩;obtain⟨z,ez,k3⟩:=k2.ofO;exact⟨.str x,p2,z,u,rfl,rfl,r2,ez,fun w H3 s3 r3=>k3 w H3 ((s1.trans s2).trans s3) r3⟩
 | _=>exact LP k
theorem iw{K:LC}{H:Hp}:∀{ps:List PV}{xs:List V}{us:List LD}{ys:List Str},iG ps=some ys->aF K H ps xs->Vals xs us->Rz us ys
 | [],_,_,_,e,r,rv=>by cases e;cases r;cases rv;exact .nil
 | p::ps,_,_,_,e,⟨x,t,ex,h1,h2⟩,rv=>by
  subst ex;cases p with
  | str y=>
   obtain⟨r,er,ez⟩:=LV.mp (show (iG ps).map (y::·)=some _ from e);subst ez;cases (show x=.str y from h1);cases rv with
   | cons a b=>
    obtain⟨tt,rfl⟩:=a;exact .cons y tt (iw er h2 b)
  | _=>cases e
theorem BU:StrM "join" "str.join":=⟨PySem.F.slot_str_join,PySem.F.type_str_join⟩
theorem CA {X:Cx}:MtR X "str.join" (rM1 X.K lP):=by
 intro pins s σ H x xs v us Q I rx rs ⟨p,q,z,u,e1,rp,rq,ez,k⟩;subst e1;obtain⟨u',rfl,ru⟩:=vals1 rs;unfold lP at ez;split at ez
 ·rename_i y ps
  obtain⟨ys,ey,ez⟩:=LW.mp ez;split at ez
  ·rename_i hl
   cases ez;cases (show x=.str y from rp);obtain⟨t,rfl⟩:=rx;obtain⟨a,zs,rfl,g,rr⟩:=aZ.lst_inv rq;cases ru;obtain⟨_,its,n,rv,e⟩:=g.is I;exact join_list (items:=its.toArray) ⟨_,e,rfl,_,rfl⟩ (iw ey rr (by simpa using rv)) hl fun t' k'=>⟨.str _,H,I.tok _,⟨_,rfl⟩,k _ H (Same.refl H) rfl⟩
  ·cases ez
 ·rename_i y ps
  obtain⟨ys,ey,ez⟩:=LW.mp ez;split at ez
  ·rename_i hl
   cases ez;cases (show x=.str y from rp);obtain⟨t,rfl⟩:=rx;obtain⟨a,zs,rfl,g,rr⟩:=aZ.tup_inv rq;cases ru;obtain⟨its,rv,pl,_⟩:=I.tuple g;exact join_tuple (items:=its.toArray) pl (iw ey rr (by simpa using rv)) hl fun t' k'=>⟨.str _,H,I.tok _,⟨_,rfl⟩,k _ H (Same.refl H) rfl⟩
  ·cases ez
 ·cases ez
end PU
namespace PU
open PySem PySem.Spec PyProof.Rows L2 PySem.SeqAt
variable[TW]
def Kv(K:LC):V->Option Int->Option Int->Hp->VK->Prop:=fun v lo hi H Q=>∃p z,aZ K H p v/\gSl p lo hi=some z/\∀w H',Same H H'->Rep K H' z w->Q w H'
def tOI(C:Cn)(f:PSt->R (Option Int)):TO:=fun σ H Q=>∃ρ,View C.X.K H σ ρ/\RQ C H (f ρ) fun o=>∀H',Same H H'->Q o H'
def EOI(C:Cn)(e:Option Expr)(f:PSt->R (Option Int)):Prop:=PO C.X e (tOI C f)
theorem tu{K:LC}{H:Hp}{ps:List PV}{xs:List V}(r:aF K H ps xs)(lo hi:Option Int):aF K H (yi ps lo hi) (Ar xs lo hi):=by
 unfold yi Ar;rw[r.length];exact(r.drop _).take _
section
variable{C : Cn}{e : Expr}{f : PSt → R PV}{lo hi : Option Expr}{l h : PSt → R (Option Int)}{pos p2 : Nf}
theorem BL:EOI C none sH:=fun pins s σ H Q I ⟨ρ,vw,q⟩=>Ca pins s σ H Q I (q H (Same.refl H))
theorem qO(he:EV C e f):EOI C (some e) (vb f):=by
 intro pins s σ H Q I ⟨ρ,vw,q⟩;refine C9 he pins s σ H Q I ⟨ρ,vw,q.bind.imp fun p _ k v H1 s1 r1=>?_⟩;cases p with
 | int i=>cases (show v=.int i from r1);exact⟨i,rfl,k H1 s1⟩
 | _=>exact LP k
theorem slP{X:Cx}:SlR X (Kv X.K):=by
 intro pins s σ H x v vl vu lo hi sl Q I rx hs pl pu ⟨p,z,rp,ez,k⟩;cases p with
 | lst ps=>
  cases ez;obtain⟨a,xs,rfl,g,rr⟩:=aZ.lst_inv rp;obtain⟨T,id,h1,h2,h3⟩:=BM pins s σ H _ v vl vu lo hi sl (fun w H'=>∃b,w=.ref b/\H b=none/\H'=upd H b (.lst (Ar xs lo hi))) I rx hs pl pu ⟨a,xs,rfl,g.l,fun b hb=>⟨b,rfl,hb,rfl⟩⟩;refine⟨T,id,h1,h2,thn h3 fun u s' ⟨w,H',I',rw',b,ew,nb,eH⟩=>?_⟩;subst ew eH;obtain⟨H2,I2,rp2,oth⟩:=L2.Inv.frz (a:=b) (p:=.lst (yi ps lo hi)) I' ⟨_,ao,(tu rr lo hi).same (Same.new nb)⟩;refine⟨.ref b,H2,I2,rw',k _ H2 (.of fun c o ec=>?_) rp2⟩;have hc:=bB ec nb;rw[oth c hc,aw hc];exact ec
 | tup ps=>
  simp only[gSl] at ez;obtain⟨a,xs,rfl,g,rr⟩:=aZ.tup_inv rp
  by_cases hw:HT.sIx ps.length 0 lo=0/\HT.sIx ps.length ps.length hi=ps.length
  ·rw[if_pos hw] at ez
   cases ez
  ·rw[if_neg hw] at ez
   cases ez;exact Ez pins s σ H _ v vl vu lo hi sl Q I rx hs pl pu ⟨a,xs,rfl,g,by rw[← rr.length];exact hw,fun b hb=>k _ _ (Same.new hb) ⟨b,_,rfl,(.inl ao),(tu rr lo hi).same (Same.new hb)⟩⟩
 | _=>cases ez
theorem sX(ha:EO C e f)(hl:EOI C lo l)(hh:EOI C hi h):EV C (.Subscript e (.Slice lo hi none p2) pos) (p7 f l h):=by
 intro pins s σ H Q I ⟨ρ,vw,q⟩;refine zv slP ha hl hh pins s σ H Q I ⟨ρ,vw,q.bind.imp fun p _ k v H1 s1 r1=>⟨ρ,vw.same s1,(k.bind.same s1).imp fun o1 _ k2 H2 s2=>⟨ρ,(vw.same s1).same s2,(k2.bind.same (s1.trans s2)).imp fun o2 _ k3 H3 s3=>?_⟩⟩⟩;obtain⟨z,ez,k4⟩:=k3.ofO;exact⟨p,z,(r1.same s2).same s3,ez,fun w H4 s4 r4=>k4 w H4 (((s1.trans s2).trans s3).trans s4) r4⟩
end
theorem vG{C:Cn}{tg e:Expr}{f:PSt->R PV}{h:Tgt}{pos:Nf}(he:EV C e f)(hg:TGt C tg h)(hs:swapsWithSole [tg] e pos.line C.X.env=pure false:=by rfl)(hw:swappedStores [tg] e C.X.env=pure none:=by rfl)
  (h1:(NI [tg] C.X.env).map (·.2)=[QS tg C.X.env]:=by rfl):SV C (.Assign [tg] e pos) (GH f h):=by
 intro pins s σ H D I ⟨ρ,B,S,q⟩;refine EX he hg hs hw h1 pins s σ H D I ⟨ρ,S.vw,(q.bind S.same).imp fun p _ k v H1 s1 r1=>?_⟩;obtain⟨ρ',e1,k⟩:=RS.ofO k;exact⟨ρ,B,p,ρ',S.grow s1,r1,e1,fun σ' S'=>k σ' H1 S'⟩
theorem pw{K:LC}{H:Hp}{k:Key}{p:PV}{v:V}(rp:Rep K H p v):∀{kvs:List (Key×V)}{ps:List PV},aF K H ps (kvs.map (·.2))->aF K H (wb (kvs.map (·.1)) ps k p) ((kvs.map fun kv=>if kv.1=k then (kv.1,v) else kv).map (·.2))
 | [],ps,r=>by
  cases ps with
  | nil=>rfl
  | cons q qs=>obtain⟨x,t,e,_⟩:=r;cases e
 | kv::kvs,ps,r=>by
  cases ps with
  | nil=>cases r
  | cons q qs=>
   obtain⟨x,t,e,h1,h2⟩:=r;simp only[LQ,QV] at e;obtain⟨rfl,rfl⟩:=e;have ih:=pw (k:=k) rp h2;simp only[LQ,wb,Pk]
   by_cases hk:kv.1=k
   ·rw[if_pos hk,if_pos hk];exact⟨_,_,rfl,rp,ih⟩
   ·rw[if_neg hk,if_neg hk];exact⟨_,_,rfl,h1,ih⟩
theorem sj{K:LC}{H:Hp}{kvs:List (Key×V)}{ps:List PV}{k:Key}{p:PV}{v:V}(rr:aF K H ps (kvs.map (·.2)))(rp:Rep K H p v) :
  ∃ks' ps',ur (kvs.map (·.1)) ps k p=.dct ks' ps'/\(putK kvs k v).map (·.1)=ks'/\aF K H ps' ((putK kvs k v).map (·.2)):=by
 unfold ur;have e:((kvs.map (·.1)).any fun j=>decide (j=k))=(kvs.any fun kv=>decide (kv.1=k)):=by rw[Ou];rfl
 rw[e];unfold putK
 split
 ·refine⟨_,_,rfl,?_,pw rp rr⟩
  rw[M4];apply Ni;intro kv _;simp only[TV]
  split <;> rfl
 ·refine⟨_,_,rfl,by simp,?_⟩
  rw[MD];exact aF.append rr ⟨_,_,rfl,rp,rfl⟩
theorem wj{K:LC}{H:Hp}{a:Addr}{kvs:List (Key×V)}{ps:List PV}{k:Key}{p:PV}{v:V}(rr:aF K H ps (kvs.map (·.2)))(rp:Rep K H p v)(ha:H a=some (.dK (putK kvs k v))):cP K H a (ur (kvs.map (·.1)) ps k p):=by
 obtain⟨ks',ps',e,e1,e2⟩:=sj (k:=k) rr rp;rw[e];exact⟨_,ha,e1,e2⟩
theorem Ew{C:Cn}(i:Nat){x:Str}{ke e:Expr}{fk fv:PSt->R PV}{np pos' pos:Nf}(hu:C.X.A.units+64<cLine)(hk:EV C ke fk)(hv:EV C e fv)(hN:C.X.N[i]?=some x:=by rfl)(hvis:Vis C.X.env.scope x:=by first | exact Qu rfl | exact Qt (Qu rfl))
  (hs:OY e (some (.Subscript (.Name x np) ke pos')) pos.line C.X.env=pure false:=by rfl) (hd:(x == ("__debug__":Str))=false:=by decide) (hcd:(x == ("__classdict__":Str))=false:=by decide) :
  SV C (.Assign [.Subscript (.Name x np) ke pos'] e pos) (C7 i fk fv):=by
 intro pins s σ H D I ⟨ρ,B,S,q⟩;unfold C7 at q;split at q
 ·rename_i ks ps e1
  obtain⟨a,e2,kvs,hx,ek,rr⟩:=S.vw i _ e1;refine qT (by omega) (gI hN hvis hd hcd) hk hv hs pins s σ H D I ⟨ρ,S.vw,(q.bind S.same).imp fun p _ q1 v H1 s1 r1=>⟨_,e2,ρ,S.vw.same s1,(q1.bind (S.same.trans s1)).imp fun kp _ q2 y H2 s2 r2=>?_⟩⟩;obtain⟨k,e3,q3⟩:=RS.ofO q2
  by_cases hl:ks.length<16777216
  ·rw[if_pos hl] at q3
   have hy:=eG e3 r2.o;subst hy;subst ek;have hx2:H2 a=some (.dK kvs):=s2 _ _ (s1 _ _ hx);refine⟨a,_,rfl,DI.k hx2 (by rw[MJ];simpa using hl),?_⟩;have kp:Kp H2 (upd H2 a (.dK (putK kvs k v))):=Kp.upd hx2 rfl;refine q3 σ _ (((S.grow s1).grow s2).turn e1 e2 (fun b hb=>aw hb) ⟨a,rfl,?_⟩);exact wj (aF.kp kp _ ((rr.same s1).same s2)) (Rep.kp kp _ (r1.same s2)) ao
  ·rw[if_neg hl] at q3
   exact LP q3
 ·exact LP q
theorem xZ{C:Cn}{pos:Nf}:EN C (.Dict [] [] pos) newD:=fun pins s σ H Q I ⟨ρ,vw,q⟩=>zx pins s σ H Q I fun p hp=>q p _ (Same.new hp) hp ⟨[],ao,rfl,rfl⟩
def ky(K:LC)(H:Hp):List (Key×PV)->List (Key×V)->Prop
 | [],xs=>xs=[]
 | kp::r,xs=>∃v t,xs=(kp.1,v)::t/\Rep K H kp.2 v/\ky K H r t
theorem ky.kp{K:LC}{H H':Hp}(k:Kp H H'):∀{kps:List (Key×PV)}{xs:List (Key×V)},ky K H kps xs->ky K H' kps xs
 | [],_,h=>h
 | kp::r,_,⟨v,t,e,h1,h2⟩=>⟨v,t,e,Rep.kp k _ h1,ky.kp k h2⟩
def ED(C:Cn)(pos:Nf)(ks:List (Option Expr))(vs:List Expr)(f:PSt->R (List (Key×PV))):Prop:=∃trs,PPs C.X pos ks vs trs/\
 ∀σ H Q,(∃ρ,View C.X.K H σ ρ/\RQ C H (f ρ) fun kps=>∀kvs H',Same H H'->ky C.X.K H' kps kvs->Q (kvs.map fun kv=>(kV kv.1,kv.2)) H')->mF trs σ H Q
theorem G5{C:Cn}{pos:Nf}:ED C pos [] [] GN:=⟨[],wx,fun σ H Q ⟨ρ,vw,q⟩=>q [] H (Same.refl H) rfl⟩
theorem rH{C:Cn}{pos:Nf}{k v:Expr}{ks:List (Option Expr)}{vs:List Expr}{fk fv:PSt->R PV}{f:PSt->R (List (Key×PV))}(hk:EV C k fk)(hv:EV C v fv)(h:ED C pos ks vs f):ED C pos (some k::ks) (v::vs) (uR fk fv f):=by
 obtain⟨trs,hp,ht⟩:=h;refine⟨_,nU hk hv hp,fun σ H Q ⟨ρ,vw,q⟩=>⟨ρ,vw,q.bind.imp fun kp _ q1 x H1 s1 r1=>?_⟩⟩
 obtain⟨kk,ek,q1⟩:∃kk,gm kp=some kk/\RQ C H (fv ρ >>= fun p=>f ρ >>= fun r=>R.ok ((kk,p)::r)) _:=by
  cases h:gm kp with
  | none=>rw[h] at q1;exact LP q1
  | some kk=>rw[h] at q1;exact⟨kk,rfl,q1⟩
 refine⟨ρ,vw.same s1,(q1.bind.same s1).imp fun p _ q2 y H2 s2 r2=>ht σ H2 _ ⟨ρ,(vw.same s1).same s2,(q2.bind.same (s1.trans s2)).imp fun kps _ q3 kvs H3 s3 r3=>?_⟩⟩;have hx:=eG ek r1.o;subst hx;exact q3 ((kk,y)::kvs) H3 ((s1.trans s2).trans s3) ⟨y,kvs,rfl,r2.same s3,r3⟩
def GU(d:PV)(kp:Key×PV):PV:=match d with
 | .dct ks ps=>ur ks ps kp.1 kp.2
 | d=>d
theorem zL(kps:List (Key×PV)):pT kps=kps.foldl GU (.dct [] []):=rfl
theorem pS{K:LC}{H:Hp}:∀{kps:List (Key×PV)}{kvs acc:List (Key×V)}{ps:List PV},ky K H kps kvs->aF K H ps (acc.map (·.2))->
  ∃ks' ps',kps.foldl GU (PV.dct (acc.map (·.1)) ps)=PV.dct ks' ps'/\(fY acc kvs).map (·.1)=ks'/\aF K H ps' ((fY acc kvs).map (·.2))
 | [],kvs,acc,ps,h,r=>by cases h;exact⟨_,_,rfl,rfl,r⟩
 | kp::kps,kvs,acc,ps,⟨v,t,e,h1,h2⟩,r=>by
  subst e;obtain⟨ks',ps',g,g1,g2⟩:=sj (k:=kp.1) r h1;obtain⟨ks2,ps2,f,f1,f2⟩:=pS (acc:=putK acc kp.1 v) h2 g2;refine⟨ks2,ps2,?_,f1,f2⟩;rw[Qv]
  have:GU (PV.dct (acc.map (·.1)) ps) kp=PV.dct ((putK acc kp.1 v).map (·.1)) ps':=by
   show ur _ _ _ _=_;rw[g,g1]
  rw[this];exact f
theorem ky.length{K:LC}{H:Hp}:∀{kps:List (Key×PV)}{xs:List (Key×V)},ky K H kps xs->kps.length=xs.length
 | [],_,h=>by cases h;rfl
 | kp::r,_,⟨v,t,e,h1,h2⟩=>by subst e;simp[ky.length h2]
theorem Dg{C:Cn}{pos:Nf}{ks:List (Option Expr)}{vs:List Expr}{f:PSt->R (List (Key×PV))}(h:ED C pos ks vs f)(hall:ks.all (·.isSome)=true:=by rfl)(hl:ks.length=vs.length:=by rfl)(h0:ks≠[]:=by exact fun z=>nomatch z)
  (h15:ks.length<=15:=by decide):EN C (.Dict ks vs pos) (Ap f):=by
 obtain⟨trs,hp,ht⟩:=h;intro pins s σ H Q I ⟨ρ,vw,q⟩;refine wH hp hall hl h0 h15 pins s σ H Q I fun p hn=>ht σ _ _ ⟨ρ,vw.same (Same.new hn),(q.bind.same (Same.new hn)).imp fun kps _ q1 kvs H3 s3 r3=>?_⟩;have sm:Same H H3:=(Same.new hn).trans s3;have e3:H3 p=some (.dK []):=s3 _ _ ao
 by_cases hk:kps.length<=15
 ·rw[if_pos hk] at q1
  refine⟨e3,kvs,rfl,by rw[← r3.length];exact hk,?_⟩;have kp:Kp H3 (upd H3 p (.dK (fY [] kvs))):=Kp.upd e3 rfl;obtain⟨ks',ps',g,g1,g2⟩:=pS (acc:=[]) (ps:=[]) (ky.kp kp r3) aF.nil;refine q1 p _ (sm.but hn (fun u h=>by rw[e3] at h;cases h;rfl) (fun b hb=>aw hb)) hn ?_
  ·rw[zL]
   have g:kps.foldl GU (PV.dct [] [])=PV.dct ks' ps':=g;rw[g];exact⟨_,ao,g1,g2⟩
 ·rw[if_neg hk] at q1
  exact LP q1
end PU
namespace PU
open PySem PySem.Spec PyProof.Rows L2 PySem.SeqAt
variable[TW]
structure Con(K:LC)(mg:Str->Option LD)(x:Str)(c:PV):Prop where
 ex:∃v u,mg x=some u/\RelV v u/\∀H,Rep K H c v
theorem fG {C:Cn} {x:Str} {c:PV} {pos:Nf} (hg:Gl C.X x) (h:Con C.X.K C.X.mg x c) (hd:(x == ("__debug__":Str))=false:=by decide):EV C (.Name x pos) (kP c):=by
 obtain⟨v,u,hm,r,rp⟩:=h.ex;exact Dd hg hm r rp hd
def Bi(p:Params)(e:Str×Sf×LD):DictEntry:={ hash:=PyData.keyHash p e.1,key:=.str e.1 e.2.1,val:=e.2.2 }
omit [TW] in
theorem uG(w:Ly)(x:Str):PyData.keyHash w.params x=hashStr w x:=rfl
omit [TW] in
theorem mL{P:LY}{w:Ly}:∀(es:List (Str×Sf×LD)),Pairs (aj P w) (es.map (Bi w.params)) (es.map fun e=>((MU e.1:Key),e.2.2))
 | []=>.nil
 | e::es=>.cons (eT P w e.1 e.2.1) rfl (mL es)
omit [TW] in
theorem xl:∀{xs:List V}{es:List (Str×Sf×LD)},Vals xs (es.map (·.2.2))->KV ((es.map fun e=>(MU e.1:Key)).zip xs) (es.map fun e=>((MU e.1:Key),e.2.2))
 | [],[],_=>.nil
 | x::xs,e::es,r=>by
  cases r with
  | cons a b=>exact .cons ⟨rfl,a⟩ (xl b)
 | [],_::_,r=>by cases r
 | _::_,[],r=>by cases r
omit [TW] in
theorem con_dct{w:Ly}{tabs:List Addr}{qual:Nat->Nat->Str}{K:LC}{h:Heap}{mg:Str->Option LD}{x:Str}{a:Addr}{o:Obj}(es:List (Str×Sf×LD)){ep:Nat}{ps:List PV}{xs:List V}(X:K.In h)(G:h.Ns Lv mg)
  (n1:ME K Lv x=some (some (.ref a))) (n2:K.lookup a=some o) (n3:o={ cls:=.type "dict",data:=.dict (es.map (Bi w.params)).toArray ep }) (hs:(a == Mb)=false)
  (nd:(es.map (·.1)).Nodup) (hz:es.length<=sizeLine) (vals:Vals xs (es.map (·.2.2))) (reps:∀H,@aF ⟨w,tabs,qual⟩ K H ps xs):@Con ⟨w,tabs,qual⟩ K mg x (.dct (es.map fun e=>.inr e.1) ps):=by
 letI:TW:=⟨w,tabs,qual⟩
 have hl:xs.length=es.length:=by rw[vals.length,LI]
 have e1:((es.map fun e=>(MU e.1:Key)).zip xs).map (·.1)=es.map fun e=>.inr e.1:=List.map_fst_zip (by rw[LI];omega);have e2:((es.map fun e=>(MU e.1:Key)).zip xs).map (·.2)=xs:=List.map_snd_zip (by rw[LI];omega);refine⟨.ref a,_,OZ X G n1,rfl,fun H=>⟨a,(es.map fun e=>(MU e.1:Key)).zip xs,rfl,.inr ⟨?_,hs,o,_,_,n2,?_,by rw[n3],fun P=>⟨es.map fun e=>((MU e.1:Key),e.2.2),xl vals,?_,?_,?_⟩⟩,e1,by rw[e2];exact reps H⟩⟩
 ·rw[List.length_zip,LI,hl]
  omega
 ·rw[n3]
  exact⟨rfl,rfl,rfl⟩
 ·intro e he
  have he:e∈es.map (Bi w.params):=by simpa using he
  obtain⟨z,_,rfl⟩:=M8.mp he;exact⟨.inr z.1,eT P w z.1 z.2.1,uG w z.1⟩
 ·have e3:(es.map (Bi w.params)).toArray.toList=es.map (Bi w.params):=by simp
  rw[e3];exact mL (P:=P) (w:=w) es
 ·rw[M4]
  have:((·.1) ∘ fun e:Str×Sf×LD=>((MU e.1:Key),e.2.2))=MU ∘ (·.1):=rfl;rw[this,← M4];exact RB _ (fun a b hab e=>hab (Rm e)) nd
theorem ui{K:LC}{H:Hp}{a:Addr}{ns:List Int}(h:SqF K H a (ns.map V.int)):aF K H [.lst (ns.map .int)] [.ref a]:=by
 have:∀l:List Int,aF K H (l.map PV.int) (l.map V.int):=by
  intro l
  induction l with
  | nil=>rfl
  | cons x l ih=>exact⟨_,_,rfl,rfl,ih⟩
 exact⟨_,_,rfl,⟨a,_,rfl,h,this ns⟩,rfl⟩
end PU
namespace PU
open PySem PySem.Spec PyProof.Rows L2 PySem.SeqAt
theorem uF(t:NT)(es:Array (Int×LD))(h:Int)(x:LD):(layNew t es h x).2.1.led=t.led:=by
 unfold layNew
 split
 ·rename_i slot d _
  show ((t.put slot).1.orStandIn _).led=t.led;unfold Rx
  split <;> rfl
 ·rfl
theorem pY(t:NT)(es:Array (Int×LD))(h:Int)(x:LD)(hp:t.plain=false):(layNew t es h x).2.1.plain=false:=by
 unfold layNew
 split
 ·rename_i slot d _
  show ((t.put slot).1.orStandIn _).plain=false;unfold Rx
  split
  ·exact hp
  ·rfl
 ·rfl
theorem jY{t t':NT}{hs:Array Int}{n:Nat}{o:Array Nat}(e:t.relaid hs n=some (t',o)):t'.led=t.led/\t'.plain=t.plain:=by
 unfold SetTable.relaid SetTable.laid at e;cases hc:SetTable.layClean (SetTable.sizeAbove n-1) hs with
 | none=>rw[hc] at e;cases e
 | some w=>
  rw[hc] at e;cases e;exact⟨rfl,rfl⟩
theorem pA(t:NT)(es:Array (Int×LD))(n:Nat):(Q0 t es n).2.1.led=t.led:=by
 unfold Q0
 split
 ·rename_i t' order e
  dsimp only
  split
  ·exact(jY e).1
  ·rfl
 ·rfl
theorem mh(t:NT)(es:Array (Int×LD))(n:Nat)(hp:t.plain=false):(Q0 t es n).2.1.plain=false:=by
 unfold Q0
 split
 ·rename_i t' order e
  dsimp only
  split
  ·exact(jY e).2.trans hp
  ·rfl
 ·rfl
section
variable{P : LY}{w : Ly}{κ : Type}[DecidableEq κ]{kd : KeyKind P w κ}{A : M3}{E : LD → LG → Prop}{s : LG}
def yI(kd:KeyKind P w κ)(h:Heap)(a:Addr)(led:Bool)(S:κ->Bool)(n:Nat):Prop:=
 ∃o es ep t,h.get? a=some o/\o.ExactSet/\o.data=.set es ep t/\ElemsOf kd es.toList/\(∀k,S k=true ↔ ∃e∈es.toList,kd.is k e.2=true)/\es.size<scanBound/\t.fits es.size=true/\es.size=n/\t.led=led/\(1<=es.size->t.plain=false)
theorem wg{h:Heap}{a:Addr}{o:Obj}{es:Array (Int×LD)}{ep:Nat}{t:NT}(g:h.get? a=some o)(d:o.data=.set es ep t)(es':Array (Int×LD))(t':NT) :
  (h.update a (TH es' t')).get? a=some { o with data:=.set es' (ep+1) t' }:=by
 have:=N6 (TH es' t') g (by rw[putSet_of es' t' d];rfl);rw[putSet_of es' t' d] at this;exact this
theorem BO{a:Addr}{led:Bool}{S:κ->Bool}{n:Nat}{k:κ}{x:LD}{Q:Bool->LG->Prop}(hk:kd.is k x=true)(hx:x.scannable=true)(hv:plainKind x=false)(hS:yI kd s.heap a led S n)(hr:n+1<scanBound)
  (q:∀h',NB a s.heap h'->yI kd h' a led (fun k'=>S k' || decide (k'=k)) (if S k then n else n+1)->Q (!S k) { s with heap:=h' }):LO (Lz P w) A (setAddHashed a x (kd.hash k)) Q E s:=by
 obtain⟨o,es,ep,t,g,ex,d,el,mm,bb,ft,en,hl,hp⟩:=hS;have room:es.size+1<scanBound:=by rw[en];exact hr
 unfold setAddHashed setAddHashedIn;refine N3 (LA (O6 g d ft ?_));dsimp only;rw[byScan_of hx bb el];simp only[↓reduceIte];unfold setAddByScan;refine LA (LA (OV (LA (wpAny_setScan_of hk g d ft el ?_))));cases look:List.findIdx? (fun e=>kd.is k e.2) es.toList with
 | some j=>
  dsimp only;obtain⟨lj,pj,_⟩:=List.findIdx?_eq_some_iff_getElem.mp look;have yes:S k=true:=(mm k).mpr ⟨es.toList[j],MV lj,pj⟩;refine LF (LF ?_);have es0:s={ s with heap:=s.heap }:=by cases s;rfl
  have:=q s.heap (Heap.SameBut.refl a s.heap) ⟨o,es,ep,t,g,ex,d,el,fun k'=>by
   rw[Bool.or_eq_true,decide_eq_true_eq,← mm k'];exact⟨fun z=>z.elim id fun z=>z▸yes,.inl⟩,bb,ft,by rw[yes];exact en,hl,hp⟩
  rw[yes] at this;rw[es0];exact this
 | none=>
  dsimp only
  have no:S k=false:=by
   cases z:S k with
   | false=>rfl
   | true=>
    obtain⟨e,he,pe⟩:=(mm k).mp z;have:=List.findIdx?_eq_none_iff.mp look e he;rw[pe] at this;cases this
  have quiet:∀(b:Bool) {s1:LG} {Q':Unit->LG->Prop},Q' () s1->LO (Lz P w) A (match b with | true=>rule "set.scan.the-table-gave-way" | false=>pure ()) Q' E s1:=fun b s1 Q' z=>by
   cases b <;> first | exact LF z | exact OV z
  have pm:=layNew_perm t es (kd.hash k) x;have fi:=layNew_fits t es (kd.hash k) x;have ll:=uF t es (kd.hash k) x;have lp:=pY t es (kd.hash k) x;generalize layNew t es (kd.hash k) x=N at pm fi ll lp ⊢;obtain⟨es1,t1,dummy,gave⟩:=N;dsimp only at pm fi ll lp ⊢;rw[QW] at pm;have el1:ElemsOf kd es1.toList:=(el.push hk hx).perm pm;have mm1:∀k',(S k' || decide (k'=k))=true ↔ ∃e∈es1.toList,kd.is k' e.2=true:=mem_push_iff hk mm pm;have sz1:es1.size=n+1:=by rw[← M5,pm.length_eq,M1,M5,en];rfl
  have bb1:es1.size<scanBound:=by rw[sz1];exact hr
  refine LA (quiet _ ?_)
  have tail:∀t2:NT,t2.fits es1.size=true->t2.led=led->t2.plain=false->LO (Lz P w) A (do
     storeSet a es1 t2
     if (!dummy && t2.tooFull)=true then do
       (match (Q0 t2 es1 (Ng es1.size)).2.2 with | true=>rule "set.scan.the-table-gave-way" | false=>pure ())
       storeSet a (Q0 t2 es1 (Ng es1.size)).1 (Q0 t2 es1 (Ng es1.size)).2.1
       pure (some true)
      else pure (some true)) (fun r s'=>r=some true/\Q true s') E s:=by
   intro t2 f2 l2 p2;refine LA (wpAny_storeSet_of g d ?_ (fits_of_scanBound bb1));have g1:=wg g d es1 t2;have sb1:=OX s.heap a (TH es1 t2)
   have fin:∀h',NB a s.heap h'->yI kd h' a led (fun k'=>S k' || decide (k'=k)) es1.size->Q true { s with heap:=h' }:=fun h' sb hS'=>by
    have:=q h' sb;rw[no] at this;rw[sz1] at hS';exact this hS'
   split
   ·have pm2:=relayAll_perm t2 es1 (Ng es1.size)
    have fi2:=relayAll_fits t2 es1 (Ng es1.size);have ll2:=pA t2 es1 (Ng es1.size);have lp2:=mh t2 es1 (Ng es1.size) p2;generalize Q0 t2 es1 (Ng es1.size)=N2 at pm2 fi2 ll2 lp2 ⊢;obtain⟨es2,t3,gave2⟩:=N2;dsimp only at pm2 fi2 ll2 lp2 ⊢;have sz2:es2.size=es1.size:=by rw[← M5,pm2.length_eq,M5]
    refine LA (quiet _ (LA (wpAny_storeSet_of g1 rfl ?_ (fits_of_scanBound (by rw[sz2];exact bb1)))));refine LF ⟨rfl,fin _ (sb1.trans (OX _ a _)) ⟨_,es2,_,t3,wg g1 rfl es2 t3,ex,rfl,el1.perm pm2,fun k'=>(mm1 k').trans ⟨fun ⟨e,he,z⟩=>⟨e,pm2.mem_iff.mpr he,z⟩,fun ⟨e,he,z⟩=>⟨e,pm2.mem_iff.mp he,z⟩⟩,by rw[sz2];exact bb1,fi2,sz2,ll2.trans l2,fun _=>lp2⟩⟩
   ·exact LF ⟨rfl,fin _ sb1 ⟨_,es1,_,t2,g1,ex,rfl,el1,mm1,bb1,f2,rfl,l2,fun _=>p2⟩⟩
  split
  ·refine LA ?_
   rw[hashByValue_scannable 8 hx,hv];refine LF ?_;simp only[Mp,if_false];refine Mx (tail { t1 with plain:=false } (SetTable.fits_plain_off fi) (ll.trans hl) rfl) (fun r s' z=>?_) fun _ _ z=>z;obtain⟨rfl,z⟩:=z;exact LF z
  ·rename_i np
   refine LA (LF ?_);simp only[↓reduceIte];refine Mx (tail t1 fi (ll.trans hl) (by simpa using np)) (fun r s' z=>?_) fun _ _ z=>z;obtain⟨rfl,z⟩:=z;exact LF z
end
end PU
namespace PU
open PySem PySem.Spec PyProof.Rows L2 PySem.SeqAt
def rO(dd:List Str)(y:Str):List Str:=if y∈dd then dd else dd++[y]
def distinct(ys:List Str):List Str:=ys.foldl rO []
theorem va{dd:List Str}{y:Str}(h:dd.Nodup):(rO dd y).Nodup:=by
 unfold rO
 split
 ·exact h
 ·rename_i hn
  rw[NK];refine⟨h,by simp,fun a ha b hb e=>?_⟩;have:b=y:=by simpa using hb
  subst this;subst e;exact hn ha
theorem tP{dd:List Str}{y z:Str}:z∈rO dd y ↔ z∈dd\/z=y:=by
 unfold rO
 split
 ·rename_i h
  exact⟨.inl,fun k=>k.elim id fun e=>e▸h⟩
 ·simp
theorem oC(ys:List Str)(y:Str):distinct (ys++[y])=rO (distinct ys) y:=by simp[distinct,List.foldl_append]
theorem gD(ys:List Str):(distinct ys).Nodup/\(∀z,z∈distinct ys ↔ z∈ys)/\(distinct ys).length<=ys.length:=by
 have gen:∀(ys dd:List Str),dd.Nodup->(ys.foldl rO dd).Nodup/\(∀z,z∈ys.foldl rO dd ↔ z∈dd\/z∈ys)/\(ys.foldl rO dd).length<=dd.length+ys.length:=by
  intro ys
  induction ys with
  | nil=>intro dd h;exact⟨h,fun z=>by simp,by simp⟩
  | cons y ys ih=>
   intro dd h;obtain⟨h1,h2,h3⟩:=ih (rO dd y) (va h);refine⟨h1,fun z=>?_,?_⟩
   ·rw[Qv,h2 z,tP,LJ]
    exact or_assoc
   ·have:(rO dd y).length<=dd.length+1:=by
     unfold rO
     split <;> simp
    simp only[Qv,LS];omega
 obtain⟨h1,h2,h3⟩:=gen ys [] List.nodup_nil;exact⟨h1,fun z=>by simpa [distinct] using h2 z,by simpa [distinct] using h3⟩
section
variable{P : LY}{w : Ly}{A : M3}
def pU(dd:List Str):Key->Bool
 | .inr x=>decide (x∈dd)
 | .inl _=>false
theorem zN(dd:List Str)(y:Str):(fun k'=>pU dd k' || decide (k'=(MU y:Key)))=pU (rO dd y):=by
 funext k
 cases k with
 | inl i=>simp[pU]
 | inr x=>
  simp only[pU,Sum.inr.injEq];rw[Nc];simp[tP]
theorem Az(dd:List Str)(y:Str):(if pU dd (.inr y) then dd.length else dd.length+1)=(rO dd y).length:=by
 unfold rO pU
 by_cases h:y∈dd <;> simp[h]
theorem z4{R:TF->LG->Prop}{I:Addr}{fp wr:List Addr}{G:Array GenState->Array GenState->Prop}{n:Nat}{Pv:Nat->LD->Prop}{St:Nat->LG->Prop}(W:WalksS P w A.in1 I fp wr G n Pv St)(S:Addr)(led:Bool)(nS:S ∉ fp)(ys:List Str)
  (hn:ys.length=n) (hval:∀i v,Pv i v->∃y t,ys[i]?=some y/\v=.str y t) (hb:n+1<scanBound):∀(k i:Nat)(s:LG),n-i=k->i<=n->St i s->
   yI (aj P w) s.heap S led (pU (distinct (ys.take i))) (distinct (ys.take i)).length->
   (∀s',Moved (S::wr) G s s'->yI (aj P w) s'.heap S led (pU (distinct ys)) (distinct ys).length->R (.ok (.ret .none)) s')->
   P9 (Lz P w) A (.builtin "set.update.loop" ⟨[.ref S,.ref I],[]⟩) R s:=by
 have nW:S ∉ wr:=fun z=>nS (W.sub _ z);have more:∀b∈wr,b∈S::wr:=fun b z=>Lq _ z
 have keep:∀{s s':LG}{l:List Str},Moved wr G s s'->yI (aj P w) s.heap S led (pU l) l.length->yI (aj P w) s'.heap S led (pU l) l.length:=fun {s s' l} m hS=>by
  obtain⟨o,es,ep,t,g,r⟩:=hS;exact⟨o,es,ep,t,m.heap S _ nW g,r⟩
 intro k
 induction k with
 | zero=>
  intro i s ek hi st hS hR;have:i=n:=by omega
  subst this;rw[← hn,List.take_length] at hS;refine Ny PJ ?_;rw[Nx Np _];show LO _ A.in1 (Om (.ref I) >>= _) _ _ s;refine LA (W.done s _ _ st fun s' m=>?_);show LO _ A.in1 (ret Md) _ _ s';exact LF (hR s' (m.mono more) (keep m hS))
 | succ k ih=>
  intro i s ek hi st hS hR;have lt:i<n:=by omega
  refine Ny PJ ?_;rw[Nx Np _];show LO _ A.in1 (Om (.ref I) >>= _) _ _ s;refine LA (W.item i s _ _ lt st fun v s' pv st' m=>?_);obtain⟨y,t,ey,rfl⟩:=hval i v pv;have tk:ys.take (i+1)=ys.take i++[y]:=by rw[PC,ey];rfl
  show LO _ A.in1 (T6 [Os y t] (setAdd S (.str y t)) >>= _) _ _ s';refine LA (N3 ?_);unfold setAdd;refine N3 (LA ((aj P w).pyHash (k:=(MU y:Key)) (eT P w y t) ?_))
  have le:(distinct (ys.take i)).length+1<scanBound:=by
   have:=(gD (ys.take i)).2.2;rw[MS] at this;omega
  have hS1:=keep m hS;refine BO (kd:=aj P w) (s:={ s' with toks:=s'.toks+1 }) (eT P w y t) rfl rfl hS1 le fun h' sb hS2=>?_;rw[zN,Az,← oC,← tk] at hS2;refine LF ⟨Pp Np _,ih (i+1) _ (by omega) lt (W.frame _ s' _ _ st' (OR _) fun b hb o e=>?_) hS2 fun s'' m2 hS''=>?_⟩
  ·rw[sb.2 b fun z=>nS (z▸hb)]
   exact e
  ·refine hR s'' (Moved.trans W.gtrans ((m.mono more).then_heap (OR _) fun b o hb e=>?_) m2) hS''
   rw[sb.2 b fun z=>hb (by rw[z];exact Lp)];exact e
end
end PU
namespace PU
open PySem PySem.Spec PyProof.Rows L2 PySem.SeqAt
section
variable{P : LY}{w : Ly}{A : M3}{E : LD → LG → Prop}{s : LG}
theorem vJ:∀{vs:List LD}{ys:List Str},Rz vs ys->∀(i:Nat)(v:LD),vs[i]?=some v->∃y t,ys[i]?=some y/\v=.str y t
 | _,_,.nil,i,v,h=>by simp at h
 | _,_,.cons x t r,0,v,h=>by
  have:v=.str x t:=by simpa using h.symm
  exact⟨x,t,rfl,this⟩
 | _,_,.cons x t r,i+1,v,h=>by
  obtain⟨y,t',e1,e2⟩:=vJ r i v (by simpa using h);exact⟨y,t',by simpa using e1,e2⟩
abbrev CB (w:Ly):Bool:=!w.params.followText "set-order"
abbrev cg (w:Ly):Obj:={ cls:=.type "set",dict:=none,data:=.set #[] 0 (.fresh 0 0 (CB w)) }
theorem yZ (v:LD) {Q:LD->LG->Prop} (q:Q (.ref s.heap.objs.size) { s with heap:=s.heap.push (cg w) }):P9 (Lz P w) A (.call (.builtin "set.__new__") ⟨[.type "set",v],[]⟩) (wants Q E) s:=by
 refine Ro ?_;show LO _ A.in1 (do checkBuiltinCall "set.__new__" ⟨[.type "set",v],[]⟩;again (.builtin "set.__new__" ⟨[.type "set",v],[]⟩)) _ _ s;refine LA (QO (PySem.F.newCall_set_1 v) (LF ⟨Pp Rc _,Ny PySem.F.entry_set_new ?_⟩));rw[Nx Rc _];unfold Builtin.«set.__new__»;unfold Builtin.Frozenset.newClass;have selfSub:=sub_set_self;obtain⟨h0,g0,d0,t0,o0⟩:=s;dsimp only
 wp_walk
 refine OK (LF ?_);dsimp only;simp only[newObj];exact LA (wpAny_alloc (LF (LF q)))
set_option maxHeartbeats 16000000 in
theorem z6{l:Addr}{its:Array LD}{ys:List Str}{Q:LD->LG->Prop}(hh:A.handled=none)(hl:s.heap.IsList l its)(hi:Rz its.toList ys)(hb:its.size+1<scanBound)
  (q:∀(h':Heap)(tk:Nat),yI (aj P w) h' s.heap.objs.size (CB w) (pU (distinct ys)) (distinct ys).length->(∀b o,b<s.heap.objs.size->s.heap.get? b=some o->h'.get? b=some o)->s.heap.objs.size<h'.objs.size->Q (.ref s.heap.objs.size) { s with heap:=h',toks:=tk }) :
  LO (Lz P w) A (call (.type "set") [.ref l]) Q E s:=by
 obtain⟨c,tl,hmro⟩:=N5.mro;have hmade:=N5.made;have hsub:=N5.sub;refine wpAny_call (Ro ?_);show LO _ _ (callAny (.type "set") _) _ _ _;refine LF ⟨Code.quiet_builtin _ (by decide +kernel),Ny SS ?_⟩;rw[SU (weight_type_call_type "set" [.ref l] []) rfl];have u1:=N5.notType;have u2:=N5.canCreate;have u3:=PySem.F.typeCall_set_1 (.ref l)
 repeat (any_goals (first | assumption | wp_step))
 refine Oe (yZ (.ref l) (E:=E) (Q:=fun obj s1=>obj=.ref s.heap.objs.size/\s1={ s with heap:=s.heap.push (cg w) }) ⟨rfl,rfl⟩) fun r s1 hr=>?_;cases r with
 | error e=>exact hr
 | ok fl=>
  cases fl with
  | ret obj=>
   obtain⟨rfl,rfl⟩:=hr;have gS:(s.heap.push (cg w)).get? s.heap.objs.size=some (cg w):=LN _ rfl;have tS:Shared.TypeIs { s with heap:=s.heap.push (cg w) } (.ref s.heap.objs.size) "set":=⟨_,gS,rfl⟩;have i1:=N5.init.lookup;have i2:=N5.init.bind (.ref s.heap.objs.size)
   repeat (any_goals (first | assumption | wp_step))
   refine Oe (QR (R:=wants (fun r s2=>r=.none/\∃h' tk,s2={ s with heap:=h',toks:=tk }/\yI (aj P w) h' s.heap.objs.size (CB w) (pU (distinct ys)) (distinct ys).length/\
     (∀b o,b<s.heap.objs.size->s.heap.get? b=some o->h'.get? b=some o)/\s.heap.objs.size<h'.objs.size) E) N5.init.plain PySem.F.entry_set_init (check_set_init_1 tS ?_)) fun r2 s2 hr2=>?_
   ·obtain⟨ol,gl,cl,nl,dl⟩:=hl
    obtain⟨oc,od,oa,os'⟩:=ol;simp only at cl dl;subst cl;subst dl;have gl':(s.heap.push (cg w)).get? l=some { cls:=.type "list",dict:=od,data:=.seq its nl,slots:=os' }:=LH _ gl;have v1:=PySem.F.sub_list_set;have v2:=PySem.F.sub_list_frozenset;have v3:(N8 "list" == N8 "dict")=false:=by decide
    have isl:(s.heap.push (cg w)).IsList l its:=⟨_,gl',rfl,nl,rfl⟩;unfold Builtin.«set.__init__» noKeywords;unfold Builtin.Frozenset.updateFrom;generalize hPI:T4=PI
    wp_walk
    subst hPI;refine NP isl (LA (wpAny_runValue ?_));have lS:l<s.heap.objs.size:=LM gl;have hh3:A.in1.in1.in1.handled=none:=by simp[hh]
    have nI:l≠(s.heap.push (cg w)).objs.size:=by
     rw[MC];exact Lo (N0 lS)
    have nS:s.heap.objs.size ∉ [(s.heap.push (cg w)).objs.size,l]:=by
     rw[MC];simp only[LJ,Ln,or_false,not_or];exact⟨Lo (Nk _),ML lS⟩
    have len:ys.length=its.size:=by rw[← hi.length,M5]
    refine z4 ((Sd hh3 _ l nI its).toS) s.heap.objs.size (CB w) nS ys len ?hval hb (its.size-0) 0 _ (by omega) (Mr _) ⟨⟨_,LN _ rfl,rfl,rfl⟩,(isl.push _)⟩ ?hS0 ?hR
    case hval=>
     intro i v hv;exact vJ hi i v (by rw[Oa];exact hv)
    case hS0=>
     refine⟨cg w,#[],0,_,LH _ gS,⟨rfl,rfl,rfl⟩,rfl,fun e he=>by simp at he,fun k=>?_,by decide,rfl,rfl,rfl,fun z=>absurd z (by decide)⟩;cases k <;> simp[pU,distinct]
    case hR=>
     intro s' m hS';obtain⟨h',g',d',tk',os'⟩:=s';have eg:g'=s.gens:=m.gens;have ed:d'=s.drawn:=m.drawn;have eo:os'=s.os:=m.os;subst eg;subst ed;subst eo;refine LF ?_;show LO _ _ (ret Md) _ _ _;refine LF ⟨rfl,h',tk',rfl,hS',fun b o hb e=>?_,?_⟩
     ·have b1:b≠s.heap.objs.size:=Lo hb
      have b2:b≠(s.heap.push (cg w)).objs.size:=by
       rw[MC];exact Lo (N0 hb)
      exact m.heap b o (by simp only[LJ,Ln,or_false,not_or];exact⟨b1,b2⟩) (LH _ (LH _ e))
     ·obtain⟨o,es,ep,t,g,_⟩:=hS'
      exact LM g
   ·cases r2 with
    | error e=>exact hr2
    | ok fl2=>
     cases fl2 with
     | ret r=>
      obtain⟨rfl,h',tk,rfl,z1,z2,z3⟩:=hr2
      repeat (any_goals (first | assumption | wp_step))
      exact q _ _ z1 z2 z3
     | _=>exact hr2.elim
  | _=>exact hr.elim
end
end PU
namespace PU
open PySem PySem.Spec PyProof.Rows L2 PySem.SeqAt
theorem cS:Slot "set_iterator" "__next__" "set_iterator.__next__":=.of (owner:="set_iterator") (n:="__next__") (by rw[typeLookup_type,builtinLookup_eq_fast];kernel_rfl) (by decide +kernel) (by decide +kernel) (by decide +kernel) (by first | exact .inl (by decide +kernel) | exact .inr (by decide +kernel)) (by rw[QQ];kernel_rfl)
theorem cK:Slot "set_iterator" "__iter__" "set_iterator.__iter__":=.of (owner:="set_iterator") (n:="__iter__") (by rw[typeLookup_type,builtinLookup_eq_fast];kernel_rfl) (by decide +kernel) (by decide +kernel) (by decide +kernel) (by first | exact .inl (by decide +kernel) | exact .inr (by decide +kernel)) (by rw[QQ];kernel_rfl)
theorem kK:entryFor table "set_iterator.__next__"=some Builtin.«set_iterator.__next__»:=entryFor_of_fast (by kernel_rfl)
theorem gC:entryFor table "set_iterator.__iter__"=some Builtin.«dict_keyiterator.__iter__»:=entryFor_alias (id':="dict_keyiterator.__iter__") (by kernel_rfl) rfl (by decide +kernel) (by kernel_rfl)
theorem oJ (a:LD):T8 "set_iterator.__next__" ⟨[a],[]⟩:=by unfold T8;kernel_rfl
theorem ik (a:LD):T8 "set_iterator.__iter__" ⟨[a],[]⟩:=by unfold T8;kernel_rfl
theorem qp:entryFor table "set.__iter__"=some Builtin.«frozenset.__iter__»:=entryFor_alias (id':="frozenset.__iter__") (by kernel_rfl) rfl (by decide +kernel) (by kernel_rfl)
abbrev kn (first:LD) (i:Nat) (a:Addr) (n ep:Nat):Obj:={ cls:=.type "set_iterator",dict:=none,data:=.fields #[first,.int i 0,.ref a,.int n 0,.int ep 0],slots:=#[] }
section
variable{P : LY}{w : Ly}{A : M3}{E : LD → LG → Prop}{s : LG}{it a T : Addr}{i n ep : Nat}
theorem jX{α:Type}:∀(l:List α)(j:Nat)(h:j<l.length),(l[j]::l.eraseIdx j).Perm l
 | x::l,0,_=>.rfl
 | x::l,j+1,h=>by
  have h':j<l.length:=by simpa using h
  have:=jX l j h';show (l[j]::x::l.eraseIdx j).Perm (x::l);exact(List.Perm.swap _ _ _).trans (this.cons x)
theorem uW{src:Source}{m:Nat}{Q:Nat->LG->Prop}(hm:m≠0)(h:∀j,j<m->∀d,Q j { s with drawn:=d }):LO (Lz P w) A (choose src m) Q E s:=fun _ _ _=>⟨hm,h _ (Nat.mod_lt _ (Nat.pos_of_ne_zero hm)) _⟩
theorem tj{α:Type}:∀(m:Nat)(xs:List α)(s:LG)(Q:List α->LG->Prop),xs.length=m->(∀ys d,ys.Perm xs->Q ys { s with drawn:=d })->LO (Lz P w) A (drawOrder m xs) Q E s
 | 0,[],s,Q,_,h=>by
  unfold drawOrder;exact LF (h [] s.drawn .nil)
 | m+1,x::xs,s,Q,hl,h=>by
  unfold drawOrder;refine LA (uW (by simp) fun j hj d=>?_);rw[LU hj];refine LA (tj m ((x::xs).eraseIdx j) _ _ (by rw[SX,if_pos hj];simp at hl ⊢;omega) fun ys d' hp=>?_);refine LF (h _ d' ?_);exact(hp.cons _).trans (jX _ j hj)
 | 0,_::_,_,_,h,_=>by simp at h
 | _+1,[],_,_,h,_=>by simp at h
theorem eJ (h:s.heap.get? it=some (kn T' i a n ep)):s.TypeIs (.ref it) "set_iterator":=⟨_,h,rfl⟩
theorem BN{o:Obj}{es:Array (Int×LD)}{t:NT}{places:List Nat}{ot:Obj}{kt p:Nat}{hx:Int}{x:LD}{Q:Option LD->LG->Prop}(hit:s.heap.get? it=some (kn (.ref T) i a n ep))(gT:s.heap.get? T=some ot)(dT:ot.data=.seq (places.map fun (j:Nat)=>OD j).toArray kt)
  (gS:s.heap.get? a=some o) (dS:o.data=.set es ep t) (ft:t.fits es.size=true) (en:es.size=n) (hp:places[i]?=some p) (he:es[p]?=some (hx,x)) (q:∀h',h'.get? it=some (kn (.ref T) (i+1) a n ep)->NB it s.heap h'->Q (some x) { s with heap:=h' }) :
  LO (Lz P w) A (Om (.ref it)) Q E s:=by
 unfold Om;refine LA (Oo (Ma (name:=LB "__next__") (eJ hit) cS (MF cS (eJ hit) kK ?_ (oJ _))));show LO _ _ (fieldsOf (.ref it) >>= _) _ _ s;refine LA (QP hit rfl ?_);show LO _ _ (S7 a >>= _) _ _ s;refine LA (OO gS dS ft ?_);rw[if_neg (by rw[en];simp)];show LO _ _ (Sn (.ref T) >>= _) _ _ s;refine LA (Mv gT dT ?_);have e1:(places.map fun (j:Nat)=>OD j).toArray[((i:Nat):Int).toNat]?=some (OD p):=by simp[hp]
 simp only[e1];show LO _ _ (setNextDrawn a ((p:Int).toNat) ((ep:Int).toNat) >>= _) _ _ s;unfold setNextDrawn;refine LA (LA (O6 gS dS ft ?_));dsimp only;rw[if_neg (by simp)];have e2:es[((p:Nat):Int).toNat]?=some (hx,x):=by simpa using he
 simp only[e2];refine LF (LA (Mi hit (by simp) fun h' g' sb=>LF ⟨x,rfl,LF (q h' ?_ sb)⟩));rw[g'];simp[OD]
theorem EB{o:Obj}{es:Array (Int×LD)}{t:NT}{places:List Nat}{ot:Obj}{kt:Nat}{Q:Option LD->LG->Prop}(hh:A.handled=none)(hit:s.heap.get? it=some (kn (.ref T) i a n ep))(gT:s.heap.get? T=some ot)(dT:ot.data=.seq (places.map fun (j:Nat)=>OD j).toArray kt)
  (gS:s.heap.get? a=some o) (dS:o.data=.set es ep t) (ft:t.fits es.size=true) (en:es.size=n) (hp:places[i]?=none) (q:∀h',SR it s.heap h'->Q none { s with heap:=h' }) :
  LO (Lz P w) A (Om (.ref it)) Q E s:=by
 unfold Om;refine LA (Oo (Ma (name:=LB "__next__") (eJ hit) cS (MF cS (eJ hit) kK ?_ (oJ _))));show LO _ _ (fieldsOf (.ref it) >>= _) _ _ s;refine LA (QP hit rfl ?_);show LO _ _ (S7 a >>= _) _ _ s;refine LA (OO gS dS ft ?_);rw[if_neg (by rw[en];simp)];show LO _ _ (Sn (.ref T) >>= _) _ _ s;refine LA (Mv gT dT ?_);have e1:(places.map fun (j:Nat)=>OD j).toArray[((i:Nat):Int).toNat]?=none:=by simpa using hp
 simp only[e1];refine LA (Mi hit (by simp) fun h1 g1 sb1=>LA (Mi g1 (by simp) fun h2 g2 sb2=>LA ?_));simp only[newExc,newTuple];refine LA (MO (LA (m:=Od _ _) (QO (a:=Md) (by simp only[Od];rfl) (MO ?_ (by size_fits)))) (by size_fits));simp only[raiseNew];refine LA (SZ ?_);rw[show A.in1.handled=none from hh];refine LA (LF (wpAny_throw ?_));refine LA ?_;refine Na (b:=true) (T:="StopIteration") ⟨_,LN _ rfl,rfl⟩ S9 ?_;exact LF (q _ (((sb1.trans sb2).extBut.push _).push _))
end
end PU
namespace PU
open PySem PySem.Spec PyProof.Rows L2 PySem.SeqAt
section
variable{P : LY}{w : Ly}{A : M3}{E : LD → LG → Prop}{s : LG}{it a : Addr}{i n ep slot : Nat}
def Tells(P:LY)(w:Ly)(s:LG)(a:Addr)(slot i ep:Nat)(r:Option (LD×Nat)):Prop:=∀(A:M3)(E:LD->LG->Prop)(Q:Option (LD×Nat)->LG->Prop),Q r s->LO (Lz P w) A (Sz a slot i ep) Q E s
theorem vO{o:Obj}{es:Array (Int×LD)}{t:NT}{x:LD}{nx:Nat}{Q:Option LD->LG->Prop}(hit:s.heap.get? it=some (kn (.int slot 0) i a n ep))(gS:s.heap.get? a=some o)(dS:o.data=.set es ep t)(ft:t.fits es.size=true)(en:es.size=n)
  (hN:Tells P w s a slot i ep (some (x,nx))) (q:∀h',h'.get? it=some (kn (.int nx 0) (i+1) a n ep)->NB it s.heap h'->Q (some x) { s with heap:=h' }):LO (Lz P w) A (Om (.ref it)) Q E s:=by
 unfold Om;refine LA (Oo (Ma (name:=LB "__next__") (eJ hit) cS (MF cS (eJ hit) kK ?_ (oJ _))));show LO _ _ (fieldsOf (.ref it) >>= _) _ _ s;refine LA (QP hit rfl ?_);show LO _ _ (S7 a >>= _) _ _ s;refine LA (OO gS dS ft ?_);rw[if_neg (by rw[en];simp)];show LO _ _ (Sz a ((slot:Int).toNat) ((i:Int).toNat) ((ep:Int).toNat) >>= _) _ _ s;refine LA (hN _ _ _ ?_);refine LA (Mi hit (by simp) fun h1 g1 sb1=>LA (Mi g1 (by simp) fun h2 g2 sb2=>LF ⟨x,rfl,LF (q h2 ?_ (sb1.trans sb2))⟩));rw[g2];simp[OD]
theorem AN{o:Obj}{es:Array (Int×LD)}{t:NT}{Q:Option LD->LG->Prop}(hh:A.handled=none)(hit:s.heap.get? it=some (kn (.int slot 0) i a n ep))(gS:s.heap.get? a=some o)(dS:o.data=.set es ep t)(ft:t.fits es.size=true)(en:es.size=n)
  (hN:Tells P w s a slot i ep none) (q:∀h',SR it s.heap h'->Q none { s with heap:=h' }):LO (Lz P w) A (Om (.ref it)) Q E s:=by
 unfold Om;refine LA (Oo (Ma (name:=LB "__next__") (eJ hit) cS (MF cS (eJ hit) kK ?_ (oJ _))));show LO _ _ (fieldsOf (.ref it) >>= _) _ _ s;refine LA (QP hit rfl ?_);show LO _ _ (S7 a >>= _) _ _ s;refine LA (OO gS dS ft ?_);rw[if_neg (by rw[en];simp)];show LO _ _ (Sz a ((slot:Int).toNat) ((i:Int).toNat) ((ep:Int).toNat) >>= _) _ _ s;refine LA (hN _ _ _ ?_);refine LA (Mi hit (by simp) fun h1 g1 sb1=>LA ?_);simp only[newExc,newTuple];refine LA (MO (LA (m:=Od _ _) (QO (a:=Md) (by simp only[Od];rfl) (MO ?_ (by size_fits)))) (by size_fits));simp only[raiseNew];refine LA (SZ ?_);rw[show A.in1.handled=none from hh];refine LA (LF (wpAny_throw ?_));refine LA ?_;refine Na (b:=true) (T:="StopIteration") ⟨_,LN _ rfl,rfl⟩ S9 ?_;exact LF (q _ ((sb1.extBut.push _).push _))
theorem mD {o:Obj} {es:Array (Int×LD)} {t:NT} (hw:w.params.followText "set-order"=true) (gS:s.heap.get? a=some o) (dS:o.data=.set es ep t) (ft:t.fits es.size=true) :
  Tells P w s a slot i ep (((PH (w.params.setOrder a ep) es)[i]?).map fun e=>(e.2,slot)):=fun A E Q q=>by
 unfold Sz;refine LA (O6 gS dS ft ?_);dsimp only;unfold S6;refine LA (LA (OK (LF ?_)));rw[if_pos (by exact hw),if_neg (by simp)];unfold setWalk;refine LA (LA (O6 gS dS ft ?_));dsimp only;unfold S6;refine LA (LA (OK (LF ?_)));rw[if_pos (by exact hw)];refine LA (OK (LF (LF q)))
theorem kQ {o:Obj} {es:Array (Int×LD)} {t:NT} (hw:w.params.followText "set-order"=false) (gS:s.heap.get? a=some o) (dS:o.data=.set es ep t) (ft:t.fits es.size=true) (led:t.led=true) (hz:es.size<=1) :
  Tells P w s a slot i ep (match es[ON t.place slot]?,t.place[ON t.place slot]? with | some (_,x),some j=>some (x,j+1) | _,_=>none):=fun A E Q q=>by
 unfold Sz;refine LA (O6 gS dS ft ?_);dsimp only;unfold S6;refine LA (LA (OK (LF ?_)));rw[if_neg (by show ¬ w.params.followText "set-order"=true;rw[hw];simp)];rw[if_neg (by show ¬ (!t.plain && decide (es.size > 1))=true;simp;omega)];refine LA ?_;show LO _ _ (if (!t.led && !es.isEmpty)=true then _ else _) _ _ s;rw[if_neg (by rw[led];simp)];exact LF (LF q)
end
end PU
namespace PU
open PySem PySem.Spec PyProof.Rows L2 PySem.SeqAt
theorem wC{α:Type}(next:Nat->Nat):∀(fuel k:Nat)(left:List α)(out:Array α),left.length=fuel->(Qy next fuel k left out).toList.Perm (out.toList++left)
 | 0,k,left,out,h=>by
  have:left=[]:=Mc h;subst this;unfold Qy;simp
 | fuel+1,k,left,out,h=>by
  have hp:next k % left.length<left.length:=Nat.mod_lt _ (by omega);unfold Qy;rw[LU hp];dsimp only;refine(wC next fuel (k+1) _ _ (by rw[SX,if_pos hp];omega)).trans ?_;rw[QW,Nd];exact List.Perm.append_left _ (jX left _ hp)
theorem wB{α:Type}(next:Nat->Nat)(xs:Array α):(PH next xs).toList.Perm xs.toList:=by
 unfold PH;simpa using wC next xs.size 0 xs.toList #[] (by simp)
section
variable{P : LY}{w : Ly}{A : M3}{E : LD → LG → Prop}{s : LG}{a : Addr}{n ep : Nat}{o : Obj}{es : Array (Int×LD)}{t : NT}
theorem pL{t:NT}(h:t.place.size=1):∃j,t.place=#[j]:=by
 obtain⟨m,pl,d,f,l,mv,p⟩:=t;obtain⟨ls⟩:=pl
 match ls,h with
 | [j],_=>exact⟨j,rfl⟩
theorem qL{it T:Addr}(hne:it≠a)(hT:it≠T)(dS:o.data=.set es ep t)(ft:t.fits es.size=true)(en:es.size=n){places:List Nat}{ot:Obj}{kt:Nat}(dT:ot.data=.seq (places.map fun (j:Nat)=>OD j).toArray kt)(vs:List LD)(hl:vs.length=places.length)
  (hv:∀(i:Nat)(v:LD),vs[i]?=some v->∃(p:Nat)(hx:Int),places[i]?=some p/\es[p]?=some (hx,v)) (hh:A.handled=none) :
  Walks P w A it [it,a,T] [it] vs.length (fun i v=>vs[i]?=some v) (fun i h=>h.get? it=some (kn (.ref T) i a n ep)/\h.get? a=some o/\h.get? T=some ot) where
 sub:=fun b hb=>by simp at hb;simp[hb]
 frame:=fun i h h' st k=>⟨k it (by simp) _ st.1,k a (by simp) _ st.2.1,k T (by simp) _ st.2.2⟩
 item:=fun i s Q E hi st q=>by
  have ev:vs[i]?=some vs[i]:=by simp[hi]
  obtain⟨p,hx,e1,e2⟩:=hv i _ ev;refine BN st.1 st.2.2 dT st.2.1 dS ft en e1 e2 fun h' g' sb=>q _ h' s.toks ev ⟨g',(sb.2 a (NG hne)).trans st.2.1,(sb.2 T (NG hT)).trans st.2.2⟩ fun b ob hb e=>(sb.2 b (by simpa using hb)).trans e
 done:=fun s Q E st q=>EB hh st.1 st.2.2 dT st.2.1 dS ft en (by simp[hl]) fun h' eb=>q h' s.toks fun b ob hb e=>eb b ob (by simpa using hb) e
 self:=fun i s Q E st q=>by
  have hT:s.TypeIs (.ref it) "set_iterator":=eJ st.1;refine Pg hT cK (MF cK hT gC ?_ (ik _));show LO _ _ (ret (.ref it)) _ _ s;exact LF ⟨_,rfl,"set_iterator",_,hT,cS.lookup,q⟩
theorem tU {it:Addr} (hne:it≠a) (dS:o.data=.set es ep t) (ft:t.fits es.size=true) (en:es.size=n) (hw:w.params.followText "set-order"=true) (hh:A.handled=none) :
  Walks P w A it [it,a] [it] ((PH (w.params.setOrder a ep) es).toList.map (·.2)).length (fun i v=>((PH (w.params.setOrder a ep) es).toList.map (·.2))[i]?=some v) (fun i h=>h.get? it=some (kn (.int 0 0) i a n ep)/\h.get? a=some o) where
 sub:=fun b hb=>by simp at hb;simp[hb]
 frame:=fun i h h' st k=>⟨k it (by simp) _ st.1,k a (by simp) _ st.2⟩
 item:=fun i s Q E hi st q=>by
  have hi':i<(PH (w.params.setOrder a ep) es).size:=by simpa using hi
  have tl:=mD (P:=P) (s:=s) (slot:=0) (i:=i) hw st.2 dS ft;rw[Ms hi'] at tl;have st1:s.heap.get? it=some (kn (.int ((0:Nat):Int) 0) i a n ep):=st.1;refine vO st1 st.2 dS ft en tl fun h' g' sb=>q _ h' s.toks ?_ ⟨g',(sb.2 a (NG hne)).trans st.2⟩ fun b ob hb e=>(sb.2 b (by simpa using hb)).trans e;rw[LR,Oa,Ms hi'];rfl
 done:=fun s Q E st q=>by
  have tl:=mD (P:=P) (s:=s) (slot:=0) (i:=((PH (w.params.setOrder a ep) es).toList.map (·.2)).length) hw st.2 dS ft;rw[Pf (by simp)] at tl;have st1:s.heap.get? it=some (kn (.int ((0:Nat):Int) 0) ((PH (w.params.setOrder a ep) es).toList.map (·.2)).length a n ep):=st.1;exact AN hh st1 st.2 dS ft en tl fun h' eb=>q h' s.toks fun b ob hb e=>eb b ob (by simpa using hb) e
 self:=fun i s Q E st q=>by
  have hT:s.TypeIs (.ref it) "set_iterator":=eJ st.1;refine Pg hT cK (MF cK hT gC ?_ (ik _));show LO _ _ (ret (.ref it)) _ _ s;exact LF ⟨_,rfl,"set_iterator",_,hT,cS.lookup,q⟩
theorem qC(j k:Nat):ON #[j] k=if j<k then 1 else 0:=by
 unfold ON;simp only[M0,LS,Pu];unfold Pj
 by_cases h:j<k
 ·simp[h,Pj]
 ·simp[h,Pj]
theorem qK {it:Addr} (hne:it≠a) (dS:o.data=.set es ep t) (ft:t.fits es.size=true) (en:es.size=n) (hw:w.params.followText "set-order"=false) (led:t.led=true) (hz:es.size<=1) (hh:A.handled=none) :
  Walks P w A it [it,a] [it] (es.toList.map (·.2)).length (fun i v=>(es.toList.map (·.2))[i]?=some v) (fun i h=>(∃slot:Nat,h.get? it=some (kn (.int slot 0) i a n ep)/\(i=0->slot=0)/\(1<=i->∀j,t.place=#[j]->slot=j+1))/\h.get? a=some o) where
 sub:=fun b hb=>by simp at hb;simp[hb]
 frame:=fun i h h' st k=>by
  obtain⟨⟨slot,g,r⟩,g2⟩:=st;exact⟨⟨slot,k it (by simp) _ g,r⟩,k a (by simp) _ g2⟩
 item:=fun i s Q E hi st q=>by
  obtain⟨⟨slot,g,r1,r2⟩,g2⟩:=st;have hi:i<es.size:=by simpa using hi
  have i0:i=0:=by omega
  subst i0;have s0:=r1 rfl;subst s0;have e1:es.size=1:=by omega
  have pz:t.place.size=1:=by
   unfold TC at ft;rw[e1] at ft;simp at ft;exact ft.1
  obtain⟨j,ej⟩:=pL pz;have tl:=kQ (P:=P) (s:=s) (slot:=0) (i:=0) hw g2 dS ft led hz;have b0:ON t.place 0=0:=by rw[ej,qC];simp
  have ee:es[0]?=some es[0]:=by simp[e1]
  have ep0:t.place[0]?=some j:=by rw[ej];rfl
  rw[b0,ee,ep0] at tl;refine vO g g2 dS ft en tl fun h' g' sb=>q _ h' s.toks ?_ ⟨⟨j+1,g',fun z=>absurd z (by simp),fun _ j' e'=>?_⟩,(sb.2 a (NG hne)).trans g2⟩ fun b ob hb e=>(sb.2 b (by simpa using hb)).trans e
  ·simp[e1]
  ·rw[ej] at e'
   cases e';rfl
 done:=fun s Q E st q=>by
  obtain⟨⟨slot,g,r1,r2⟩,g2⟩:=st;have tl:=kQ (P:=P) (s:=s) (slot:=slot) (i:=(es.toList.map (·.2)).length) hw g2 dS ft led hz
  have nn:es[ON t.place slot]?=none:=by
   have pz:t.place.size=es.size:=by
    unfold TC at ft;simp at ft;exact ft.1
   by_cases e0:es.size=0
   ·rw[Pf (by omega)]
   ·have e1:es.size=1:=by omega
    obtain⟨j,ej⟩:=pL (pz.trans e1);have:=r2 (by simp[e1]) j ej;rw[this,ej,qC,if_pos (by omega),Pf (by omega)]
  rw[nn] at tl;exact AN hh g g2 dS ft en tl fun h' eb=>q h' s.toks fun b ob hb e=>eb b ob (by simpa using hb) e
 self:=fun i s Q E st q=>by
  obtain⟨⟨slot,g,_⟩,_⟩:=st;have hT:s.TypeIs (.ref it) "set_iterator":=eJ g;refine Pg hT cK (MF cK hT gC ?_ (ik _));show LO _ _ (ret (.ref it)) _ _ s;exact LF ⟨_,rfl,"set_iterator",_,hT,cS.lookup,q⟩
end
end PU
namespace PU
open PySem PySem.Spec PyProof.Rows L2 PySem.SeqAt
section
variable{P : LY}{w : Ly}{A : M3}{E : LD → LG → Prop}{s : LG}{a : Addr}{ep : Nat}{o : Obj}{es : Array (Int×LD)}{t : NT}
theorem qX{ps:List Nat}(hp:ps.Perm (M9 es.size)):(ps.map fun p=>((es[p]?).map (·.2)).getD .none).Perm (es.toList.map (·.2)):=by
 refine(hp.map _).trans ?_
 have:((M9 es.size).map fun p=>((es[p]?).map (·.2)).getD Md)=es.toList.map (·.2):=by
  apply TR;intro i
  by_cases h:i<es.size
  ·simp[h]
  ·simp[h]
 rw[this]
theorem z5{Q:LD->LG->Prop}(gS:s.heap.get? a=some o)(ex:o.ExactSet)(dS:o.data=.set es ep t)(ft:t.fits es.size=true)(hz:es.size<=sizeLine)(led:t.led=CB w)(pl:1<=es.size->t.plain=false)
  (q:∀(it:Addr)(fp:List Addr)(vs:List LD)(St:Nat->Heap->Prop)(h':Heap)(d:Drawn),s.heap.objs.size<=it->(∀b∈fp,b=a\/s.heap.objs.size<=b/\b<h'.objs.size)->vs.Perm (es.toList.map (·.2))->(∀A':M3,A'.handled=none->Walks P w A' it fp [it] vs.length (fun i v=>vs[i]?=some v) St)->
   St 0 h'->(∀b ob,s.heap.get? b=some ob->h'.get? b=some ob)->Q (.ref it) { s with heap:=h',drawn:=d }):LO (Lz P w) A (T4 (.ref a)) Q E s:=by
 have tS:s.TypeIs (.ref a) "set":=⟨o,gS,ex.1⟩;refine Pg tS Ra (MF Ra tS qp ?_ (PySem.F.args_set_iter_1 _));show LO _ _ (Q9 a >>= _) _ _ s;unfold Q9;refine LA (LA (OO gS dS ft (LF ?_)));unfold setDrawn;refine LA (LA (O6 gS dS ft ?_));dsimp only;unfold S6;refine LA (LA (OK (LF (LF ?_))));have aS:a<s.heap.objs.size:=LM gS
 by_cases hw:w.params.followText "set-order"=true
 ·-- by the text
  rw[if_neg (by show ¬ (!w.params.followText "set-order" && _)=true;rw[hw];simp)];refine LA (LF (LA (Qx gS dS ft (LA (MO (LF ⟨_,rfl,"set_iterator",_,⟨_,LN _ rfl,rfl⟩,cS.lookup,?_⟩))))));refine q s.heap.objs.size [s.heap.objs.size,a] _ _ _ s.drawn (LZ _) (fun b hb=>?_) ((wB _ es).map _) (fun A' hh=>tU (n:=es.size) (ML aS) dS ft rfl hw hh) ⟨LN _ rfl,LH _ gS⟩ fun b ob e=>LH _ e;rcases LJ.mp hb with rfl | hb
  ·exact .inr ⟨LZ _,by rw[MC];exact Nk _⟩
  ·exact .inl (by simpa using hb)
 ·have hw:w.params.followText "set-order"=false:=by simpa using hw
  by_cases h2:es.size > 1
  ·-- drawn
   have hpl:=pl (by omega);rw[if_pos (by show (!w.params.followText "set-order" && (!t.plain && decide (es.size > 1)))=true;rw[hw,hpl];simpa using h2)];refine LA (tj es.size (M9 es.size) _ _ (by simp) fun ps d hp=>?_);have lp:ps.length=es.size:=by rw[hp.length_eq];simp
   have tok:Heap.IsTuple (s.heap.push { cls:=.type "tuple",data:=.seq (ps.map fun (j:Nat)=>OD j).toArray }) s.heap.objs.size (ps.map fun (j:Nat)=>OD j).toArray:=⟨_,LN _ rfl,rfl,_,rfl⟩;refine LA (wpAny_newTuple (s:={ s with drawn:=d }) ?_);have gS2:(s.heap.push { cls:=.type "tuple",data:=.seq (ps.map fun (j:Nat)=>OD j).toArray }).get? a=some o:=LH _ gS;refine LA (Qx gS2 dS ft (LA (MO (LF ⟨_,rfl,"set_iterator",_,⟨_,LN _ rfl,rfl⟩,cS.lookup,?_⟩))))
   refine q _ [(s.heap.push { cls:=.type "tuple",data:=.seq (ps.map fun (j:Nat)=>OD j).toArray }).objs.size,a,s.heap.objs.size] _ _ _ d (by rw[MC];exact OR _) (fun b hb=>?_) (qX hp)
    (fun A' hh=>qL (n:=es.size) (T:=s.heap.objs.size) (by rw[MC];exact ML (N0 aS)) (by rw[MC];exact ML (Nk _)) dS ft rfl rfl _ (by simp) (fun i v hv=>?_) hh)
    ⟨LN _ rfl,LH _ gS2,LH _ (LN _ rfl)⟩ fun b ob e=>LH _ (LH _ e)
   ·simp only[LJ,Ln,or_false] at hb
    rcases hb with rfl | rfl | rfl
    ·exact .inr ⟨by rw[MC];exact OR _,by simp only[MC];exact Nk _⟩
    ·exact .inl rfl
    ·exact .inr ⟨LZ _,by simp only[MC];exact N0 (Nk _)⟩
   ·rw[LR] at hv
    cases e:ps[i]? with
    | none=>rw[e] at hv;cases hv
    | some p=>
     rw[e] at hv;have mp:p∈M9 es.size:=hp.mem_iff.mp (O3 e);have lt:p<es.size:=by simpa using mp
     refine⟨p,es[p].1,rfl,?_⟩;have hv:((es[p]?).map (·.2)).getD Md=v:=MK hv;rw[Ms lt] at hv ⊢;rw[← hv];rfl
  ·-- one,or none
   rw[if_neg (by show ¬ (!w.params.followText "set-order" && (!t.plain && decide (es.size > 1)))=true;simp;intro _ _;omega)];refine LA (LF (LA (Qx gS dS ft (LA (MO (LF ⟨_,rfl,"set_iterator",_,⟨_,LN _ rfl,rfl⟩,cS.lookup,?_⟩))))));refine q s.heap.objs.size [s.heap.objs.size,a] _ _ _ s.drawn (LZ _) (fun b hb=>?_) .rfl (fun A' hh=>qK (n:=es.size) (ML aS) dS ft rfl hw (by rw[led];show (!w.params.followText "set-order")=true;rw[hw];rfl) (by omega) hh) ⟨⟨0,LN _ rfl,fun _=>rfl,fun z=>absurd z (by simp)⟩,LH _ gS⟩ fun b ob e=>LH _ e;rcases LJ.mp hb with rfl | hb
   ·exact .inr ⟨LZ _,by rw[MC];exact Nk _⟩
   ·exact .inl (by simpa using hb)
end
end PU
namespace PU
open PySem PySem.Spec PyProof.Rows L2 PySem.SeqAt
theorem oR:isSubtype (.type "set") (.type "set")=pure true:=by rw[QQ];kernel_rfl
section
variable{P : LY}{w : Ly}{A : M3}{E : LD → LG → Prop}{s : LG}{a : Addr}{ep : Nat}{o : Obj}{es : Array (Int×LD)}{t : NT}
theorem rK{Q:List LD->LG->Prop}(hh:A.handled=none)(gS:s.heap.get? a=some o)(ex:o.ExactSet)(dS:o.data=.set es ep t)(ft:t.fits es.size=true)(hz:es.size<=sizeLine)(led:t.led=CB w)(pl:1<=es.size->t.plain=false)
  (q:∀(vs:List LD)(h':Heap)(d:Drawn)(tk:Nat),vs.Perm (es.toList.map (·.2))->(∀b ob,s.heap.get? b=some ob->h'.get? b=some ob)->s.heap.objs.size<=h'.objs.size->Q vs { s with heap:=h',drawn:=d,toks:=tk }):LO (Lz P w) A (collect (.ref a)) Q E s:=by
 have aS:a<s.heap.objs.size:=LM gS;unfold collect;refine LA (wpAny_runValue (Ny PySem.F.entry_proto_collect ?_));rw[Nx PySem.F.plain_proto_collect _];show LO _ A.in1 (do again (.builtin "list.__iadd__" ⟨[← T5 [],.ref a],[]⟩)) _ _ s;refine LA (wpAny_newList (LF ⟨Pp R7 _,Ny PySem.F.entry_list_iadd ?_⟩));rw[Nx R7 _];show LO _ A.in1 (ND (.ref s.heap.objs.size) (.ref a) (.ref s.heap.objs.size)) _ _ _;unfold ND;generalize eH:s.heap.push { cls:=.type "list",data:=.seq ([]:List LD).toArray }=H0;have zH:H0.objs.size=s.heap.objs.size+1:=by rw[← eH,MC]
 have kH:∀b ob,s.heap.get? b=some ob->H0.get? b=some ob:=fun b ob e=>eH▸LH _ e;have gL:H0.get? s.heap.objs.size=some { cls:=.type "list",data:=.seq ([]:List LD).toArray }:=eH▸LN _ rfl;have gS':H0.get? a=some o:=kH a o gS;refine LA (Q7 (T:="set") ⟨o,gS',ex.1⟩ ?_)
 have r1:QY (.ref s.heap.objs.size) (.ref a)=false:=by
  show (s.heap.objs.size == a)=false;simpa using ML aS
 have r2:(N8 "set" == N8 "list")=false:=by decide
 have r3:(N8 "set" == N8 "tuple")=false:=by decide
 simp only[r1,r2,r3,OJ,Mp,if_false];refine LA (z5 (s:={ s with heap:=H0 }) gS' ex dS ft hz led pl fun it fp vs St h' d hit hfp hp W st0 keep=>?_);have gS2:h'.get? a=some o:=keep a o gS';have gL2:h'.get? s.heap.objs.size=some { cls:=.type "list",data:=.seq ([]:List LD).toArray }:=keep _ _ gL;have hit:s.heap.objs.size+1<=it:=by rw[← zH];exact hit
 have nL:s.heap.objs.size ∉ fp:=fun z=>by
  rcases hfp _ z with e | ⟨e,_⟩
  ·exact absurd e (ML aS)
  ·have e:H0.objs.size<=s.heap.objs.size:=e
   omega
 refine LA (N3 ?_);unfold QI;refine LA (OT (T:="set") (v:=.ref a) ⟨o,gS2,ex.1⟩ PySem.F.slot_set_len.lookup ?_)
 wp_delta
 refine LA (Na (T:="set") (v:=.ref a) (b:=true) ⟨o,gS2,ex.1⟩ oR ?_);show LO _ A.in1 (typeOf (Mn a) >>= _) _ _ _;refine LA (Q7 (T:="set") (v:=.ref a) ⟨o,gS2,ex.1⟩ (LF ?_));rw[if_pos (by decide)];refine LA (OV (LA ?_));unfold Qh;refine LA (P3 gL2 rfl ?_ (Mr _) (by show 1<=_;rw[MJ];decide));have g3:=N6 (Mm (·.push Md)) gL2 rfl;refine P3 g3 rfl ?_ (by show 1<=_;rw[MJ];decide) (Mr _);have g4:=N6 (Mm (·.pop)) g3 rfl
 have k4:∀b ob,b≠s.heap.objs.size->h'.get? b=some ob->((h'.update s.heap.objs.size (Mm (·.push Md))).update s.heap.objs.size (Mm (·.pop))).get? b=some ob:=fun b ob hb e=>
  (NQ _ _ (NG hb)).trans ((NQ _ _ (NG hb)).trans e)
 generalize (h'.update s.heap.objs.size (Mm (·.push Md))).update s.heap.objs.size (Mm (·.pop))=h4 at g4 k4 ⊢;have lv:vs.length<=sizeLine:=by rw[hp.length_eq,LI,M5];exact hz
 have st4:St 0 h4:=(W A.in1.in1 hh).frame 0 h' h4 st0 fun b hb ob e=>k4 b ob (fun z=>nL (z▸hb)) e;refine LF ⟨Pp Qs _,codeAny_extend_loopS (W A.in1 hh).toS lv _ nL _ vs.length 0 _ _ _ rfl (Mr _) st4 g4 (ItemsOf.nil _) fun s' acc c m gA it'=>?_⟩;show LO _ A (load s.heap.objs.size >>= _) _ _ s';refine LA (wpAny_load gA ?_)
 have ea:acc.toList=vs:=by
  apply TR;intro j;obtain⟨i1,i2⟩:=it'
  by_cases hj:j<acc.size
  ·have:=i2 j acc[j] (by simp[hj])
   rw[this];simp[hj]
  ·rw[MQ (by simpa using hj),MQ (by omega)]
 obtain⟨h5,g5,d5,t5,o5⟩:=s';have eg:g5=s.gens:=m.gens;have ed:d5=d:=m.drawn;have eo:o5=s.os:=m.os;subst eg;subst ed;subst eo;show LO _ A (pure acc.toList) _ _ _;rw[ea];refine LF (q vs h5 d5 t5 hp (fun b ob e=>m.heap b ob (fun hb=>?_) (k4 b ob (Lo (LM e)) (keep b ob (kH b ob e)))) (Ow (LM gA)));have lt:=LM e;rcases LJ.mp hb with z | z
 ·exact absurd lt (z▸Mk _)
 ·rw[NA.mp z] at lt
  exact absurd lt (Oi.mpr (Nat.le_of_succ_le hit))
end
end PU
namespace PU
open PySem PySem.Spec PyProof.Rows L2 PySem.SeqAt
theorem vL{a b:Str}(h:a.cps.toList=b.cps.toList):a=b:=by
 cases a with | mk x=>cases b with | mk y=>
 congr 1
 exact Array.toList_inj.mp h
theorem gx(x:Str):∀(l:List Str)(z:Str),z∈kF x l ↔ z=x\/z∈l
 | [],z=>by simp[kF]
 | y::r,z=>by
  unfold kF
  split
  ·rename_i e;subst e;simp
  ·split
   ·simp
   ·simp only[LJ,gx x r z]
    constructor
    ·rintro (h | h | h) <;> simp[h]
    ·rintro (h | h | h) <;> simp[h]
theorem lL(x:Str):∀(l:List Str),l.Pairwise (fun a b=>a.cps.toList<b.cps.toList)->(kF x l).Pairwise (fun a b=>a.cps.toList<b.cps.toList)
 | [],_=>by simp[kF]
 | y::r,h=>by
  have h0:=Mo.mp h;unfold kF
  split
  ·exact h
  ·rename_i ne
   split
   ·rename_i lt
    refine Mo.mpr ⟨fun z hz=>?_,h⟩;rcases LJ.mp hz with e | hz
    ·subst e;exact lt
    ·exact List.lt_trans lt (h0.1 z hz)
   ·rename_i nl
    refine Mo.mpr ⟨fun z hz=>?_,lL x r h0.2⟩;rcases (gx x r z).mp hz with e | hz
    ·subst e
     rcases Decidable.em (y.cps.toList<z.cps.toList) with c | c
     ·exact c
     ·exact absurd (vL (Ql (PD.mp c) (PD.mp nl))) ne
    ·exact h0.1 z hz
theorem rZ:∀(ys:List Str),(cN ys).Pairwise (fun a b=>a.cps.toList<b.cps.toList)/\∀z,z∈cN ys ↔ z∈ys
 | []=>⟨Px,fun z=>Iff.rfl⟩
 | y::ys=>by
  obtain⟨h1,h2⟩:=rZ ys;refine⟨lL y _ h1,fun z=>?_⟩;show z∈kF y (cN ys) ↔ _;rw[gx,h2,LJ]
theorem pF:∀(d ss:List Str),d.Nodup->(∀x∈d,x∈ss)->ss.length<=d.length->ss.Perm d
 | [],ss,_,_,h=>by
  cases ss with
  | nil=>exact List.Perm.refl _
  | cons a r=>simp at h
 | a::d,ss,nd,hm,hl=>by
  have ha:a∈ss:=hm a (Lp ..);have hp:=List.perm_cons_erase ha;have nd':=M7.mp nd;refine hp.trans (List.Perm.cons a (pF d (ss.erase a) nd'.2 (fun x hx=>?_) ?_))
  ·exact(List.mem_erase_of_ne (fun e=>nd'.1 (by rw[← e];exact hx))).mpr (hm x (Lq _ hx))
  ·have:=hp.length_eq
   simp only[LS] at this hl;omega
theorem pq:∀(l:List Str),sortedS l=true->l.Pairwise (fun a b=>a.cps.toList<=b.cps.toList)
 | [],_=>Px
 | [x],_=>List.pairwise_singleton _ _
 | x::y::r,h=>by
  have h:(!ltCps y.cps.toList x.cps.toList && risingS y r)=true:=h;rw[M6,Qb,ltCps_eq,decide_eq_false_iff_not] at h;have ih:=pq (y::r) h.2;refine Mo.mpr ⟨fun z hz=>?_,ih⟩;rcases LJ.mp hz with e | hz
  ·subst e;exact PD.mp h.1
  ·exact List.le_trans (PD.mp h.1) ((Mo.mp ih).1 z hz)
theorem yX{ys ss:List Str}(hp:ss.Perm (distinct ys))(hs:sortedS ss=true):ss=cN ys:=by
 obtain⟨d1,d2,_⟩:=gD ys;obtain⟨s1,s2⟩:=rZ ys
 have nd:(cN ys).Nodup:=s1.imp fun h e=>by
  subst e;exact List.lt_irrefl _ h
 have p2:(cN ys).Perm (distinct ys):=(List.perm_ext_iff_of_nodup nd d1).mpr fun z=>(s2 z).trans (d2 z).symm;exact List.Perm.eq_of_pairwise (le:=fun a b:Str=>a.cps.toList<=b.cps.toList) (fun a b _ _ h1 h2=>vL (Ql h1 h2)) (pq ss hs) (s1.imp fun h=>List.le_of_lt h) (hp.trans p2.symm)
section
variable{P : LY}{w : Ly}{A : M3}{E : LD → LG → Prop}{s : LG}{a : Addr}
theorem yY{h:Heap}{ys:List Str}{o:Obj}{es:Array (Int×LD)}{vs:List LD}(el:ElemsOf (aj P w) es.toList)(hS:∀k,pU (distinct ys) k=true ↔ ∃e∈es.toList,(aj P w).is k e.2=true)(hz:es.size=(distinct ys).length)
  (hp:vs.Perm (es.toList.map (·.2))):∃ss,Rz vs ss/\ss.Perm (distinct ys):=by
 have all:∀v∈vs,∃x t,v=.str x t:=fun v hv=>by
  obtain⟨e,he,rfl⟩:=M8.mp (hp.mem_iff.mp hv);obtain⟨⟨k,hk,_⟩,_⟩:=el e he;have hm:pU (distinct ys) k=true:=(hS k).mpr ⟨e,he,hk⟩;rcases aN hk with⟨i,t,rfl,q⟩|⟨x,t,rfl,q⟩
  ·cases hm
  ·exact⟨x,t,q⟩
 refine⟨vs.map strOf,strsAre_map vs all,pF _ _ (gD ys).1 (fun x hx=>?_) ?_⟩
 ·obtain⟨e,he,hk⟩:=(hS (.inr x)).mp (by simpa [pU] using hx)
  have hk:q0 (.inr x) e.2=true:=hk;rcases aN hk with⟨i,t,q,_⟩|⟨y,t,q1,q⟩
  ·cases q
  ·cases q1
   exact M8.mpr ⟨e.2,hp.mem_iff.mpr (M8.mpr ⟨e,he,rfl⟩),by rw[q];rfl⟩
 ·rw[LI,hp.length_eq,LI,M5,hz]
  exact LZ _
theorem uf{ys:List Str}{Q:LD->LG->Prop}(hh:A.handled=none)(S:yI (aj P w) s.heap a (CB w) (pU (distinct ys)) (distinct ys).length)(h64:ys.length<64)
  (q:∀(l:Addr) (h':Heap) (d:Drawn) (tk n:Nat) (its:List LD),Rz its (cN ys)->h'.get? l=some { cls:=.type "list",data:=.seq its.toArray n }->s.heap.objs.size<=l->(∀b ob,s.heap.get? b=some ob->h'.get? b=some ob)->
   Q (.ref l) { s with heap:=h',drawn:=d,toks:=tk }):LO (Lz P w) A (call (.builtin "sorted") [.ref a]) Q E s:=by
 obtain⟨o,es,ep,t,gS,ex,dS,el,hS,_,ft,hz,led,pl⟩:=S;have d3:=(gD ys).2.2;refine Calls.call_function_entry kind_sorted plain_sorted entry_sorted (args_sorted1 _) ?_;unfold Builtin.«sorted»;refine LA (m:=checkCount "sorted" 1 1 _) (LF ?_);have hs:=MJ;refine LA (rK (A:=A.in1) hh gS ex dS ft (by omega) led pl fun vs h1 d tk hp keep up=>?_);obtain⟨ss,st,sp⟩:=yY (h:=s.heap) (o:=o) el hS hz hp
 have lv:vs.length<64:=by
  rw[hp.length_eq,LI,M5,hz];omega
 refine LA (wpAny_newList ?_ (by omega));have gL:(h1.push { cls:=.type "list",data:=.seq vs.toArray }).get? h1.objs.size=some (seqObj "list" vs.toArray 0):=LN _ rfl;refine LA (N3 (MF slot_list_sort ⟨_,gL,rfl⟩ entry_list_sort (list_sort_treeK strKind_oneLt gL st.keysOf (fun v₁ v₂ rest e=>keyKind_strs (by rw[← e];exact st)) lv fun st' a1 a2=>⟨_,rfl,?_⟩) (args_list_sort _)));refine LF ⟨_,rfl,?_⟩;obtain⟨ss',b1,b2,b3⟩:=sorted_out_str st a1 a2;have e:=yX (b2.trans sp) b3;subst e;obtain⟨n,gn⟩:=sortedHeap_at (out:=(arrOf st').map (·.2)) gL;refine q h1.objs.size _ d tk n ((arrOf st').map (·.2)).toList b1 (by rw[SL];exact gn) up fun b ob e=>?_;have e1:=keep b ob e;have lt:=LM e1;refine(sortedHeap_old (Lo lt) (by rw[MC];exact N0 lt)).trans ?_;exact LH _ e1
end
end PU
namespace PU
open PySem PySem.Spec PyProof.Rows L2 PySem.SeqAt
variable[TW]
omit [TW] in
theorem mW(x:Str):∀l:List Str,(kF x l).length<=l.length+1
 | []=>LZ _
 | y::r=>by
  have:=mW x r;unfold kF
  split
  ·simp
  ·split
   ·simp
   ·simp only[LS];omega
omit [TW] in
theorem kW:∀l:List Str,(cN l).length<=l.length
 | []=>LZ _
 | y::r=>by
  have h1:=kW r;have h2:=mW y (cN r);have e:cN (y::r)=kF y (cN r):=rfl;rw[e,LS];omega
omit [TW] in
theorem oT:∀{its:List LD}{ss:List Str},Rz its ss->Vals (ss.map V.str) its
 | _,_,.nil=>.nil
 | _,_,.cons x t h=>.cons ⟨t,rfl⟩ (oT h)
theorem oU{K:LC}{H:Hp}:∀ss:List Str,aF K H (ss.map PV.str) (ss.map V.str)
 | []=>rfl
 | x::r=>⟨_,_,rfl,rfl,oU r⟩
theorem uP {C:Cn} {e:Expr} {f:PSt->R PV} {p p2 pos pos2:Nf} (hc:C.X.calm=true) (hg:Gl C.X "sorted") (hm:C.X.mg "sorted"=none) (hg2:Gl C.X "set") (hm2:C.X.mg "set"=none) (ha:EO C e f)
  (he:Ls [e] C.X.env=(false,Mu e C.X.env)::Ls [] C.X.env:=by rfl):EN C (.Call (.Name "sorted" p) [.Call (.Name "set" p2) [e] [] pos2] [] pos) (un1 f jt):=by
 intro pins s σ H Q I ⟨ρ,vw,q⟩;have hh:C.X.A.handled=none:=I.ok.hd hc;refine Nv (jl I hg hm (show N4 "sorted"=some (.builtin "sorted") from rfl) ?_);refine Q5 ?_ rfl rfl;show LO _ _ (spliced ((false,Mu (.Call (.Name "set" p2) [e] [] pos2) C.X.env)::Nj pos (Ls [] C.X.env))) _ _ s;refine QF ?_;refine Nv (jl I hg2 hm2 (show N4 "set"=some (.type "set") from rfl) ?_);refine NF ?_ he rfl;rw[he];refine QF ?_;refine thn (ha pins s σ H (fun v H1=>∃p z,aZ C.X.K H1 p v/\jt p=some z/\Same H H1/\∀a H',Same H H'->H a=none->cP C.X.K H' a z->Q (.ref a) H') I ⟨ρ,vw,q.bind.imp fun p _ k v H1 s1 r1=>?_⟩) ?_
 ·obtain⟨z,ez,k3⟩:=k.ofO
  exact⟨p,z,r1,ez,s1,k3⟩
 rintro u s1 ⟨v,H1,I1,ru,p,z,ro,ez,sm,k⟩;unfold jt at ez;split at ez
 ·rename_i ps
  obtain⟨ys,ey,ez⟩:=LW.mp ez;split at ez
  ·rename_i hl
   cases ez;obtain⟨a,zs,rfl,g,rr⟩:=aZ.lst_inv ro;cases ru;obtain⟨_,its,n,rv,eg⟩:=g.is I1;have st:=iw ey rr rv;have li:its.length=ys.length:=by rw[← st.strs,LI]
   refine QU ?_;refine z6 (its:=its.toArray) hh ⟨_,eg,rfl,_,rfl⟩ (by simpa using st) (by rw[M0,li];show _<4096;omega) fun h1 tk S keep up=>?_;refine QU ?_;refine uf (s:={ s1 with heap:=h1,toks:=tk }) hh S hl fun l h2 d tk2 n2 its2 st2 gl ul keep2=>?_;have kk:∀b u,s1.heap.get? b=some u->h2.get? b=some u:=fun b u e=>keep2 b u (keep b u (LM e) e);have ul:s1.heap.objs.size<=l:=MR (Ow up) ul;have hs:=MJ;have ll:=kW ys;have I2:=I1.laid (a:=l) (o:=.lst ((cN ys).map V.str)) (h':=h2) (t':=tk2) kk ul ⟨by rw[LI];omega,its2,n2,oT st2,gl⟩;have I3:=I2.step (h':=h2) (H':=upd H1 l (.lst ((cN ys).map V.str))) (g':=s1.gens) (t':=tk2) (d':=d) (ch:=[]) (fun _ z=>nomatch z) (fun b o _ _ _ e _=>e) (fun b o _ _ _ e _=>⟨o.slots,e⟩) (fun b o _ e n=>n) (fun b o _ e=>⟨o,e⟩) (fun _ _ e=>e) (fun _ _ _ e=>e) (fun b ps e=>⟨#[],by rw[e];simp⟩) (fun m hm=>hm) I2.hok I2.bare;have nf:H1 l=none:=I1.hok.fresh ul;exact⟨.ref l,_,I3,rfl,k l _ (sm.trans (Same.new nf)) (sm.free nf) ⟨_,ao,oU _⟩⟩
  ·cases ez
 ·cases ez
end PU
section
namespace PU
open PySem
def jV:PV->PV->Option PV
 | .str x,.str y=>some (.bl (Txt.startswith x y))
 | _,_=>none
def qi:PV->PV->Option PV
 | .str x,.str y=>some (.int (Txt.count x y))
 | _,_=>none
def m7:List PV->Option (List Bool)
 | []=>some []
 | .bl b::r=>(m7 r).map (b::·)
 | _::_=>none
def CW:PV->Option PV
 | .lst ps=>(m7 ps).bind fun bs=>some (.bl (bs.all id))
 | _=>none
def FZ:PV->Option PV
 | .lst ps=>(m7 ps).bind fun bs=>some (.bl (bs.any id))
 | _=>none
end PU
namespace PU
open PySem PySem.Spec PyProof.Rows L2 PySem.SeqAt
variable[TW]
theorem vV:StrM "startswith" "str.startswith":=⟨PySem.F.slot_str_startswith,PySem.F.type_str_startswith⟩
theorem EG:StrM "count" "str.count":=⟨PySem.F.slot_str_count,PySem.F.type_str_count⟩
theorem j9{K:LC}{H:Hp}{p q z:PV}{x u:V}{v:LD}{us:List LD}{g:PV->PV->Option PV}(hg:∀p q z,g p q=some z->∃a b,p=.str a/\q=.str b)(rx:RelV x v)(rs:Vals [u] us)(rp:aZ K H p x)(rq:aZ K H q u)(ez:g p q=some z) :
  ∃a b t t2,p=.str a/\q=.str b/\v=.str a t/\us=[.str b t2]:=by
 obtain⟨a,b,rfl,rfl⟩:=hg p q z ez;obtain⟨u',rfl,ru⟩:=vals1 rs;cases (show x=.str a from rp);cases (show u=.str b from rq);obtain⟨t,rfl⟩:=rx;obtain⟨t2,rfl⟩:=ru;exact⟨a,b,t,t2,rfl,rfl,rfl,rfl⟩
theorem wX {X:Cx}:MtR X "str.startswith" (rM1 X.K jV):=by
 intro pins s σ H x xs v us Q I rx rs ⟨p,q,z,u,e1,rp,rq,ez,k⟩;subst e1;obtain⟨a,b,t,t2,rfl,rfl,rfl,rfl⟩:=j9 (g:=jV) (fun p q z e=>by unfold jV at e;split at e;exact⟨_,_,rfl,rfl⟩;cases e) rx rs rp rq ez;cases ez;exact SC.startswith ⟨.bl _,H,I,rfl,k _ H (Same.refl H) rfl⟩
theorem Fx {X:Cx}:MtR X "str.count" (rM1 X.K qi):=by
 intro pins s σ H x xs v us Q I rx rs ⟨p,q,z,u,e1,rp,rq,ez,k⟩;subst e1;obtain⟨a,b,t,t2,rfl,rfl,rfl,rfl⟩:=j9 (g:=qi) (fun p q z e=>by unfold qi at e;split at e;exact⟨_,_,rfl,rfl⟩;cases e) rx rs rp rq ez;cases ez;exact SC.count ⟨.int _,H,I.tok _,⟨_,rfl⟩,k _ H (Same.refl H) rfl⟩
theorem m6{K:LC}{H:Hp}:∀{ps:List PV}{xs:List V}{us:List LD}{bs:List Bool},m7 ps=some bs->aF K H ps xs->Vals xs us->us=bs.map Se
 | [],_,_,_,e,r,rv=>by cases e;cases r;cases rv;rfl
 | p::ps,_,_,_,e,⟨x,t,ex,h1,h2⟩,rv=>by
  subst ex;cases p with
  | bl y=>
   obtain⟨r,er,ez⟩:=LV.mp (show (m7 ps).map (y::·)=some _ from e);subst ez;cases (show x=.bl y from h1);cases rv with
   | cons a b=>
    cases a;rw[m6 er h2 b];rfl
  | _=>cases e
theorem we(bs:List Bool):(M9 bs.length).all (fun i=>bs.getD i false)=bs.all id:=by
 rw[Nc];simp only[MY,P0,id];constructor
 ·intro h b hb
  obtain⟨i,hi,e⟩:=Sj hb;have:=h i hi;rw[MN,LU hi,e] at this;exact this
 ·intro h i hi
  rw[MN,LU hi];exact h _ (MV hi)
theorem wd(bs:List Bool):(M9 bs.length).any (fun i=>bs.getD i false)=bs.any id:=by
 rw[Nc];simp only[Pa,P0,id];constructor
 ·rintro⟨i,hi,e⟩
  rw[MN,LU hi] at e;exact⟨_,MV hi,e⟩
 ·rintro⟨b,hb,e⟩
  obtain⟨i,hi,e2⟩:=Sj hb;exact⟨i,hi,by rw[MN,LU hi,e2];exact e⟩
theorem Jd {X:Cx} (hc:X.calm=true:=by rfl):fU X (.builtin "all") (r1 X.K CW):=by
 intro pins s σ H xs us Q I r ⟨v,p,z,e1,rp,ez,k⟩;subst e1;unfold CW at ez;split at ez
 ·rename_i ps
  obtain⟨bs,eb,ez⟩:=LW.mp ez;cases ez;obtain⟨a,zs,rfl,g,rr⟩:=aZ.lst_inv rp;obtain⟨u,rfl,ru⟩:=vals1 r;cases ru;obtain⟨_,its,n,rv,eg⟩:=g.is I;have ei:=m6 eb rr rv;have hl:s.heap.IsList a its.toArray:=⟨_,eg,rfl,_,rfl⟩;have la:=LM eg;have hh:X.A.in1.handled=none:=I.ok.hd hc;refine call_all_walk (NP hl ⟨s.heap.objs.size,_,_,_,_,_,fun i=>bs.getD i false,rfl,Sd hh s.heap.objs.size a (Lo la) its.toArray,⟨?_,?_⟩,?_,fun h' tk keep=>?_⟩)
  ·exact⟨_,LN _ rfl,rfl,rfl⟩
  ·exact⟨_,LH _ eg,rfl,_,rfl⟩
  ·intro i v s' Q' E' hv hQ
   have hv:its.toArray[i]?=some v:=hv;rw[ei,SJ,LR] at hv;obtain⟨b,hb,rfl⟩:=LV.mp hv;have hQ:Q' (bs.getD i false) s':=hQ;rw[MN,hb] at hQ;exact Me hQ
  ·have e2:its.toArray.size=bs.length:=by rw[ei];simp
   rw[e2,we];exact⟨.bl _,H,I.kept (t':=tk) (fun b o e=>keep b o (fun z=>by rw[NA] at z;exact absurd (LM e) (z▸Mk _)) (LH _ e)),rfl,k _ H (Same.refl H) rfl⟩
 ·cases ez
theorem KY {X:Cx} (hc:X.calm=true:=by rfl):fU X (.builtin "any") (r1 X.K FZ):=by
 intro pins s σ H xs us Q I r ⟨v,p,z,e1,rp,ez,k⟩;subst e1;unfold FZ at ez;split at ez
 ·rename_i ps
  obtain⟨bs,eb,ez⟩:=LW.mp ez;cases ez;obtain⟨a,zs,rfl,g,rr⟩:=aZ.lst_inv rp;obtain⟨u,rfl,ru⟩:=vals1 r;cases ru;obtain⟨_,its,n,rv,eg⟩:=g.is I;have ei:=m6 eb rr rv;have hl:s.heap.IsList a its.toArray:=⟨_,eg,rfl,_,rfl⟩;have la:=LM eg;have hh:X.A.in1.handled=none:=I.ok.hd hc;refine call_any_walk (NP hl ⟨s.heap.objs.size,_,_,_,_,_,fun i=>bs.getD i false,rfl,Sd hh s.heap.objs.size a (Lo la) its.toArray,⟨?_,?_⟩,?_,fun h' tk keep=>?_⟩)
  ·exact⟨_,LN _ rfl,rfl,rfl⟩
  ·exact⟨_,LH _ eg,rfl,_,rfl⟩
  ·intro i v s' Q' E' hv hQ
   have hv:its.toArray[i]?=some v:=hv;rw[ei,SJ,LR] at hv;obtain⟨b,hb,rfl⟩:=LV.mp hv;have hQ:Q' (bs.getD i false) s':=hQ;rw[MN,hb] at hQ;exact Me hQ
  ·have e2:its.toArray.size=bs.length:=by rw[ei];simp
   rw[e2,wd];exact⟨.bl _,H,I.kept (t':=tk) (fun b o e=>keep b o (fun z=>by rw[NA] at z;exact absurd (LM e) (z▸Mk _)) (LH _ e)),rfl,k _ H (Same.refl H) rfl⟩
 ·cases ez
end PU
end
section
namespace PU
def A4:PV->Bool
 | .dct _ _=>true
 | _=>false
def zJ(fo fe:PSt->R PV)(g:PV->PV->Option PV):PSt->R PV:=fun ρ=>fo ρ >>= fun p=>if A4 p=true then fe ρ >>= fun q=>R.ofO (g p q) else .no
def DY:PV->PV->Option PV
 | .dct ks ps,q=>(gm q).bind fun k=>some ((eU ks ps k).getD .non)
 | _,_=>none
end PU
namespace PU
open PySem PySem.Spec PyProof.Rows L2 PySem.SeqAt
variable[TW]
theorem mP{K:LC}{H:Hp}{k:Key}:∀{ks:List Key}{ps:List PV}{kvs:List (Key×V)},kvs.map (·.1)=ks->aF K H ps (kvs.map (·.2))->eU ks ps k=none->nu kvs k=none
 | _,_,[],h1,h2,e=>rfl
 | _,[],kv::kvs,h1,h2,e=>by
  cases h2
 | _,q::ps,kv::kvs,h1,h2,e=>by
  subst h1;obtain⟨x,r,ex,hx,ht⟩:=h2;simp only[LQ,QV] at ex;obtain⟨rfl,rfl⟩:=ex;simp only[LQ,eU] at e
  by_cases hk:kv.1=k
  ·rw[if_pos hk] at e
   cases e
  ·rw[if_neg hk] at e
   rw[cR hk];exact mP rfl ht e
theorem De{C:Cn}{o e:Expr}{fo fe:PSt->R PV}{apos cpos:Nf}(ho:EO C o fo)(he:EO C e fe)(hw:C.X.w=TW.w:=by rfl)
  (hbase:O0 o "get" C.X.env (Mu o C.X.env)=Mu o C.X.env:=by rfl) (hline:(apos.endLine == cpos.line)=true:=by rfl) (hs:Ls [e] C.X.env=[(false,Mu e C.X.env)]:=by exact bV rfl) :
  EV C (.Call (.Attribute o "get" apos) [e] [] cpos) (zJ fo fe DY):=by
 intro pins s σ H Q I ⟨ρ,vw,q⟩;refine Sy hbase (by rw[hs];rfl) hline rfl (thn (ho pins s σ H (fun v H1=>∃p,aZ C.X.K H1 p v/\Same H H1/\RQ C H (if A4 p=true then fe ρ >>= fun q=>R.ofO (DY p q) else .no) fun p=>∀v H',Same H H'->Rep C.X.K H' p v->Q v H') I ⟨ρ,vw,q.bind.imp fun p _ k v H1 s1 r1=>⟨p,r1,s1,k⟩⟩) fun v s1 ⟨x,H1,I1,r1,p,ro,sm,k⟩=>?_);cases p with
 | dct ks ps=>
  have ro':=ro;obtain⟨a,kvs,rfl,g,e1,r⟩:=ro;cases r1;obtain⟨hz,hd,vs,rel,dd⟩:=DkR.at hw I1 g;have k:RQ C H (fe ρ >>= fun q=>R.ofO (DY (.dct ks ps) q)) fun p=>∀v H',Same H H'->Rep C.X.K H' p v->Q v H':=k;refine⟨"dict","dict.get",R9,Rb,PySem.F.type_dict_get,dd.typeIs,dd.mapOf.noDict,?_⟩
  have hA:=(qq he hs) cpos pins s1 σ H1 (fun xs H2=>∃q z u,xs=[u]/\aZ C.X.K H2 q u/\DY (.dct ks ps) q=some z/\Same H1 H2/\∀v H',Same H H'->Rep C.X.K H' z v->Q v H') I1 ⟨ρ,vw.same sm,(k.bind.same sm).imp fun q _ k2 u H2 s2 r2=>by
   obtain⟨z,ez,k3⟩:=k2.ofO;exact⟨q,z,u,rfl,r2,ez,s2,k3⟩⟩
  rw[hs] at hA ⊢;refine Pd rfl (SF ?_);refine thn hA fun us s2 ⟨xs,H2,I2,r2,q,z,u,eu,rq,ez,s2',k3⟩=>?_;subst eu;obtain⟨u',rfl,ru⟩:=vals1 r2;obtain⟨kk,ek,ez⟩:=LW.mp (show (gm q).bind (fun k=>some ((eU ks ps k).getD .non))=some z from ez);cases ez;have hy:=eG ek rq;subst hy;obtain⟨a2,kvs2,ea,g2,e2,rr2⟩:=ro'.same s2';cases ea;obtain⟨_,hd2,vs2,rel2,dd2⟩:=DkR.at hw I2 g2;refine call_meetsIn Rb dd2.typeIs PySem.F.entry_dict_get (PySem.F.args_dict_get_2 _ _) (meets_dict_get (aj C.X.prog C.X.w) a (oe ru) hd2) ⟨_,dd2.mapOf,?_⟩;cases el:eU ks ps kk with
  | some p'=>
   obtain⟨w,ew,rp⟩:=jj e2 rr2 el;obtain⟨w',hw',rw'⟩:=rS.some_of (v:=w) (o:=NJ vs2 kk) (by rw[← ew];exact rel2.val kk);rw[hw'];rw[el] at k3;exact⟨w,H2,I2.tok _,rw',k3 w H2 (sm.trans s2') rp⟩
  | none=>
   have ew:=mP (k:=kk) e2 rr2 el;have hn:NJ vs2 kk=none:=rS.none_of (by rw[← ew];exact rel2.val kk);rw[hn];rw[el] at k3;exact⟨.non,H2,I2.tok _,rfl,k3 .non H2 (sm.trans s2') rfl⟩
 | _=>exact LP k
end PU
end
namespace PU
open PySem PySem.Spec PyProof.Rows L2 PySem.SeqAt
theorem nB:isSubtype (.type "dict") (.type "dict")=pure true:=by rw[QQ];kernel_rfl
section
variable{P : LY}{w : Ly}{A : M3}{E : LD → LG → Prop}{s : LG}{d : Addr}{kvs : List (Key×LD)}{ep : Nat}
theorem pV{Q:LD->LG->Prop}(hh:A.handled=none)(hd:(d == Mb)=false)(m:s.heap.DictAt (aj P w) d kvs ep)(hz:kvs.length<=sizeLine)
  (q:∀(h':Heap) (tk:Nat) (acc:Array LD) (c:Nat),(∀b o,s.heap.get? b=some o->h'.get? b=some o)->h'.get? s.heap.objs.size=some { cls:=.type "list",data:=.seq acc c }->
   ItemsOf (fun i v=>∃k x,kvs[i]?=some (k,x)/\(aj P w).is k v=true) acc kvs.length->Q (.ref s.heap.objs.size) { s with heap:=h',toks:=tk }):LO (Lz P w) A (call (.type "list") [.ref d]) Q E s:=by
 have ld:d<s.heap.objs.size:=by obtain⟨o,es,ho,_⟩:=m;exact LM ho
 refine callType_codes (Q₁:=fun obj s₁=>obj=.ref s.heap.objs.size/\s₁={ s with heap:=s.heap.push { cls:=.type "list",data:=.seq #[] } }) PySem.F.called_list (PySem.F.typeCall_list_1 _) PySem.F.entry_list_init (code_list_new _ ⟨rfl,rfl⟩) fun obj s₁ h₁=>?_;obtain⟨rfl,rfl⟩:=h₁;have g0:(s.heap.push { cls:=.type "list",data:=.seq #[] }).get? s.heap.objs.size=some { cls:=.type "list",data:=.seq #[] }:=LN _ rfl;refine⟨⟨_,g0,rfl⟩,PySem.F.args_list_init_2 _ _,?_⟩;show LO _ _ (do let old<- Qi (.ref s.heap.objs.size);Builtin.List.listUpdate (.ref s.heap.objs.size) (fun _=>#[]);letGo old.toList.reverse;ND (.ref s.heap.objs.size) (.ref d) .none) _ _ _;refine LA ?_;unfold Qi;refine LA (Mv g0 rfl (LF ?_));show LO _ _ (updateSeq s.heap.objs.size (fun _=>#[]) >>= fun _=>letGo (#[]:Array LD).toList.reverse >>= fun _=>ND (.ref s.heap.objs.size) (.ref d) .none) _ _ _;refine LA (P3 g0 rfl ?_ (Mr _) (Mr _));have g1:=N6 (Mm (fun _=>(#[]:Array LD))) g0 rfl
 have k1:∀b o,s.heap.get? b=some o->((s.heap.push { cls:=.type "list",data:=.seq #[] }).update s.heap.objs.size (Mm (fun _=>(#[]:Array LD)))).get? b=some o:=
  fun b o e=>(NQ _ _ (ML (LM e))).trans (LH _ e)
 have z1:((s.heap.push { cls:=.type "list",data:=.seq #[] }).update s.heap.objs.size (Mm (fun _=>(#[]:Array LD)))).objs.size=s.heap.objs.size+1:=by rw[Heap.size_update,MC]
 refine LA (RT ?_);generalize (s.heap.push { cls:=.type "list",data:=.seq #[] }).update s.heap.objs.size (Mm (fun _=>(#[]:Array LD)))=h1 at g1 k1 z1 ⊢
 have m1:h1.DictAt (aj P w) d kvs ep:=by
  obtain⟨o,es,ho,r⟩:=m;exact⟨o,es,k1 _ _ ho,r⟩
 have t1:({ s with heap:=h1 }:LG).TypeIs (.ref d) "dict":=m1.dictOf.typeIs;unfold ND;refine LA (Q7 (T:="dict") t1 ?_)
 have r1:QY (.ref s.heap.objs.size) (.ref d)=false:=by
  show (s.heap.objs.size == d)=false;simpa using ML ld
 have r2:(N8 "dict" == N8 "list")=false:=by decide
 have r3:(N8 "dict" == N8 "tuple")=false:=by decide
 simp only[r1,r2,r3,OJ,Mp,if_false];refine LA (wpAny_pyIter_dict (knd:=aj P w) (s:={ s with heap:=h1 }) hd m1 ?_);refine LA (N3 ?_)
 have m2:(h1.push { cls:=.type "dict_keyiterator",data:=.fields #[.ref d,.int 0 0,.int kvs.length 0,.int ep 0] }).DictAt (aj P w) d kvs ep:=by
  obtain⟨o,es,ho,r⟩:=m1;exact⟨o,es,LH _ ho,r⟩
 have t2:=(show ({ s with heap:=h1.push { cls:=.type "dict_keyiterator",data:=.fields #[.ref d,.int 0 0,.int kvs.length 0,.int ep 0] } }:LG).TypeIs (.ref d) "dict" from m2.dictOf.typeIs);unfold QI;refine LA (OT (T:="dict") (v:=.ref d) t2 PySem.F.slot_dict_len.lookup ?_)
 wp_delta
 refine LA (Na (T:="dict") (v:=.ref d) (b:=true) t2 nB ?_);show LO _ _ (typeOf (Mn d) >>= _) _ _ _;refine LA (Q7 (T:="dict") (v:=.ref d) t2 (LF ?_));rw[if_pos (by decide)];refine LA (OV (LA ?_));unfold Qh;have nI:h1.objs.size≠s.heap.objs.size:=by rw[z1];exact Qp _
 have gL2:(h1.push { cls:=.type "dict_keyiterator",data:=.fields #[.ref d,.int 0 0,.int kvs.length 0,.int ep 0] }).get? s.heap.objs.size=some _:=LH _ g1;have gI2:(h1.push { cls:=.type "dict_keyiterator",data:=.fields #[.ref d,.int 0 0,.int kvs.length 0,.int ep 0] }).get? h1.objs.size=some _:=LN _ rfl;have k2:∀b o,s.heap.get? b=some o->(h1.push { cls:=.type "dict_keyiterator",data:=.fields #[.ref d,.int 0 0,.int kvs.length 0,.int ep 0] }).get? b=some o:=fun b o e=>LH _ (k1 b o e);refine LA (P3 gL2 rfl ?_ (Mr _) (by show 1<=_;rw[MJ];decide));have g3:=N6 (Mm (·.push Md)) gL2 rfl;refine P3 g3 rfl ?_ (by show 1<=_;rw[MJ];decide) (Mr _);have g4:=N6 (Mm (·.pop)) g3 rfl
 have k4:∀b ob,b≠s.heap.objs.size->(h1.push { cls:=.type "dict_keyiterator",data:=.fields #[.ref d,.int 0 0,.int kvs.length 0,.int ep 0] }).get? b=some ob->(((h1.push { cls:=.type "dict_keyiterator",data:=.fields #[.ref d,.int 0 0,.int kvs.length 0,.int ep 0] }).update s.heap.objs.size (Mm (·.push Md))).update s.heap.objs.size (Mm (·.pop))).get? b=some ob:=fun b ob hb e=>
  (NQ _ _ (NG hb)).trans ((NQ _ _ (NG hb)).trans e)
 show LO _ _ _ _ _ { s with heap:=(((h1.push { cls:=.type "dict_keyiterator",data:=.fields #[.ref d,.int 0 0,.int kvs.length 0,.int ep 0] }).update s.heap.objs.size (Mm (·.push Md))).update s.heap.objs.size (Mm (·.pop))) };generalize ((h1.push { cls:=.type "dict_keyiterator",data:=.fields #[.ref d,.int 0 0,.int kvs.length 0,.int ep 0] }).update s.heap.objs.size (Mm (·.push Md))).update s.heap.objs.size (Mm (·.pop))=h4 at g4 k4 ⊢;have nd:d≠s.heap.objs.size:=Lo ld;have ndI:d≠h1.objs.size:=by rw[z1];exact Lo (N0 ld)
 have st4:h4.IsKeyIter h1.objs.size d 0 kvs.length ep/\h4.DictAt (aj P w) d kvs ep:=by
  refine⟨⟨_,k4 _ _ nI gI2,rfl,rfl⟩,?_⟩;obtain⟨o,es,ho,r⟩:=m2;exact⟨o,es,k4 _ _ nd ho,r⟩
 have nL:s.heap.objs.size ∉ [h1.objs.size,d]:=fun z=>by
  rcases LJ.mp z with e | z
  ·exact nI e.symm
  ·exact nd (NA.mp z).symm
 have W:∀A':M3,A'.handled=none->Walks P w A' h1.objs.size [h1.objs.size,d] [h1.objs.size] kvs.length _ _:=fun A' hA=>Walks.dictKeys (knd:=aj P w) hA h1.objs.size d ndI kvs ep;refine LF ⟨Pp Qs _,codeAny_extend_loopS (W A.in1.in1 hh).toS hz _ nL _ kvs.length 0 _ _ _ rfl (Mr _) st4 g4 (ItemsOf.nil _) fun s' acc c mm gA it'=>?_⟩;rw[Moved.eq_with mm];refine⟨rfl,q s'.heap s'.toks acc c (fun b o e=>mm.heap b o (fun hb=>?_) (k4 b o (Lo (LM e)) (k2 b o e))) gA it'⟩;have lt:=LM e;rcases LJ.mp hb with z | z
 ·exact absurd lt (z▸Mk _)
 ·rw[NA.mp z,z1] at lt
  exact absurd lt (Oi.mpr (OR _))
end
end PU
section
namespace PU
def ju:PV->Option PV
 | .lst ps=>some (.lst ps)
 | .tup ps=>some (.lst ps)
 | .dct ks _=>some (.lst (ks.map xo))
 | _=>none
end PU
namespace PU
open PySem PySem.Spec PyProof.Rows L2 PySem.SeqAt
variable[TW]
theorem pZ{K:LC}{H:Hp}:∀ks:List Key,aF K H (ks.map xo) (ks.map kV)
 | []=>rfl
 | k::ks=>by
  refine⟨kV k,ks.map kV,rfl,?_,pZ ks⟩;cases k <;> exact rfl
omit [TW] in
theorem CD{P:LY}{w:Ly}{k:Key}{v:LD}(h:(aj P w).is k v=true):RelV (kV k) v:=by
 rcases aN (show q0 k v=true from h) with⟨i,t,rfl,rfl⟩|⟨x,t,rfl,rfl⟩
 ·exact⟨t,rfl⟩
 ·exact⟨t,rfl⟩
omit [TW] in
theorem vx{P:LY}{w:Ly}:∀(kvs:List (Key×LD))(us:List LD),us.length=kvs.length->(∀(i:Nat)(v:LD),us[i]?=some v->∃k x,kvs[i]?=some (k,x)/\(aj P w).is k v=true)->Vals ((kvs.map (·.1)).map kV) us
 | [],us,hl,_=>by
  cases us with
  | nil=>exact .nil
  | cons a r=>cases hl
 | kv::kvs,us,hl,h=>by
  cases us with
  | nil=>cases hl
  | cons a r=>
   obtain⟨k,x,e,hk⟩:=h 0 a rfl;cases e;exact .cons (CD hk) (vx kvs r (by simpa using hl) fun i v e=>h (i+1) v e)
theorem tG {X:Cx} (hc:X.calm=true:=by rfl) (hw:X.w=TW.w:=by rfl):fU X (.type "list") (rn1 X.K ju):=by
 intro pins s σ H xs us Q I r ⟨v,p,z,e1,rp,ez,k⟩;subst e1;cases p with
 | lst ps=>
  obtain⟨a,xs,rfl,g,rr⟩:=aZ.lst_inv rp;cases ez;exact kg pins s σ H _ us Q I r ⟨a,xs,rfl,.inl g.l,fun l hl=>k _ _ (Same.new hl) hl ⟨xs,ao,rr.same (Same.new hl)⟩⟩
 | tup ps=>
  obtain⟨a,xs,rfl,g,rr⟩:=aZ.tup_inv rp;cases ez;exact kg pins s σ H _ us Q I r ⟨a,xs,rfl,.inr g,fun l hl=>k _ _ (Same.new hl) hl ⟨xs,ao,rr.same (Same.new hl)⟩⟩
 | dct ks ps=>
  obtain⟨a,kvs,rfl,g,e1,rr⟩:=rp;cases ez;obtain⟨u,rfl,ru⟩:=vals1 r;cases ru;obtain⟨hz,hS,vs,rel,o,es,ep,ho,x1,d1,rest⟩:=DkR.at hw I g;have hl:kvs.length=vs.length:=MZ rel
  have hk:kvs.map (·.1)=vs.map (·.1):=by
   clear hl hz e1 rr g rest
   induction rel with
   | nil=>rfl
   | cons a b ih=>rw[LQ,LQ,ih,a.1]
  refine pV (kvs:=vs) (ep:=ep) (I.ok.hd hc) hS ⟨o,es,ho,x1,d1,rest⟩ (by omega) fun h' tk acc c keep gA it'=>?_;obtain⟨i1,i2⟩:=it'
  have rv:Vals (ks.map kV) acc.toList:=by
   rw[← e1,hk];exact vx (P:=X.prog) (w:=X.w) vs acc.toList (by simpa using i1) fun i v e=>i2 i v (by simpa using e)
  have hlk:ks.length=kvs.length:=by rw[← e1,LI]
  have I2:=I.laid (a:=s.heap.objs.size) (o:=.lst (ks.map kV)) (h':=h') (t':=tk) keep (LZ _) ⟨by rw[LI];omega,acc.toList,c,rv,by rw[SL];exact gA⟩;have nf:H s.heap.objs.size=none:=I.fresh;exact⟨.ref _,_,I2,rfl,k _ _ (Same.new nf) nf ⟨_,ao,pZ ks⟩⟩
 | _=>cases ez
end PU
end
section
namespace PU
open PySem
def mX:PV->PV->Option PV
 | .str x,.str y=>match Lx x y 0 x.length 1 with
  | i::_=>some (.int i)
  | []=>none
 | _,_=>none
end PU
namespace PU
open PySem PySem.Spec PyProof.Rows L2 PySem.SeqAt
variable[TW]
theorem AU:StrM "index" "str.index":=⟨PySem.F.slot_str_index,PySem.F.type_str_index⟩
theorem B8 {X:Cx}:MtR X "str.index" (rM1 X.K mX):=by
 intro pins s σ H x xs v us Q I rx rs ⟨p,q,z,u,e1,rp,rq,ez,k⟩;subst e1;obtain⟨a,b,t,t2,rfl,rfl,rfl,rfl⟩:=j9 (g:=mX) (fun p q z e=>by unfold mX at e;split at e;exact⟨_,_,rfl,rfl⟩;cases e) rx rs rp rq ez
 have ez:(match Lx a b 0 a.length 1 with
  | i::_=>some (PV.int i)
  | []=>none)=some z:=ez
 cases ho:Lx a b 0 a.length 1 with
 | nil=>rw[ho] at ez;cases ez
 | cons i r=>
  rw[ho] at ez;cases ez;exact SC.index ho ⟨.int _,H,I.tok _,⟨_,rfl⟩,k _ H (Same.refl H) rfl⟩
end PU
end
namespace PU
open PySem PySem.Spec PyProof.Rows L2 PySem.SeqAt
theorem con_int{w:Ly}{tabs:List Addr}{qual:Nat->Nat->Str}{K:LC}{h:Heap}{mg:Str->Option LD}{x:Str}{i:Int}{t:Sf}(X:K.In h)(G:h.Ns Lv mg)(n1:ME K Lv x=some (some (.int i t))):@Con ⟨w,tabs,qual⟩ K mg x (.int i):=by
 letI:TW:=⟨w,tabs,qual⟩
 exact⟨.int i,.int i t,OZ X G n1,⟨t,rfl⟩,fun H=>rfl⟩
theorem con_str{w:Ly}{tabs:List Addr}{qual:Nat->Nat->Str}{K:LC}{h:Heap}{mg:Str->Option LD}{x:Str}{i:Str}{t:Sf}(X:K.In h)(G:h.Ns Lv mg)(n1:ME K Lv x=some (some (.str i t))):@Con ⟨w,tabs,qual⟩ K mg x (.str i):=by
 letI:TW:=⟨w,tabs,qual⟩
 exact⟨.str i,.str i t,OZ X G n1,⟨t,rfl⟩,fun H=>rfl⟩
end PU
namespace PU
open PySem PySem.Spec PyProof.Rows L2 PySem.SeqAt
def KQ:PV->Option Int->Option Int->Option PV
 | .str x,lo,hi=>if x.length<=16777216 then some (.str (PySem.Txt.slice x lo hi)) else none
 | .lst ps,lo,hi=>gSl (.lst ps) lo hi
 | .tup ps,lo,hi=>gSl (.tup ps) lo hi
 | _,_,_=>none
variable[TW]
end PU
namespace PU
open PySem PySem.Spec PyProof.Rows L2 PySem.SeqAt
def ve(ps qs:List PV):List (List PV):=ps.zipWith (fun a b=>[a,b]) qs
def ia:PV->Bool
 | .non | .bl _ | .int _ | .str _=>true
 | _=>false
variable[TW]
section
variable{P : LY}{w : Ly}{K : LC}{elts : List Expr}{kk : Nat}{tp : Nf}
def Gm(xs ys:List V):List (List V):=xs.zipWith (fun a b=>[a,b]) ys
theorem sU{x:V}{u:LD}(r:RelV x u)(h:∀b,x≠.ref b):¬ ∃b,u=Mn b:=fun ⟨b,e⟩=>by
 subst e;cases x with
 | ref a=>exact h a rfl
 | non=>cases r
 | bl b=>cases r
 | ty n=>cases r
 | int i=>obtain⟨t,r⟩:=r;cases r
 | str i=>obtain⟨t,r⟩:=r;cases r
 | byt i=>obtain⟨t,r⟩:=r;cases r
 | flt i=>obtain⟨t,r⟩:=r;cases r
theorem Ae{K:LC}{H:Hp}{p:PV}{x:V}(hf:ia p=true)(r:Rep K H p x):∀b,x≠.ref b:=fun b e=>by
 subst e;cases p with
 | non=>cases (show V.ref b=_ from r)
 | bl _=>cases (show V.ref b=_ from r)
 | int _=>cases (show V.ref b=_ from r)
 | str _=>cases (show V.ref b=_ from r)
 | _=>cases hf
theorem ql{K:LC}{H:Hp}{ps:List PV}{xs:List V}(hf:ps.all ia=true)(r:aF K H ps xs):∀x∈xs,∀b,x≠.ref b:=fun x hx=>by
 obtain⟨i,hi⟩:=Nu.mp hx;have hl:=r.length;have hlt:i<ps.length:=by rw[hl];exact(Lw.mp hi).1
 have e1:ps[i]?=some ps[i]:=by simp[hlt]
 obtain⟨y,ey,ry⟩:=r.get e1;rw[hi] at ey;cases ey;exact Ae (MY.mp hf _ (MV hlt)) ry
end
theorem yN{K:LC}{H:Hp}{ps qs:List PV}{xs ys:List V}(r1:aF K H ps xs)(r2:aF K H qs ys):∀(i:Nat)(zs:List PV)(ws:List V),(ve ps qs)[i]?=some zs->(Gm xs ys)[i]?=some ws->aF K H zs ws:=fun i zs ws h1 h2=>by
 unfold ve at h1;unfold Gm at h2;rw[Ob] at h1 h2;cases e:ps[i]? with
 | none=>rw[e] at h1;cases h1
 | some p=>
  cases e2:qs[i]? with
  | none=>rw[e,e2] at h1;cases h1
  | some q=>
   rw[e,e2] at h1;obtain⟨x,ex,rp⟩:=r1.get e;obtain⟨y,ey,rq⟩:=r2.get e2;rw[ex,ey] at h2;cases h1;cases h2;exact⟨_,_,rfl,rp,_,_,rfl,rq,rfl⟩
end PU
namespace PU
open PySem PySem.Spec PyProof.Rows L2 PySem.SeqAt PySem.Calls PyProof.V
def Ab:PV->PV->Option PV
 | .dct ks ps,.dct ls qs=>if bL ps<=60 then (lb 3 (.dct ks ps) (.dct ls qs)).map fun b=>.bl (!b) else none
 | p,q=>gNe p q
variable[TW]
theorem sP:uJ Ab:=fun p q z e=>by
 unfold Ab at e;split at e
 ·split at e
  ·obtain⟨b,_,ez⟩:=LV.mp e
   exact⟨_,ez.symm⟩
  ·cases e
 ·exact rz p q z e
section
variable{P : LY}{w : Ly}{κ : Type}[DecidableEq κ]{kd : KeyKind P w κ}{A : M3}{E : LD → LG → Prop}{s : LG}
theorem tq{d1 d2:Addr}{l1 l2:List (κ×LD)}{r:Bool}{Q:LD->LG->Prop}(n1:(d1 == Mb)=false)(n2:(d2 == Mb)=false)(D1:s.heap.DictOf kd d1 l1)(D2:s.heap.DictOf kd d2 l2)(hu:A.units<cLine)
  (hh:l1.length=l2.length->HitW P w A.in1 s l2 l1 r) (q:Q (.bool (!(l1.length == l2.length && r))) s):LO (Lz P w) A (richCompare .NotEq (.ref d1) (.ref d2)) Q E s:=by
 refine Rt (op:=.NotEq) D1.typeIs D2.typeIs Rq (MF Rq D1.typeIs PySem.F.entry_dict_ne ?_ (PySem.F.args_dict_ne_2 _ _)) hu;show LO _ _ (Nq "__ne__" ⟨[.ref d1,.ref d2],[]⟩ >>= _) _ _ s;unfold Nq;refine LA (LA (wpAny_notOrdered_dict D1.typeIs ?_));show LO _ _ (pure (Mn d1,Mn d2)) _ _ s;refine LF (LA (Na (T:="dict") D2.typeIs RZ ?_));simp only[QJ,Mp,if_false];refine LA (LF (LA (LF (LA (mH n1 n2 D1 D2 hh (LF ⟨_,rfl,(fun z=>nomatch z),?_⟩))))));generalize (l1.length == l2.length && r)=b at q;cases b <;> exact q
end
theorem Fh{X:Cx}(hu:X.A.units+64<cLine)(hw:X.w=TW.w:=by rfl):OpR X (MG .NotEq) (rP X.K Ab):=by
 intro pins s σ H x y v u Q I rx ry ⟨p,q,z,hp,hq,e,k⟩;unfold Ab at e;split at e
 ·rename_i ks ps ls qs
  split at e
  ·rename_i hd
   obtain⟨b,eb,ez⟩:=LV.mp e;subst ez;have eb:(if ks.length=ls.length then iZ (lb 2) ks ps ls qs else some false)=some b:=eb;obtain⟨a1,kvs1,rfl,d1,k1,r1⟩:=hp;obtain⟨a2,kvs2,rfl,d2,k2,r2⟩:=hq;cases rx;cases ry;obtain⟨_,n1,vs1,kv1,D1⟩:=DkR.at hw I d1;obtain⟨_,n2,vs2,kv2,D2⟩:=DkR.at hw I d2;have l1:vs1.length=ks.length:=by rw[← k1,LI];exact(MZ kv1).symm
   have l2:vs2.length=ls.length:=by rw[← k2,LI];exact(MZ kv2).symm
   have fin:EP X pins σ Q (.bool (!b)) s:=⟨.bl (!b),H,I,rfl,k _ H (Same.refl H) rfl⟩;have hu0:X.A.units<cLine:=by omega
   by_cases hl:ks.length=ls.length
   ·rw[if_pos hl] at eb
    refine tq (r:=b) n1 n2 D1 D2 hu0 (fun _=>kG X.A.in1 (lb 2) I k2 r2 kv2 ks ps kvs1 vs1 b k1 r1 kv1 eb fun p hp q v u v' u' c g1 g2 g3 g4 g5=>xV hw I 2 p q X.A.in1 v u v' u' c g1 g2 g3 g4 g5 ?_) ?_
    ·obtain⟨j,hj⟩:=Nu.mp hp
     have:=kC hj;show X.A.units+1+_<_;omega
    ·have:(vs1.length == vs2.length)=true:=by rw[l1,l2,hl];simp
     rw[this,Nt];exact fin
   ·rw[if_neg hl] at eb
    cases eb;refine tq (r:=false) n1 n2 D1 D2 hu0 (fun z=>absurd (by rw[← l1,← l2];exact z) hl) ?_;rw[O5];exact fin
  ·cases e
 ·exact Cp hu pins s σ H x y v u Q I rx ry ⟨p,q,z,hp,hq,e,k⟩
end PU
namespace PU
open PySem PySem.Spec PyProof.Rows L2
variable[TW]
def tIS(C:Cn)(f:PSt->R (List PV)):TI:=fun σ H Q=>∃ρ,View C.X.K H σ ρ/\RQ C H (f ρ) fun ps=>∀J H',Same H H'->ItS C.X.K J H' ps->Q J H'
def EIS(C:Cn)(tg iter:Expr)(f:PSt->R (List PV)):Prop:=PI C.X tg iter (tIS C f)
theorem Same.sqO{K:LC}{H H':Hp}(k:Same H H'){a:Addr}{xs:List V}(h:SqO K H a xs):SqO K H' a xs:=by
 rcases h with (h | ⟨o,h⟩) | h
 ·exact .inl (.inl (k _ _ h))
 ·exact .inl (.inr ⟨o,k _ _ h⟩)
 ·exact .inr h
theorem zW{K:LC}{H:Hp}{a:Addr}{xs:List V}{ps:List PV}(g:SqO K H a xs)(r:aF K H ps xs):ItS K (Itl K a) H ps:=fun i H' k=>by
 have g':=(Same.sqO k g).l;have r':=aF.kp (Same.kp k) ps r;have hl:=r'.length;refine⟨fun h=>⟨xs,g',by omega⟩,fun p e=>?_⟩;obtain⟨x,ex,rp⟩:=r'.get e
 exact⟨⟨xs,x,g',ex⟩,fun y H2 ⟨eh,hy⟩=>by
  subst eh;have:=hy xs g';rw[ex] at this;cases this;exact⟨Same.refl _,rp⟩⟩
def xw:PV->Option (List PV)
 | .lst ps=>some ps
 | _=>none
def itL(f:PSt->R PV):PSt->R (List PV):=fun ρ=>f ρ >>= fun p=>R.ofO (xw p)
theorem G4{C:Cn}{e tg:Expr}{f:PSt->R PV}(he:EO C e f):EIS C tg e (itL f):=by
 intro pins s σ H R I ⟨ρ,vw,q⟩;refine thn (he pins s σ H (fun v H'=>∃p ps,Same H H'/\aZ C.X.K H' p v/\xw p=some ps/\∀J H2,Same H' H2->ItS C.X.K J H2 ps->R J H2) I ⟨ρ,vw,q.bind.imp fun p _ k v H' s' r=>?_⟩) fun v s1 ⟨x,H1,I1,r1,p,ps,sm,rp,ep,k⟩=>?_
 ·obtain⟨ps,ep,k⟩:=k.ofO
  exact⟨p,ps,s',r,ep,fun J H2 s2 it=>k J H2 (s'.trans s2) it⟩
 ·cases p with
  | lst qs=>
   cases ep;obtain⟨a,xs,rfl,g,rr⟩:=rp;cases r1;obtain⟨its,rv,pl,hz⟩:=I1.list g.l;refine NP pl.isList ?_;refine⟨s1.heap.objs.size,[s1.heap.objs.size],_,_,H1,rfl,I1.kept (t':=s1.toks) fun b o e=>LH _ e,oP a _,⟨_,LN _ rfl,rfl,rfl⟩,fun b hb=>?_,k _ H1 (Same.refl H1) (zW g rr)⟩;have e:b=s1.heap.objs.size:=by simpa using hb
   subst e;exact I1.fpOk (LZ _) (I1.hok.fresh (LZ _))
  | _=>cases ep
section
variable{C : Cn}{elt tg iter : Expr}{ifs : List Expr}{scope : Scope}{pos : Nf}{N' : List Str}{nt : Nat}{idx : List Nat}{fi : PSt → R (List PV)}{h : Tgt}{t : PSt → R Bool}{fe : PSt → R PV}
theorem Ak(O:CompOk C.X.N C.X.env.scope scope N' nt idx)(hi:EIS C tg iter fi)
  (hg:∀cl L s H fp,TCt (cy C N' scope cl L s H fp) tg h) (he:∀cl L s H fp,EV (cy C N' scope cl L s H fp) elt fe)
  (hs:∀x,O8 iter C.X.env x=pure x:=by intro _;rfl) (hc:C.X.calm=true:=by rfl) (hlow:AD nt h:=by repeat' (first | exact rg | exact o7 (by decide) | apply rf | apply o8)) (ht:∀cl L s H fp,ETs (cy C N' scope cl L s H fp) ifs t:=by exact fun _ _ _ _ _=>rE):EN C (.ListComp elt [⟨tg,iter,ifs,0⟩] scope pos) (dI fi h t fe nt idx):=by
 intro pins s σ H Q I ⟨ρ,vw,q⟩;rw[eval_ListComp];refine Po (use:=none) rfl hs (fu fun y hy hk=>I.ok.has y.1 (O.free y hy hk)) O.kind O.names ?_
 refine thn (hi pins s σ H (fun J H'=>∃ps qs,Same H H'/\ItS C.X.K J H' ps/\bz h t fe (d7 nt idx ρ) ps=.ok qs/\qs.length<=sizeLine/\∀a H'',Same H H''->H a=none->cP C.X.K H'' a (.lst qs)->Q (.ref a) H'') I
  ⟨ρ,vw,q.bind.imp fun ps _ k J H' s' ip=>?_⟩) fun v s1 h1=>thn h1 fun itv s2 h2=>?_
 ·obtain⟨qs,e1,k⟩:=wU k.bind
  obtain⟨z,k⟩:=jo k;exact⟨ps,qs,s',ip,e1,z,k⟩
 ·obtain⟨it,fp,tn,J,H2,e,I2,T,st2,f2,ps,qs,sm,ip,e1,hz,k⟩:=h2
  subst e;refine nc O hc hg hlow ht he I2 T st2 f2 (vw.same sm) ip e1 hz fun D L σ' H' s' xs I' sm' nD hD rp hL=>?_;obtain⟨m,hn,_⟩:=id I'.loc;have IB:=m3 I2 f2 I';refine⟨m,hn,fun h' sb=>⟨.ref D,H',lZ IB I'.free ?_ (MR I2.sz hL) ?_ ?_ sb,rfl,k D H' (sm.trans sm') (sm.free nD) ⟨xs,hD,rp⟩⟩⟩
  ·exact ML (LK I2.lt hL)
  ·intro x c ec z
   obtain⟨v,qc⟩:=I2.cell x c ec;have z:c=L:=z;exact Mk _ (LK (z▸qc.lt) hL)
  ·intro p hp z
   have z:p.1=L:=z;exact Mk _ (LK (z▸LM (I2.pin p hp).1) hL)
end
end PU
namespace PU
open PySem PySem.Spec PyProof.Rows L2 PySem.SeqAt
variable[TW]
theorem Ah{C:Cn}{a b c:Expr}{fa fb fc:PSt->R PV}{pos:Nf}{op op':SE}{g g':PV->PV->Option PV}(ho:OpR C.X (MG op) (rP C.X.K g))(ho':OpR C.X (MG op') (rP C.X.K g'))(hg:uJ g)(hg':uJ g')(ha:EO C a fa)(hb:EO C b fb)(hc:EO C c fc)
  (hm:So [op,op'] [b,c]=false:=by with_unfolding_all rfl):ET C (.Compare a [op,op'] [b,c] pos) (bU (kf fa fb fc g g')):=by
 intro pins s σ H Q I ⟨ρ,vw,q⟩;refine zq ho ho' ha hb hc hm pins s σ H Q I ?_;have q1:=q.bind;refine⟨ρ,vw,q1.bind.imp fun p _ k v H1 s1 r1=>⟨ρ,vw.same s1,(k.bind.same s1).imp fun p2 _ k2 u H2 s2 r2=>?_⟩⟩;obtain⟨z,ez,k3⟩:=k2.bind.ofO;obtain⟨bb,rfl⟩:=hg _ _ _ ez;refine⟨p,p2,.bl bb,r1.same s2,r2,ez,fun w H3 s3 r3=>?_⟩;cases (show w=.bl bb from r3);refine⟨bb,rfl,?_⟩;have s13:=(s1.trans s2).trans s3;cases bb with
 | true=>
  refine zX ⟨ρ,vw.same s13,?_⟩;refine(RQ.same (RQ.bind k3) s13).imp fun p3 _ k4 w4 H4 s4 r4=>?_;obtain⟨z2,ez2,k5⟩:=k4.ofO;obtain⟨b2,rfl⟩:=hg' _ _ _ ez2;refine⟨p2,p3,.bl b2,(r2.same s3).same s4,r4,ez2,fun w5 H5 s5 r5=>?_⟩;cases (show w5=.bl b2 from r5);obtain⟨b3,eb,k6⟩:=k5.ofO;cases eb;exact⟨b2,rfl,k6 H5 ((s13.trans s4).trans s5)⟩
 | false=>
  have k3:RQ C H (R.ofO (kj (.bl false))) (fun b=>∀H',Same H H'->Q b H'):=k3;obtain⟨b3,eb,k6⟩:=RQ.ofO k3;cases eb;exact zY ⟨false,rfl,k6 H3 s13⟩
end PU
namespace PU
open PySem L2
def HM(p:PV):R (List PV):=match p with
 | .int j=>if j.natAbs<1000000000 then .ok (dU 0 j.toNat) else .no
 | _=>.no
theorem tW{j:Int}(h0:0<=j)(h1:j<1000000000):HM (.int j)=.ok (dU 0 j.toNat):=by
 unfold HM;exact if_pos (by omega)
section
def EC(g':PSt->R Fl):R Fl->R Fl
 | .ok (.next ρ)=>g' ρ
 | .ok (.brk ρ)=>.ok (.brk ρ)
 | .ok (.cont ρ)=>.ok (.cont ρ)
 | .ok (.ret p)=>.ok (.ret p)
 | .er x=>.er x
 | .no=>.no
def sL{α β:Type}(f:α->β):R α->R β
 | .ok a=>.ok (f a)
 | .er x=>.er x
 | .no=>.no
def gP{α β:Type}(f:α->R β):R α->R β
 | .ok a=>f a
 | .er x=>.er x
 | .no=>.no
def ifK{α:Type}(g g':PSt->R α)(ρ:PSt):R Bool->R α
 | .ok true=>g ρ
 | .ok false=>g' ρ
 | .er x=>.er x
 | .no=>.no
def rT{α β γ:Type}(f:α->β->R γ):R α->R β->R γ
 | .ok a,.ok b=>f a b
 | .ok _,.er x=>.er x
 | .ok _,.no=>.no
 | .er x,_=>.er x
 | .no,_=>.no
variable{α : Type}{ρ : PSt}{f fa fb fc : PSt → R PV}{g g' : PSt → R Fl}{t u : PSt → R Bool}{i : Nat}
@[simp] theorem DU:EC g' (.ok (.next ρ))=g' ρ:=by unfold EC;exact Lr _
@[simp] theorem FI(p:PV):EC g' (.ok (.ret p))=.ok (.ret p):=by unfold EC;exact Lr _
@[simp] theorem KL{β:Type}(f:α->β)(a:α):sL f (.ok a)=.ok (f a):=by unfold sL;exact Lr _
@[simp] theorem ml{β:Type}(f:α->R β)(a:α):gP f (.ok a)=f a:=by unfold gP;exact Lr _
@[simp] theorem JV(g g':PSt->R α):ifK g g' ρ (.ok true)=g ρ:=by unfold ifK;exact Lr _
@[simp] theorem JW(g g':PSt->R α):ifK g g' ρ (.ok false)=g' ρ:=by unfold ifK;exact Lr _
@[simp] theorem CI{β γ:Type}(f:α->β->R γ)(a:α)(b:β):rT f (.ok a) (.ok b)=f a b:=by unfold rT;exact Lr _
@[simp] theorem AH:bX g g' ρ=EC g' (g ρ):=by
 unfold bX;cases g ρ with
 | ok fl=>cases fl <;> rfl
 | er x=>rfl
 | no=>rfl
@[simp] theorem GX:bA ρ=.ok (.next ρ):=by unfold bA;exact Lr _
@[simp] theorem Jo:cv f ρ=sL .ret (f ρ):=by unfold cv;cases f ρ <;> rfl
@[simp] theorem Ka:ifF t g g' ρ=ifK g g' ρ (t ρ):=by
 unfold ifF;cases t ρ with
 | ok b=>cases b <;> rfl
 | er x=>rfl
 | no=>rfl
def HG(i:Nat)(ρ:PSt)(p:PV):Fl:=.next (ρ.set i (.val p))
def I8(i:Nat)(ρ:PSt)(p:PV):Fl:=.next (ρ.set i (.own p))
@[simp] theorem KD(p:PV):HG i ρ p=.next (ρ.set i (.val p)):=by unfold HG;exact Lr _
@[simp] theorem KH(p:PV):I8 i ρ p=.next (ρ.set i (.own p)):=by unfold I8;exact Lr _
@[simp] theorem E9:dN i f ρ=sL (HG i ρ) (f ρ):=by unfold dN;cases f ρ <;> rfl
@[simp] theorem Jr:zD i f ρ=sL (I8 i ρ) (f ρ):=by unfold zD;cases f ρ <;> rfl
@[simp] theorem Jz:Ad i g ρ=g (rC i ρ):=by unfold Ad;exact Lr _
@[simp] theorem Ld(j:Int):kI j ρ=.ok (.int j):=by unfold kI;exact Lr _
@[simp] theorem Le(j:Bool):kB j ρ=.ok (.bl j):=by unfold kB;exact Lr _
@[simp] theorem Lc:kN ρ=.ok .non:=by unfold kN;exact Lr _
@[simp] theorem La(j:Str):kS j ρ=.ok (.str j):=by unfold kS;exact Lr _
@[simp] theorem Lb(j:PV):kP j ρ=.ok j:=by unfold kP;exact Lr _
@[simp] theorem Jv:aQ ρ=.ok []:=by unfold aQ;exact Lr _
def Du(p:PV)(ps:List PV):R (List PV):=.ok (p::ps)
@[simp] theorem JZ(p:PV)(ps:List PV):Du p ps=.ok (p::ps):=by unfold Du;exact Lr _
@[simp] theorem Hl{fs:PSt->R (List PV)}:a7 f fs ρ=rT Du (f ρ) (fs ρ):=by unfold a7;cases f ρ <;> cases fs ρ <;> rfl
def tupP(ps:List PV):R PV:=if ps.length<=16777216 then .ok (.tup ps) else .no
def lstP(ps:List PV):R PV:=if ps.length<=16777216 then .ok (.lst ps) else .no
@[simp] theorem IG(ps:List PV):tupP ps=if ps.length<=16777216 then .ok (.tup ps) else .no:=by unfold tupP;exact Lr _
@[simp] theorem FL(ps:List PV):lstP ps=if ps.length<=16777216 then .ok (.lst ps) else .no:=by unfold lstP;exact Lr _
@[simp] theorem Jl{fs:PSt->R (List PV)}:gQ fs ρ=gP tupP (fs ρ):=by
 unfold gQ;cases fs ρ with
 | ok ps=>simp only[R.ok_bind,iB,ml,IG];split <;> rfl
 | er x=>rfl
 | no=>rfl
@[simp] theorem Jx{fs:PSt->R (List PV)}:kD fs ρ=gP lstP (fs ρ):=by
 unfold kD;cases fs ρ with
 | ok ps=>simp only[R.ok_bind,iB,ml,FL];split <;> rfl
 | er x=>rfl
 | no=>rfl
def opP(g:PV->PV->Option PV)(p q:PV):R PV:=R.ofO (g p q)
def op1(g:PV->Option PV)(p:PV):R PV:=R.ofO (g p)
@[simp] theorem Lk(g:PV->PV->Option PV)(p q:PV):opP g p q=R.ofO (g p q):=by unfold opP;exact Lr _
@[simp] theorem KI(g:PV->Option PV)(p:PV):op1 g p=R.ofO (g p):=by unfold op1;exact Lr _
@[simp] theorem JD{g:PV->PV->Option PV}:ai fa fb g ρ=rT (opP g) (fa ρ) (fb ρ):=by unfold ai;cases fa ρ <;> cases fb ρ <;> rfl
@[simp] theorem vn{g:PV->Option PV}:un1 f g ρ=gP (op1 g) (f ρ):=by unfold un1;cases f ρ <;> rfl
def Hu(p:PV):R Bool:=R.ofO (kj p)
@[simp] theorem KC(p:PV):Hu p=R.ofO (kj p):=by unfold Hu;exact Lr _
@[simp] theorem Jm:bU f ρ=gP Hu (f ρ):=by unfold bU;cases f ρ <;> rfl
@[simp] theorem JG:GT t u ρ=ifK u (fun _=>.ok false) ρ (t ρ):=by
 unfold GT;cases t ρ with
 | ok b=>cases b <;> rfl
 | er x=>rfl
 | no=>rfl
@[simp] theorem K7:orB t u ρ=ifK (fun _=>.ok true) u ρ (t ρ):=by
 unfold orB;cases t ρ with
 | ok b=>cases b <;> rfl
 | er x=>rfl
 | no=>rfl
@[simp] theorem Js:nZ t ρ=sL not (t ρ):=by unfold nZ;cases t ρ <;> rfl
def Gh(fb:PSt->R PV)(ρ:PSt)(p:PV):R PV:=match p with
 | .bl true=>fb ρ
 | .bl false=>.ok (.bl false)
 | _=>.no
def orK(fb:PSt->R PV)(ρ:PSt)(p:PV):R PV:=match p with
 | .bl true=>.ok (.bl true)
 | .bl false=>fb ρ
 | _=>.no
@[simp] theorem IR:Gh fb ρ (.bl true)=fb ρ:=by unfold Gh;exact Lr _
@[simp] theorem IS:Gh fb ρ (.bl false)=.ok (.bl false):=by unfold Gh;exact Lr _
@[simp] theorem JR:orK fb ρ (.bl true)=.ok (.bl true):=by unfold orK;exact Lr _
@[simp] theorem JS:orK fb ρ (.bl false)=fb ρ:=by unfold orK;exact Lr _
@[simp] theorem JF:yH fa fb ρ=gP (Gh fb ρ) (fa ρ):=by unfold yH;cases fa ρ <;> rfl
@[simp] theorem K6:orV fa fb ρ=gP (orK fb ρ) (fa ρ):=by unfold orV;cases fa ρ <;> rfl
@[simp] theorem K9:ifV t fa fb ρ=ifK fa fb ρ (t ρ):=by
 unfold ifV;cases t ρ with
 | ok b=>cases b <;> rfl
 | er x=>rfl
 | no=>rfl
@[simp] theorem E7:gN ρ=.ok true:=by unfold gN;exact Lr _
def Dy(F:List PV->Option PV)(ps:List PV):R PV:=R.ofO (F ps)
@[simp] theorem K0(F:List PV->Option PV)(ps:List PV):Dy F ps=R.ofO (F ps):=by unfold Dy;exact Lr _
@[simp] theorem Hn{fs:PSt->R (List PV)}{F:List PV->Option PV}:bg fs F ρ=gP (Dy F) (fs ρ):=by unfold bg;cases fs ρ <;> rfl
def itQ(F:PV->Option (List PV))(p:PV):R (List PV):=R.ofO (F p)
@[simp] theorem Ll(F:PV->Option (List PV))(p:PV):itQ F p=R.ofO (F p):=by unfold itQ;exact Lr _
@[simp] theorem K8:itF f ρ=gP (itQ jm) (f ρ):=by unfold itF;cases f ρ <;> rfl
@[simp] theorem Hh:uO f ρ=gP (itQ xY) (f ρ):=by unfold uO;cases f ρ <;> rfl
def J4(h:Tgt)(g:PSt->R Fl)(ρ:PSt)(ps:List PV):R Fl:=qj h g ps ρ
@[simp] theorem KN(h:Tgt)(ps:List PV):J4 h g ρ ps=qj h g ps ρ:=by unfold J4;exact Lr _
@[simp] theorem JC{fi:PSt->R (List PV)}{h:Tgt}:sR fi h g ρ=gP (J4 h g ρ) (fi ρ):=by unfold sR;cases fi ρ <;> rfl
@[simp] theorem Jn:zf f ρ=gP HM (f ρ):=by unfold zf;cases f ρ <;> rfl
def Ht(h:Tgt)(ρ:PSt)(p:PV):R Fl:=sL .next (R.ofO (h p ρ))
@[simp] theorem IF(h:Tgt)(p:PV):Ht h ρ p=sL .next (R.ofO (h p ρ)):=by unfold Ht;exact Lr _
@[simp] theorem Jj{h:Tgt}:GH f h ρ=gP (Ht h ρ) (f ρ):=by
 unfold GH;cases f ρ with
 | ok p=>simp only[R.ok_bind,ml,IF];cases h p ρ <;> rfl
 | er x=>rfl
 | no=>rfl
@[simp] theorem Gp:sH ρ=.ok none:=by unfold sH;exact Lr _
def aP(p:PV):R (Option Int):=match p with
 | .int i=>.ok (some i)
 | _=>.no
@[simp] theorem Lm(i:Int):aP (.int i)=.ok (some i):=by unfold aP;exact Lr _
@[simp] theorem Ho:vb f ρ=gP aP (f ρ):=by unfold vb;cases f ρ <;> rfl
def slQ(p:PV)(lh:Option Int×Option Int):R PV:=R.ofO (gSl p lh.1 lh.2)
def Cm(a b:Option Int):R (Option Int×Option Int):=.ok (a,b)
@[simp] theorem Li(p:PV)(a b:Option Int):slQ p (a,b)=R.ofO (gSl p a b):=by unfold slQ;exact Lr _
@[simp] theorem JQ(a b:Option Int):Cm a b=.ok (a,b):=by unfold Cm;exact Lr _
@[simp] theorem Gn{l h:PSt->R (Option Int)}:p7 f l h ρ=rT slQ (f ρ) (rT Cm (l ρ) (h ρ)):=by unfold p7;cases f ρ <;> cases l ρ <;> cases h ρ <;> rfl
@[simp] theorem Jw:newD ρ=.ok (.dct [] []):=by unfold newD;exact Lr _
@[simp] theorem Ju:GN ρ=.ok []:=by unfold GN;exact Lr _
def FG(p:PV):R Key:=R.ofO (gm p)
@[simp] theorem Be(p:PV):FG p=R.ofO (gm p):=by unfold FG;exact Lr _
def kvQ(k:Key)(p:PV):R (Key×PV):=.ok (k,p)
@[simp] theorem KM(k:Key)(p:PV):kvQ k p=.ok (k,p):=by unfold kvQ;exact Lr _
def Dt(a:Key×PV)(r:List (Key×PV)):R (List (Key×PV)):=.ok (a::r)
@[simp] theorem IL(a:Key×PV)(r:List (Key×PV)):Dt a r=.ok (a::r):=by unfold Dt;exact Lr _
@[simp] theorem Hk{fd:PSt->R (List (Key×PV))}:uR fa fb fd ρ=rT Dt (rT kvQ (gP FG (fa ρ)) (fb ρ)) (fd ρ):=by
 unfold uR;cases fa ρ with
 | ok p=>simp only[R.ok_bind,ml,Be];cases gm p <;> cases fb ρ <;> cases fd ρ <;> rfl
 | er x=>cases fb ρ <;> cases fd ρ <;> rfl
 | no=>cases fb ρ <;> cases fd ρ <;> rfl
def Dq(kps:List (Key×PV)):R PV:=if kps.length<=15 then .ok (pT kps) else .no
@[simp] theorem IJ(kps:List (Key×PV)):Dq kps=if kps.length<=15 then .ok (pT kps) else .no:=by unfold Dq;exact Lr _
@[simp] theorem Hi{fd:PSt->R (List (Key×PV))}:Ap fd ρ=gP Dq (fd ρ):=by unfold Ap;cases fd ρ <;> rfl
def Dv(h:Tgt)(t:PSt->R Bool)(fe:PSt->R PV)(ρ:PSt)(ps:List PV):R PV:=gP lstP (yC (bz h t fe ρ ps))
@[simp] theorem FM(h:Tgt)(ps:List PV):Dv h t f ρ ps=gP lstP (yC (bz h t f ρ ps)):=by unfold Dv;exact Lr _
@[simp] theorem Hm{fi:PSt->R (List PV)}{h:Tgt}{nt:Nat}{idx:List Nat}:dI fi h t f nt idx ρ=gP (Dv h t f (d7 nt idx ρ)) (fi ρ):=by
 unfold dI;cases fi ρ with
 | ok ps=>
  simp only[R.ok_bind,ml,FM];cases bz h t f (d7 nt idx ρ) ps with
  | ok qs=>simp only[yC,R.ok_bind,ml,FL,iB];split <;> rfl
  | er x=>rfl
  | no=>rfl
 | er x=>rfl
 | no=>rfl
@[simp] theorem GZ(p:PV):ak i p ρ=some (ρ.set i (.val p)):=by unfold ak;exact Lr _
@[simp] theorem Jt:gJ [] ρ=some ρ:=by unfold gJ;exact Lr _
@[simp] theorem Hj{h:Tgt}{h':vc}(p:PV)(r:List PV):aE h h' (p::r) ρ=(h p ρ).bind fun ρ1=>h' r ρ1:=by unfold aE;exact Lr _
@[simp] theorem Jk{n:Nat}{h:vc}(ps:List PV):gF n h (.tup ps) ρ=if ps.length=n then h ps ρ else none:=by unfold gF;exact Lr _
@[simp] theorem Gq(a:α):yC (.ok a)=.ok a:=by unfold yC;exact Lr _
end
section
variable{p : PV}{l : Sl}{ρ : PSt}{i : Nat}
@[simp] theorem vq:a8 0 (.val p::ρ)=.ok p:=by unfold a8;exact Lr _
@[simp] theorem BC:a8 (i+1) (l::ρ)=a8 i ρ:=by unfold a8;rw[Lu]
@[simp] theorem He:lN 0 (.val p::ρ)=.ok p:=by unfold lN;exact Lr _
@[simp] theorem Gs:lN 0 (.own p::ρ)=.ok p:=by unfold lN;exact Lr _
@[simp] theorem Hd:lN (i+1) (l::ρ)=lN i ρ:=by unfold lN;rw[Lu]
@[simp] theorem JB:rC 0 (.own p::ρ)=.val p::ρ:=by unfold rC;exact Lr _
@[simp] theorem Hg:rC 0 (.val p::ρ)=.val p::ρ:=by unfold rC;exact Lr _
theorem xJ:rC (i+1) (l::ρ)=l::rC i ρ:=by
 unfold rC;simp only[Lu];cases ρ[i]? with
 | none=>rfl
 | some x=>cases x <;> rfl
@[simp] theorem Jy:rC (i+1) (l::ρ)=l::rC i ρ:=xJ
def roA(i:Nat)(ρ:PSt):Sl:=roS ρ[i]?
@[simp] theorem KG:roA 0 (.val p::ρ)=.val p:=by unfold roA roS;exact Lr _
@[simp] theorem KF:roA (i+1) (l::ρ)=roA i ρ:=by unfold roA;rw[Lu]
theorem d8(nt:Nat)(idx:List Nat):d7 nt idx ρ=Mg nt .no++idx.map fun i=>roA i ρ:=by unfold d7 roA;exact Lr _
def Bk(i:Nat)(ρ:PSt)(p:PV):R PSt:=match ρ[i]? with
 | some (.own (.lst ps))=>if ps.length<16777216 then .ok (ρ.set i (.own (.lst (ps++[p])))) else .no
 | _=>.no
def yE(i:Nat)(ρ:PSt):Bool:=match ρ[i]? with
 | some (.own (.lst _))=>true
 | _=>false
def Au(l:Sl)(ρ:PSt):PSt:=l::ρ
@[simp] theorem IK:Au l ρ=l::ρ:=by unfold Au;exact Lr _
@[simp] theorem K2(ps:List PV):Bk 0 (.own (.lst ps)::ρ) p=if ps.length<16777216 then .ok (.own (.lst (ps++[p]))::ρ) else .no:=by unfold Bk;exact Lr _
@[simp] theorem K1:Bk (i+1) (l::ρ) p=sL (Au l) (Bk i ρ p):=by
 unfold Bk;rw[Lu];cases ρ[i]? with
 | none=>rfl
 | some x=>
  cases x with
  | own q=>
   cases q with
   | lst ps=>dsimp only;split <;> rfl
   | _=>rfl
  | _=>rfl
@[simp] theorem JY(ps:List PV):yE 0 (.own (.lst ps)::ρ)=true:=by unfold yE;exact Lr _
@[simp] theorem JX:yE (i+1) (l::ρ)=yE i ρ:=by unfold yE;rw[Lu]
def Gf(i:Nat)(ρ:PSt)(p:PV):R Fl:=sL .next (Bk i ρ p)
@[simp] theorem FN:Gf i ρ p=sL .next (Bk i ρ p):=by unfold Gf;exact Lr _
theorem DE(f:PSt->R PV)(h:yE i ρ=true):yr i f ρ=gP (Gf i ρ) (f ρ):=by
 unfold yE at h;unfold yr;cases e:ρ[i]? with
 | none=>rw[e] at h;cases h
 | some x=>
  rw[e] at h;cases x with
  | own q=>
   cases q with
   | lst ps=>
    dsimp only;cases f ρ with
    | ok p=>
     simp only[R.ok_bind,ml,FN];unfold Bk;rw[e];dsimp only
     split <;> rfl
    | er x=>rfl
    | no=>rfl
   | _=>cases h
  | _=>cases h
def GS(b:Bool)(i:Nat)(ρ:PSt)(r:R PV):R Fl:=if b=true then gP (Gf i ρ) r else .no
@[simp] theorem FO(r:R PV):GS true i ρ r=gP (Gf i ρ) r:=by unfold GS;exact if_pos rfl
@[simp] theorem JE(f:PSt->R PV):yr i f ρ=GS (yE i ρ) i ρ (f ρ):=by
 cases h:yE i ρ with
 | true=>rw[DE f h,FO]
 | false=>
  unfold GS;rw[if_neg LX];unfold yE at h;unfold yr
  split
  ·rename_i ps e
   rw[e] at h;cases h
  ·rfl
def AV(i:Nat)(ρ:PSt)(k:Key)(p:PV):R PSt:=match ρ[i]? with
 | some (.own (.dct ks ps))=>if ks.length<16777216 then .ok (ρ.set i (.own (ur ks ps k p))) else .no
 | _=>.no
def CT(i:Nat)(ρ:PSt):Bool:=match ρ[i]? with
 | some (.own (.dct _ _))=>true
 | _=>false
@[simp] theorem JP(ks:List Key)(ps:List PV)(k:Key):AV 0 (.own (.dct ks ps)::ρ) k p=if ks.length<16777216 then .ok (.own (ur ks ps k p)::ρ) else .no:=by unfold AV;exact Lr _
@[simp] theorem JO(k:Key):AV (i+1) (l::ρ) k p=sL (Au l) (AV i ρ k p):=by
 unfold AV;rw[Lu];cases ρ[i]? with
 | none=>rfl
 | some x=>
  cases x with
  | own q=>
   cases q with
   | dct ks ps=>dsimp only;split <;> rfl
   | _=>rfl
  | _=>rfl
@[simp] theorem II(ks:List Key)(ps:List PV):CT 0 (.own (.dct ks ps)::ρ)=true:=by unfold CT;exact Lr _
@[simp] theorem IH:CT (i+1) (l::ρ)=CT i ρ:=by unfold CT;rw[Lu]
def GK(i:Nat)(ρ:PSt)(p:PV)(k:Key):R Fl:=sL .next (AV i ρ k p)
@[simp] theorem FJ(k:Key):GK i ρ p k=sL .next (AV i ρ k p):=by unfold GK;exact Lr _
def HQ(b:Bool)(i:Nat)(ρ:PSt)(v:R PV)(k:R PV):R Fl:=if b=true then rT (GK i ρ) v (gP FG k) else .no
@[simp] theorem FK(v k:R PV):HQ true i ρ v k=rT (GK i ρ) v (gP FG k):=by unfold HQ;exact if_pos rfl
@[simp] theorem Jq(fk fv:PSt->R PV):C7 i fk fv ρ=HQ (CT i ρ) i ρ (fv ρ) (fk ρ):=by
 unfold C7 CT;cases e:ρ[i]? with
 | none=>rfl
 | some x=>
  cases x with
  | own q=>
   cases q with
   | dct ks ps=>
    dsimp only;rw[FK];cases fv ρ with
    | ok p=>
     simp only[R.ok_bind];cases fk ρ with
     | ok kp=>
      simp only[R.ok_bind,ml,Be];cases gm kp with
      | none=>rfl
      | some k=>
       simp only[R.ofO_some,R.ok_bind,CI,FJ];unfold AV;rw[e];dsimp only
       split <;> rfl
     | er x=>rfl
     | no=>rfl
    | er x=>rfl
    | no=>rfl
   | _=>rfl
  | _=>rfl
end
@[simp] theorem Er(a b:Int):bD (.int a) (.int b)=some (.int (a+b)):=rfl
theorem bZ{a b:Str}(h:a.length+b.length<=16777216):bD (.str a) (.str b)=some (.str (a++b)):=if_pos h
theorem eF{a b:List PV}(h:a.length+b.length<=16777216):bD (.lst a) (.lst b)=some (.lst (a++b)):=if_pos h
@[simp] theorem Ep(a b:List PV):bD (.tup a) (.tup b)=if a.length+b.length<=16777216 then some (.tup (a++b)) else none:=rfl
@[simp] theorem Kb(a b:Int):FW (.int a) (.int b)=some (.int (a-b)):=rfl
theorem vz{a b:Int}(h:a.natAbs<18446744073709551616\/b.natAbs<18446744073709551616):yF (.int a) (.int b)=some (.int (a * b)):=if_pos h
theorem iH{a b:Int}(h:0<b/\b<1073741824):lQ (.int a) (.int b)=some (.int (a / b)):=if_pos h
theorem dW{a b:Int}(h:0<b):i9 (.int a) (.int b)=some (.int (a % b)):=if_pos h
@[simp] theorem v_lt(a b:Int):gLt (.int a) (.int b)=some (.bl (decide (a<b))):=rfl
@[simp] theorem Lf(a b:Int):gLe (.int a) (.int b)=some (.bl (decide (a<=b))):=rfl
@[simp] theorem Lg(a b:Int):gGt (.int a) (.int b)=some (.bl (decide (b<a))):=rfl
@[simp] theorem Lh(a b:Int):gGe (.int a) (.int b)=some (.bl (decide (b<=a))):=rfl
@[simp] theorem Gy(x y:Str):gLt (.str x) (.str y)=some (.bl (decide (x.cps.toList<y.cps.toList))):=rfl
@[simp] theorem GG(a b:Int):gEq (.int a) (.int b)=some (.bl (decide (a=b))):=by simp[gEq,lE,scV,AO]
@[simp] theorem GF(a b:Str):gEq (.str a) (.str b)=some (.bl (decide (a=b))):=by simp[gEq,lE,scV,AO]
@[simp] theorem Gx(a b:Int):gNe (.int a) (.int b)=some (.bl (!decide (a=b))):=by simp[gNe,lE,scV,AO]
@[simp] theorem yR(a b:Str):gNe (.str a) (.str b)=some (.bl (!decide (a=b))):=by simp[gNe,lE,scV,AO]
@[simp] theorem Gv(b:Bool):kj (.bl b)=some b:=rfl
@[simp] theorem Ef(ps:List PV):kj (.lst ps)=some (!ps.isEmpty):=rfl
@[simp] theorem Eg(ks:List Key)(ps:List PV):kj (.dct ks ps)=some (!ks.isEmpty):=rfl
@[simp] theorem El(ps:List PV):iC (.lst ps)=some (.int ps.length):=rfl
@[simp] theorem Ek(ps:List PV):iC (.tup ps)=some (.int ps.length):=rfl
theorem gR{x:Str}(h:x.length<=16777216):iC (.str x)=some (.int x.length):=if_pos h
@[simp] theorem ny(ps:List PV)(i:Int):gIx (.lst ps) (.int i)=atI ps i:=rfl
@[simp] theorem Gz(ps:List PV)(i:Int):gIx (.tup ps) (.int i)=atI ps i:=rfl
theorem nv{z:Str}{i:Int}{c:Nat}(h:z.length<=16777216)(e:atI z.cps.toList i=some c):gIx (.str z) (.int i)=some (.str ⟨#[c]⟩):=by
 show (if z.length<=16777216 then (atI z.cps.toList i).map fun c=>PV.str ⟨#[c]⟩ else none)=_;rw[if_pos h,e];rfl
@[simp] theorem GA(ks:List Key)(ps:List PV)(k:PV):gIx (.dct ks ps) k=(gm k).bind fun k=>eU ks ps k:=rfl
@[simp] theorem En(i:Int):gm (.int i)=some (.inl i):=rfl
@[simp] theorem Em(x:Str):gm (.str x)=some (.inr x):=rfl
@[simp] theorem mz(k j:Key)(ks:List Key)(p:PV)(ps:List PV):eU (k::ks) (p::ps) j=if k=j then some p else eU ks ps j:=rfl
@[simp] theorem GE(b:Bool):GQ (.bl b)=some (.int (if b then 1 else 0)):=rfl
@[simp] theorem Eo(b:Int):GQ (.int b)=some (.int b):=rfl
@[simp] theorem Ee(ps:List PV):k9 (.lst ps)=some (.tup ps):=rfl
@[simp] theorem Ed(ps:List PV):k9 (.tup ps)=some (.tup ps):=rfl
@[simp] theorem GC(ps:List PV):jm (.lst ps)=some ps:=rfl
@[simp] theorem GB(ps:List PV):jm (.tup ps)=some ps:=rfl
@[simp] theorem GD(ks:List Key)(ps:List PV):jm (.dct ks ps)=some (ks.map xo):=rfl
@[simp] theorem JH(x:Str):xo (.inr x)=.str x:=rfl
@[simp] theorem DK(ps:List PV):xY (.lst ps)=some ((mN ps).map .tup):=rfl
@[simp] theorem DJ(x:Str):xY (.str x)=some ((mN (fA x)).map .tup):=rfl
@[simp] theorem Ei(i:Int):xG (.int i)=if i.natAbs.log2<1920 then some (.str (Pz i)) else none:=rfl
@[simp] theorem Eh(x:Str):xG (.str x)=some (.str x):=rfl
@[simp] theorem Hr(x:Str):ri (.str x)=true:=rfl
@[simp] theorem Gw(ps:List PV)(lo hi:Option Int):gSl (.lst ps) lo hi=some (.lst (yi ps lo hi)):=rfl
theorem bW{α:Type}{xs:List α}{i:Int}{n:Nat}{x:α}(hi:i=n)(h:xs[n]?=some x):atI xs i=some x:=by
 subst hi;have hl:=(Lw.mp h).1;unfold atI ixN;rw[if_pos (by omega),if_pos (by omega)];simpa using h
@[simp] theorem L1{α:Type}(x:α)(xs:List α):atI (x::xs) 0=some x:=bW (n:=0) rfl rfl
@[simp] theorem L0{α:Type}(x y:α)(xs:List α):atI (x::y::xs) 1=some y:=bW (n:=1) rfl rfl
@[simp] theorem KZ{α:Type}(x y z:α)(xs:List α):atI (x::y::z::xs) 2=some z:=bW (n:=2) rfl rfl
theorem xN{h:Tgt}{g:PSt->R Fl}(I:Nat->PSt->Prop):∀(ps:List PV)(n:Nat)(ρ:PSt),I n ρ->
  (∀(i:Nat)(p:PV)(ρ:PSt),ps[i]?=some p->I (n+i) ρ->∃ρ1 ρ2,h p ρ=some ρ1/\(g ρ1=.ok (.next ρ2)\/g ρ1=.ok (.cont ρ2))/\I (n+i+1) ρ2)->
  ∃ρ',qj h g ps ρ=.ok (.next ρ')/\I (n+ps.length) ρ'
 | [],n,ρ,h0,_=>⟨ρ,rfl,h0⟩
 | p::ps,n,ρ,h0,hs=>by
  obtain⟨ρ1,ρ2,e1,e2,i2⟩:=hs 0 p ρ rfl h0
  obtain⟨ρ3,e3,i3⟩:=xN I ps (n+1) ρ2 i2 fun i q ρ' hq hi=>by
   have:=hs (i+1) q ρ' (by simpa using hq) (by rw[show n+(i+1)=n+1+i by omega];exact hi);rw[show n+(i+1)+1=n+1+i+1 by omega] at this;exact this
  refine⟨ρ3,?_,by rw[LS,show n+(ps.length+1)=n+1+ps.length by omega];exact i3⟩;unfold qj;rw[e1];rcases e2 with e2 | e2 <;> (simp only[R.ofO_some,R.ok_bind,e2];exact e3)
theorem ir{h:Tgt}{g:PSt->R Fl}{ps:List PV}{ρ:PSt}(I:Nat->PSt->Prop)(h0:I 0 ρ)
  (hs:∀(i:Nat)(p:PV)(ρ:PSt),ps[i]?=some p->I i ρ->∃ρ1 ρ2,h p ρ=some ρ1/\(g ρ1=.ok (.next ρ2)\/g ρ1=.ok (.cont ρ2))/\I (i+1) ρ2) :
  ∃ρ',qj h g ps ρ=.ok (.next ρ')/\I ps.length ρ':=by
 have:=xN I ps 0 ρ h0 fun i p ρ hp hi=>by
  rw[Pq] at hi ⊢;exact hs i p ρ hp hi
 simpa using this
theorem mI(lo:Int)(n:Nat):(dU lo n).length=n:=by simp[dU]
theorem mJ{lo:Int}{n i:Nat}{p:PV}(h:(dU lo n)[i]?=some p):i<n/\p=.int (lo+i):=by
 unfold dU at h;rw[LR] at h
 by_cases hi:i<n
 ·rw[OB hi] at h
  exact⟨hi,(MK h).symm⟩
 ·rw[MQ (by simpa using hi)] at h
  cases h
theorem forR{h:Tgt}{g:PSt->R Fl}{lo:Int}{n:Nat}{ρ:PSt}(I:Nat->PSt->Prop)(h0:I 0 ρ)
  (hs:∀(i:Nat)(ρ:PSt),i<n->I i ρ->∃ρ1 ρ2,h (.int (lo+i)) ρ=some ρ1/\(g ρ1=.ok (.next ρ2)\/g ρ1=.ok (.cont ρ2))/\I (i+1) ρ2) :
  ∃ρ',qj h g (dU lo n) ρ=.ok (.next ρ')/\I n ρ':=by
 obtain⟨ρ',e,i'⟩:=ir (ps:=dU lo n) I h0 fun i p ρ hp hi=>by
  obtain⟨hn,rfl⟩:=mJ hp;exact hs i ρ hn hi
 rw[mI] at i';exact⟨ρ',e,i'⟩
theorem qu{h:Tgt}{t:PSt->R Bool}{fe:PSt->R PV}{ρ:PSt}(F:Nat->PV):∀(ps:List PV)(n:Nat),
  (∀(i:Nat)(p:PV),ps[i]?=some p->∃ρ1,h p ρ=some ρ1/\t ρ1=.ok true/\fe ρ1=.ok (F (n+i)))->bz h t fe ρ ps=.ok ((M9 ps.length).map fun i=>F (n+i))
 | [],n,_=>rfl
 | p::ps,n,hs=>by
  obtain⟨ρ1,e1,e2,e3⟩:=hs 0 p rfl
  have:=qu F ps (n+1) fun i q hq=>by
   have:=hs (i+1) q (by simpa using hq);rw[show n+1+i=n+(i+1) by omega];exact this
  unfold bz;rw[e1];simp only[R.ofO_some,R.ok_bind,e2,if_true,e3,this];rw[LS,Pl];simp only[LQ,M4,SH]
  congr 2
  apply Ni;intro i _;show F (n+1+i)=F (n+(i+1));rw[show n+1+i=n+(i+1) by omega]
theorem yj{h:Tgt}{t:PSt->R Bool}{fe:PSt->R PV}{ρ:PSt}{ps:List PV}(F:Nat->PV)(hs:∀(i:Nat)(p:PV),ps[i]?=some p->∃ρ1,h p ρ=some ρ1/\t ρ1=.ok true/\fe ρ1=.ok (F i)) :
  bz h t fe ρ ps=.ok ((M9 ps.length).map F):=by
 have:=qu (h:=h) (t:=t) (fe:=fe) (ρ:=ρ) F ps 0 (by simpa using hs);simpa using this
end PU
namespace PU
open PySem PySem.Spec PyProof.Rows L2 PySem.SeqAt
variable[TW]
mutual
def noFn:PV->Bool
 | .fn _ _=>false
 | .tup ps=>r9 ps
 | .lst ps=>r9 ps
 | .dct _ ps=>r9 ps
 | .dtt _ ps=>r9 ps
 | _=>true
def r9:List PV->Bool
 | []=>true
 | p::ps=>noFn p && r9 ps
end
def k8:HO->Bool
 | .tup _=>true
 | .frz _ (.tup _)=>true
 | .frz _ (.lst _)=>true
 | .frz _ (.dK _)=>true
 | .frz _ (.dT _)=>true
 | _=>false
mutual
theorem Rep.pl{K:LC}{H H':Hp}(k:∀b u,H b=some u->k8 u=true->H' b=some u):∀(p:PV){v:V},noFn p=true->Rep K H p v->Rep K H' p v
 | .non,_,_,h=>h
 | .bl _,_,_,h=>h
 | .int _,_,_,h=>h
 | .str _,_,_,h=>h
 | .tup ps,_,n,⟨a,xs,e,h,r⟩=>⟨a,xs,e,h.elim (fun h=>.inl (k _ _ h rfl)) fun h=>.inr ⟨h.1,h.2.elim (fun h=>.inl (h.elim (fun h=>.inl (k _ _ h rfl)) fun ⟨o,h⟩=>.inr ⟨o,k _ _ h rfl⟩)) .inr⟩,aF.pl k ps n r⟩
 | .lst ps,_,n,⟨a,xs,e,h,r⟩=>⟨a,xs,e,by
   rcases h with⟨o,h⟩ | h
   ·exact .inl ⟨o,k _ _ h rfl⟩
   ·exact .inr h,aF.pl k ps n r⟩
 | .dct ks ps,_,n,⟨a,kvs,e,h,ek,r⟩=>⟨a,kvs,e,by
   rcases h with⟨o,h⟩ | h
   ·exact .inl ⟨o,k _ _ h rfl⟩
   ·exact .inr h,ek,aF.pl k ps n r⟩
 | .dtt ks ps,_,n,⟨a,o,kvs,e,h,ek,r⟩=>⟨a,o,kvs,e,k _ _ h rfl,ek,aF.pl k ps n r⟩
 | .fn _ _,_,n,_=>by cases n
theorem aF.pl{K:LC}{H H':Hp}(k:∀b u,H b=some u->k8 u=true->H' b=some u):∀(ps:List PV){xs:List V},r9 ps=true->aF K H ps xs->aF K H' ps xs
 | [],_,_,h=>h
 | p::ps,_,n,⟨x,r,e,h1,h2⟩=>by
  have n:(noFn p && r9 ps)=true:=n;rw[M6] at n;exact⟨x,r,e,Rep.pl k p n.1 h1,aF.pl k ps n.2 h2⟩
end
end PU
namespace PU
open PySem PySem.Spec PyProof.Rows L2 PySem.SeqAt
variable[TW]
section
variable{X : Cx}{pins : List (Addr×Obj)}{σ : L2.St}{H : Hp}{s : LG}
def Bn (X:Cx):Prop:=∃bm o,X.mg "__builtins__"=some (.ref bm)/\bm≠Q8/\bm≠Lv/\X.base.get? bm=some o/\o.cls=.type "module"/\o.dict=some Q8/\o.data=.plain
end
end PU
namespace PU
open PySem PySem.Spec PyProof.Rows L2 PySem.SeqAt
variable[TW]
def L7(X:Cx)(H:Hp)(σ:L2.St):PV->V->Prop
 | .fn L cs,v=>∃f c pm ct xs,v=.ref f/\H f=some (FnAt f (Ba L (fW X.env.cells L.scope.names []) pm c ct))/\H c=some (yy c L.qual)/\
   (fW X.env.cells L.scope.names []).map (·.1)=L.kept/\((fW X.env.cells L.scope.names []).map (·.2)).Nodup/\xs.length=L.kept.length/\aF X.K H cs xs/\
   ∀(j:Nat)(y:Str),L.kept[j]?=some y->∃(i:Nat)(v:V),X.N[i]?=some y/\σ[i]?=some (some v)/\xs[j]?=some v/\X.env.scope.names.lookup y=some .cell
 | p,v=>Rep X.K H p v/\noFn p=true
def Gj(X:Cx)(H:Hp)(σ:L2.St):List PV->List V->Prop
 | [],xs=>xs=[]
 | p::ps,xs=>∃x r,xs=x::r/\L7 X H σ p x/\Gj X H σ ps r
abbrev Ph:=L2.St->Hp->Prop
def Ph.Ok(Φ:Ph):Prop:=∀σ H H',Φ σ H->Same H H'->Φ σ H'
def tL(C:Cn)(Φ:Ph)(f:PSt->R (List PV)):TA:=fun σ H Q=>∃ρ,View C.X.K H σ ρ/\Φ σ H/\RQ C H (f ρ) fun ps=>∀vs H',Same H H'->Gj C.X H' σ ps vs->Q vs H'
def ELF(C:Cn)(Φ:Ph)(es:List Expr)(f:PSt->R (List PV)):Prop:=PA C.X es (tL C Φ f)
def tVF(C:Cn)(Φ:Ph)(f:PSt->R PV):TE:=fun σ H Q=>Φ σ H/\tV C f σ H Q
def EVF(C:Cn)(Φ:Ph)(e:Expr)(f:PSt->R PV):Prop:=PE C.X e (tVF C Φ f)
def tNF(C:Cn)(Φ:Ph)(f:PSt->R PV):TE:=fun σ H Q=>Φ σ H/\tN C f σ H Q
def ENF(C:Cn)(Φ:Ph)(e:Expr)(f:PSt->R PV):Prop:=PE C.X e (tNF C Φ f)
end PU
namespace PU
theorem Hx[TW]{H:L2.Hp}{ts:List PySem.Addr}(e:TW.tabs=ts)(h:∀P∈ts,H P=some (.tbl #[])):tQ H:=fun P hP=>⟨#[],h P (e▸hP),trivial,fun pos v h=>by cases h⟩
end PU
namespace PU
open PySem PySem.Spec PyProof.Rows L2
theorem fsc{N ps:List Str}{sc:Scope}(a:sc.kind=.function:=by rfl)(b:sc.isCoroutine=false:=by rfl)(c:sc.isGenerator=false:=by rfl)(d:N.Nodup:=by decide +kernel)(e:N.take ps.length=ps:=by rfl)
  (f:∀x∈ps,sc.names.lookup x=some .local\/sc.names.lookup x=some .cell:=by decide +kernel) (g:∀y∈sc.names,y.2≠.free:=by decide +kernel):FnScope N ps sc:=⟨a,b,c,d,e,f,g⟩
theorem cok{N ps NX N':List Str}{S scX scope:Scope}{nt:Nat}{idx:List Nat}(_:FnScope N ps S)(e1:NX=N:=by rfl)(e2:scX=S:=by rfl)(a:scope.kind=.function:=by rfl)(b:∀y∈scope.names,y.2≠.cell:=by decide +kernel)
  (c:∀y∈scope.names,y.2=.local->scope.names.lookup y.1=some .local:=by decide +kernel) (d:∀y∈scope.names,y.2=.free->S.names.lookup y.1=some .cell\/S.names.lookup y.1=some .free:=by decide +kernel) (e:N'.length=nt+idx.length:=by rfl)
  (f:(idx.zip (N'.drop nt)).all (fun p=>decide (N[p.1]?=some p.2) && decide (scope.names.lookup p.2=some .free))=true:=by decide +kernel):CompOk NX scX scope N' nt idx:=by
 subst e1 e2;exact⟨a,b,c,d,e,f⟩
def Has(K:LC)(n:Str)(st:Stmt):Prop:=∃(f:Addr)(oc kV dc pm cd ct:LD)(od an:Option Addr)(sl:Array (Option LD)),ME K Lv n=some (some (.ref f))/\
 K.lookup f=some ⟨oc,od,.func (N7 n n (fT st) (bT st) (ab st) .none kV dc pm an cd ct),sl⟩/\OP K cd n=true/\NR K (.ref f)=true
theorem Has.of{K:LC}{n:Str}{st:Stmt}{f:Addr}{oc kV dc pm cd ct:LD}{od an:Option Addr}{sl:Array (Option LD)}(a:ME K Lv n=some (some (.ref f)))
  (l:K.lookup f=some ⟨oc,od,.func (N7 n n (fT st) (bT st) (ab st) .none kV dc pm an cd ct),sl⟩) (c:OP K cd n=true) (k:NR K (.ref f)=true):Has K n st:=⟨_,_,_,_,_,_,_,_,_,_,a,l,c,k⟩
def Hs(K:LC)(mg:Str->Option LD)(n:Str)(st:Stmt):Prop:=∃f fd,Fun K n n st f fd/\mg n=some (.ref f)
theorem Has.fn{K:LC}{n:Str}{st:Stmt}{h:Heap}{mg:Str->Option LD}(x:Has K n st)(X:K.In h)(G:h.Ns Lv mg):Hs K mg n st:=by
 obtain⟨f,_,_,_,_,_,_,_,_,_,a,l,c,k⟩:=x;exact⟨f,_,Bf l c k,OZ X G a⟩
variable[TW]
section
variable{C : Cn}{pos : Nf}
theorem ar(i:Nat){x:Str}(hN:C.X.N[i]?=some x:=by rfl)(hv:Vis C.X.env.scope x:=by first | exact .inl rfl | exact .inr (.inl rfl) | exact .inr (.inr rfl))
  (hd:(x == ("__debug__":Str))=false:=by decide) (hcd:(x == ("__classdict__":Str))=false:=by decide):EO C (.Name x pos) (a8 i):=(aT i hN hv hd hcd).o
theorem ae{i j}:EO C (.Constant (.int i) j pos) (kI i):=bF.o
theorem ay{i j}:EO C (.Constant (.str i) j pos) (kS i):=aV.o
theorem md{C:Cn}{N':List Str}{scope:Scope}{cl}{L}{s}{H}{fp}(i:Nat){x:Str}(hi:N'[i]?=some x:=by rfl)(hx:Loc (cy C N' scope cl L s H fp).X.env.scope x:=by first | exact .inl rfl | exact .inr rfl)(hN:N'.Nodup:=by decide +kernel)
  (hf:(cy C N' scope cl L s H fp).X.fn x=true\/(cy C N' scope cl L s H fp).X.env.scope.names.lookup x=some .local:=by first | exact .inl rfl | exact .inr rfl | assumption):TCt (cy C N' scope cl L s H fp) (.Name x pos) (ak i):=BF i hN hi hx hf
end
section
variable{P : LY}{w : Ly}{K : LC}{mg : Str → Option LD}{base : Heap}{x : Str}{st : Stmt}{N ps : List Str}{k : Nat}{g : PSt → R Fl}
theorem kq(h:Hs K mg x st)(S:FnScope N ps (ab st))
  (hbody:∀(f:Addr)(cdv:LD)(A:M3)(outer:List Qo)(s:LG)(H:Hp)(E:XK),Room k (A.deeper (Oh x (ab st) s.heap.objs.size f cdv))->SVs (Dw P w K mg base N x (ab st) f cdv A outer s H E) (bT st) g)
  (hb:∀(kV doc pm:LD)(an:Option Addr)(cdv ct:LD)(us:List LD),us.length=ps.length->bindArgs (N7 x x (fT st) (bT st) (ab st) .none kV doc pm an cdv ct) ⟨us,[]⟩=pure (ps.zip us):=by
   intro _ _ _ _ _ _ us hl;repeat' (first | (exfalso;simp only[NS] at hl;omega) | (rcases us with _ | ⟨_,us⟩) | rfl)) :
  PF P w K mg base (k+1) x (iR ps.length N.length g):=by
 obtain⟨f,fd,F,hm⟩:=h;exact HU F S hm (F.binds hb) (hbody f)
end
end PU
namespace PU
open PySem PySem.Spec PyProof.Rows L2 PySem.SeqAt
variable[TW]
def tSF(C:Cn)(Φ:Ph)(g:PSt->R Fl):TS:=fun D σ H=>Φ σ H/\tS C g D σ H
def SVF(C:Cn)(Φ:Ph)(st:List Stmt)(g:PSt->R Fl):Prop:=PSs C.X st (tSF C Φ g)
def tBF(C:Cn)(Φ:Ph)(t:PSt->R Bool):TT:=fun σ H Q=>Φ σ H/\tBl C t σ H Q
def ETF(C:Cn)(Φ:Ph)(e:Expr)(t:PSt->R Bool):Prop:=PT C.X e (tBF C Φ t)
end PU
namespace PU
open PySem PySem.Spec PyProof.Rows L2
theorem EJ(a:Addr):L2.RelV (.ref a) (.ref a):=by unfold L2.RelV;exact rfl
theorem rep_conT {w:Ly} {tabs:List Addr} {qual:Nat->Nat->Str} {K:LC} {H:Hp} {a:Addr} {o:Obj} {its:Array LD} {n:Nat} {xs:List V} {ps:List PV} (n2:K.lookup a=some o) (n3:o={ cls:=.type "tuple",data:=.seq its n }) (hc:xA ps=true) (hz:its.size<=sizeLine) (vals:Vals xs its.toList) (reps:@aF ⟨w,tabs,qual⟩ K H ps xs) :
  @Rep ⟨w,tabs,qual⟩ K H (.tup ps) (.ref a):=by
 letI:TW:=⟨w,tabs,qual⟩
 subst n3;exact⟨a,xs,rfl,.inr ⟨hc,.inr ⟨_,its,n,n2,rfl,rfl,hz,vals,rfl⟩⟩,reps⟩
theorem con_tup{w:Ly}{tabs:List Addr}{qual:Nat->Nat->Str}{K:LC}{h:Heap}{mg:Str->Option LD}{x:Str}{a:Addr}{o:Obj}{its:Array LD}{n:Nat}{xs:List V}{ps:List PV}(X:K.In h)(G:h.Ns Lv mg)
  (n1:ME K Lv x=some (some (.ref a))) (n2:K.lookup a=some o) (n3:o={ cls:=.type "tuple",data:=.seq its n }) (hc:xA ps=true) (hz:its.size<=sizeLine) (vals:Vals xs its.toList) (reps:∀H,@aF ⟨w,tabs,qual⟩ K H ps xs) :
  @Con ⟨w,tabs,qual⟩ K mg x (.tup ps):=by
 letI:TW:=⟨w,tabs,qual⟩
 exact⟨.ref a,_,OZ X G n1,rfl,fun H=>rep_conT n2 n3 hc hz vals (reps H)⟩
theorem con_dctT{w:Ly}{tabs:List Addr}{qual:Nat->Nat->Str}{K:LC}{h:Heap}{mg:Str->Option LD}{x:Str}{a:Addr}{o:Obj}(es:List (Str×Sf×Addr)){ep:Nat}{ps:List PV}(X:K.In h)(G:h.Ns Lv mg)
  (n1:ME K Lv x=some (some (.ref a))) (n2:K.lookup a=some o) (n3:o={ cls:=.type "dict",data:=.dict (es.map fun e=>Bi w.params (e.1,e.2.1,.ref e.2.2)).toArray ep }) (hs:(a == Mb)=false)
  (nd:(es.map (·.1)).Nodup) (hz:es.length<=sizeLine) (reps:∀H,@aF ⟨w,tabs,qual⟩ K H ps (es.map fun e=>.ref e.2.2)):@Con ⟨w,tabs,qual⟩ K mg x (.dct (es.map fun e=>.inr e.1) ps):=by
 have e1:es.map (fun e=>Bi w.params (e.1,e.2.1,.ref e.2.2))=(es.map fun e=>(e.1,e.2.1,Mn e.2.2)).map (Bi w.params):=by rw[M4];rfl
 rw[e1] at n3
 have:=con_dct (w:=w) (tabs:=tabs) (qual:=qual) (ps:=ps) (es.map fun e=>(e.1,e.2.1,Mn e.2.2)) X G n1 n2 n3 hs (by rw[M4];exact nd) (by rw[LI];exact hz) (xs:=es.map fun e=>.ref e.2.2) (by
  rw[M4];clear e1 n3 nd hz reps
  induction es with
  | nil=>exact .nil
  | cons e es ih=>exact .cons (EJ _) ih) reps
 rw[M4] at this;exact this
end PU
namespace L2
open PySem PySem.Spec PyProof.Rows
theorem xi{P:LY}{w:Ly}{K:LC}{mg mb:Str->Option LD}{CX:CXT}{k:Nat}{fa a:Addr}{fd:FuncData}{x:Str}{sp:Sp}{s₁:LG}{vs:List LD}{ns:List Int}
  (KX:K.In s₁.heap) (hns:s₁.heap.Ns Lv mg) (hb:s₁.heap.Ns Q8 mb) (hbb:∀x:Str,x≠"__name__"->mb x=N4 x) (hlim:s₁.heap.NoLimit) (hg:s₁.gens=#[])
  (ha:s₁.heap.get? a=some { cls:=.type "list",data:=.seq vs.toArray }) (hi:TM vs ns) (hl:ns.length<=sizeLine) (hr:Room k R1)
  (F:∀base:Heap,K.In base->base.Ns Lv mg->FnOk P w K mg base CX k fa fd [x] sp) (hbind:∀(s:LG)(u:LD),Ry s fd ⟨[u],[]⟩ [(x,u)])
  (hsp:∀H:Hp,Jg H->PU.SqF K H a (ns.map V.int)->sp [.ref a] H (fun v _=>v=.bl true) fun _ _ _=>False)
  (hCX:∀H e s',CX [] H s₁ (fun _ _ _=>False) e s'->False) :
  P9 (Lz P w) R1 (.call (.ref fa) ⟨[.ref a],[]⟩) (fun r s'=>r=.ok (.ret (.bool true))/\OldK s₁.heap s'.heap/\s'.os=s₁.os/\QA s'.gens) s₁:=by
 have rv:=oO hi;have lenV:=hi.length
 have core:∀H:Hp,Jg H->PU.SqF K H a (ns.map V.int)->HOk P w H s₁.heap->(∀b,H b≠none->b=a)->(H a≠none->K.lookup a=none)->
   P9 (Lz P w) R1 (.call (.ref fa) ⟨[.ref a],[]⟩) (fun r s'=>r=.ok (.ret (.bool true))/\OldK s₁.heap s'.heap/\s'.os=s₁.os/\QA s'.gens) s₁:=by
  intro H hO hS hok hA hK;have base_of:∀{b:Addr}{o:Obj},s₁.heap.get? b=some o->H b=none->(A7 s₁.heap H).get? b=some o:=fun e n=>A6 e n
  have noA:∀{b:Addr}{o:Obj}{es:Array DictEntry}{ep:Nat},s₁.heap.get? b=some o->o.data=.dict es ep->H b=none:=fun {b o es ep} e d=>by
   cases q:H b with
   | none=>rfl
   | some u=>
    have e':b=a:=hA b (by rw[q];simp);subst e';rw[ha] at e;cases e;have d':Data.seq vs.toArray _=Data.dict es ep:=d;cases d'
  have nsK:∀{b:Addr}{m:Str->Option LD},s₁.heap.Ns b m->(A7 s₁.heap H).Ns b m:=fun {b m} ⟨o,es,ep,e,d,r⟩=>⟨o,es,ep,base_of e (noA e d),d,r⟩
  have hKb:K.In (A7 s₁.heap H):=fun b o e=>base_of (KX b o e) (by
   cases q:H b with
   | none=>rfl
   | some u=>
    have e':b=a:=hA b (by rw[q];simp);subst e';rw[hK (by rw[q];simp)] at e;cases e)
  have hM:Mod K mg (A7 s₁.heap H):=⟨hKb,nsK hns,⟨mb,nsK hb,hbb⟩,let ⟨mc,h1,h2⟩:=hlim;⟨mc,nsK h1,h2⟩⟩;have e0:Env0 P w K mg (A7 s₁.heap H) R1 [] s₁ H:=⟨rfl,hM,fun b o e=>Cq e,Qd (xD _ _),trivial,fun b hb=>absurd (show b∈([]:List Addr) from hb) (by simp),hok,.of_eq hg⟩;refine Oe ((F _ hKb (nsK hns)).run R1 [] s₁ H ⟨[.ref a],[]⟩ [.ref a] [.ref a] _ _ hr e0 (hbind s₁ (.ref a)) (.cons rfl .nil) (hsp H hO hS)) fun r s' h=>?_;cases r with
  | error e=>exact(hCX H e s' h).elim
  | ok fl=>
   cases fl with
   | next=>exact LP h
   | brk=>exact LP h
   | cont=>exact LP h
   | ret u=>
    obtain⟨v,H',os,bare,un,hok',r',q⟩:=h;have q':v=.bl true:=q;subst q';obtain rfl:u=Se true:=r';refine⟨rfl,OldK.of_keep fun b o e=>?_,os,bare⟩;cases q:H b with
    | none=>exact un.keep b o e q (by intro z;exact absurd (show b∈([]:List Addr) from z) (by simp)) (by simp)
    | some u=>
     rcases hO b with z | ⟨ob,xs,z⟩
     ·rw[q] at z;cases z
     ·have z2:=un.frzs b ob _ z
      obtain⟨e1,_⟩:=hok b _ z;obtain⟨e2,_⟩:=hok' b _ z2;rw[e] at e1;cases e1;exact e2
 cases hk:K.lookup a with
 | some o=>
  have e:=KX a o hk;rw[ha] at e;cases e;refine core (fun _=>none) (fun _=>.inl rfl) (.inr ⟨vs,_,hk,by rw[LI];exact hl,rv⟩) (fun b u z=>by have z':(none:Option HO)=some u:=z;cases z') (fun b z=>absurd rfl z) fun z=>absurd rfl z
 | none=>
  refine core (fun b=>if b=a then some (.frz { cls:=.type "list",data:=.seq vs.toArray } (.lst (ns.map V.int))) else none) (fun b=>?_) (.inl ⟨{ cls:=.type "list",data:=.seq vs.toArray },if_pos rfl⟩) (fun b u z=>?_) (fun b z=>?_) fun _=>hk
  ·by_cases hb:b=a
   ·exact .inr ⟨_,_,if_pos hb⟩
   ·exact .inl (if_neg hb)
  ·by_cases hb:b=a
   ·have z':=(if_pos hb).symm.trans z
    cases z';subst hb;exact⟨ha,by rw[LI];exact hl,vs,_,rv,ha⟩
   ·have z':=(if_neg hb).symm.trans z
    cases z'
  ·by_cases hb:b=a
   ·exact hb
   ·exact absurd (if_neg hb) z
theorem walk_ofF{l:Qc}{n k:Nat}{q:LY}{loose:List Str}{XP:(Str->Option LD)->Heap->Prop}{YP:Ly->Heap->Prop}{d:DefRec}{K:Params->LC}{CX:Ly->CXT}{sp:Ly->Sp}{x:Str}
  (hn:l.most=some n) (hn2:n<=sizeLine) (hdf:d.params.defaults=[]) (hr:Room k R1)
  (hY:∀(w:Ly)(h:Heap),YP w h->(K w.params).In h)
  (F:∀(w:Ly)(mg:Str->Option LD)(fa:Addr)(h:Heap),(K w.params).In h->h.Ns Lv mg->mg d.name=some (.ref fa)->
   ∃fd:FuncData,(∀(s:LG)(u:LD),Ry s fd ⟨[u],[]⟩ [(x,u)])/\
    ∀base:Heap,(K w.params).In base->base.Ns Lv mg->FnOk l.prog w (K w.params) mg base (CX w) k fa fd [x] (sp w))
  (hsp:∀(w:Ly)(H:Hp)(a:Addr)(ns:List Int),ns.length<=n->Jg H->PU.SqF (K w.params) H a (ns.map V.int)->sp w [.ref a] H (fun v _=>v=.bl true) fun _ _ _=>False)
  (hCX:∀(w:Ly)(H:Hp)(s:LG)(e:LD)(s':LG),CX w [] H s (fun _ _ _=>False) e s'->False) :
  PySem.W.WalkO q loose XP YP l.row.toRowW d [] (fun f vs=>Sb f vs):=by
 refine Att.attach_call hn hdf fun w s₀ s₁ mg mb fa o pm cd doc a vs ns G Y ho hd hcd hmg hobj hints hlen hg=>?_;have KX:=hY w _ Y;obtain⟨fd,hb,hF⟩:=F w mg fa _ KX G.T.g hmg;exact xi KX G.T.g G.T.b G.T.builtins G.T.nolimit hg hobj hints (MR hlen hn2) hr hF hb (fun H hO hS=>hsp w H a ns hlen hO hS) fun H e s'=>hCX w H s₁ e s'
end L2
namespace PU
open PySem PySem.Spec PyProof.Rows L2 PySem.SeqAt
variable[TW]
def Bm(K:LC)(B H:Hp)(a b:Addr)(p:PV):Prop:=∃(kvs:List (Key×V))(k:Key)(q:PV)(ps:List PV),p=.dct (kvs.map (·.1)++[k]) (ps++[q])/\H a=some (.dK (kvs++[(k,.ref b)]))/\aF K H ps (kvs.map (·.2))/\cP K H b q/\a≠b/\B a=none/\B b=none
def tM(C:Cn)(f:PSt->R PV):TE:=fun σ H Q=>∃ρ,View C.X.K H σ ρ/\RQ C H (f ρ) fun p=>∀a b H',Same H H'->Bm C.X.K H H' a b p->Q (.ref a) H'
def EM(C:Cn)(e:Expr)(f:PSt->R PV):Prop:=PE C.X e (tM C f)
def EDN(C:Cn)(pos:Nf)(ks:List (Option Expr))(vs:List Expr)(f:PSt->R (List (Key×PV)))(k:Key)(i:Nat):Prop:=∃trs,PPs C.X pos ks vs trs/\
 ∀σ H Q b,(∃ρ,View C.X.K H σ ρ/\σ[i]?=some (some (.ref b))/\RQ C H (f ρ) fun kps=>∀kvs H',Same H H'->ky C.X.K H' kps kvs->Q ((kvs++[(k,V.ref b)]).map fun kv=>(kV kv.1,kv.2)) H')->mF trs σ H Q
omit [TW] in
theorem lD:∀{kvs acc:List (Key×V)},((acc++kvs).map (·.1)).Nodup->fY acc kvs=acc++kvs
 | [],acc,_=>by simp[fY]
 | kv::kvs,acc,h=>by
  have h1:putK acc kv.1 kv.2=acc++[kv]:=by
   unfold putK;rw[if_neg];intro z;obtain⟨y,hy,e⟩:=Pa.mp z;have e:y.1=kv.1:=by simpa using e
   rw[MD,NK] at h;exact h.2.2 y.1 (NO hy) kv.1 (by simp) e
  have:fY acc (kv::kvs)=fY (putK acc kv.1 kv.2) kvs:=rfl;rw[this,h1,lD (by simpa using h)];simp
def RM(C:Cn)(B:Bs)(D:Ends):R Fl->Prop
 | .ok (.ret p)=>∀a b H,Same B.1 H->Bm C.X.K B.1 H a b p->D.rt (.ref a) H
 | _=>False
def tSM(C:Cn)(g:PSt->R Fl):TS:=fun D σ H=>∃ρ B,StOk C.X.K B H σ ρ/\RM C B D (g ρ)
def SVM(C:Cn)(st:List Stmt)(g:PSt->R Fl):Prop:=PSs C.X st (tSM C g)
end PU
section
namespace PU
open PySem PySem.Spec PyProof.Rows L2
inductive XO (α:Type) where
 | ok (a:α) (ρ:PSt) | thr (x:PX) (ρ:PSt) | no
inductive Fb where
 | next | brk | cont | ret (p:PV) | retT (t:Tr)
namespace XO
protected def bind{α β:Type}:XO α->(α->PSt->XO β)->XO β
 | ok a ρ,f=>f a ρ
 | thr x ρ,_=>thr x ρ
 | no,_=>no
def rd{α:Type}(ρ:PSt):R α->XO α
 | .ok a=>ok a ρ
 | .er x=>thr x ρ
 | .no=>no
end XO
def bS(g:PSt->R Fl):PSt->XO Fb:=fun ρ=>match g ρ with
 | .ok (.next ρ')=>.ok .next ρ'
 | .ok (.brk ρ')=>.ok .brk ρ'
 | .ok (.cont ρ')=>.ok .cont ρ'
 | .ok (.ret p)=>.ok (.ret p) ρ
 | .er x=>.thr x ρ
 | .no=>.no
def uD{α:Type}(f:PSt->R α):PSt->XO α:=fun ρ=>XO.rd ρ (f ρ)
def o4:PSt->XO Fb:=fun ρ=>.ok .next ρ
def fV(g g':PSt->XO Fb):PSt->XO Fb:=fun ρ=>(g ρ).bind fun fl ρ'=>match fl with
 | .next=>g' ρ'
 | fl=>.ok fl ρ'
def ifB(t:PSt->XO Bool)(g g':PSt->XO Fb):PSt->XO Fb:=fun ρ=>(t ρ).bind fun k ρ'=>if k=true then g ρ' else g' ρ'
def DO(f:PSt->XO PV):PSt->XO Fb:=fun ρ=>(f ρ).bind fun p ρ'=>.ok (.ret p) ρ'
def GM(t:PSt->XO Bool):PSt->XO Bool:=fun ρ=>(t ρ).bind fun k ρ'=>.ok (!k) ρ'
def GJ(f:PSt->XO PV):PSt->XO Bool:=fun ρ=>(f ρ).bind fun p ρ'=>match p with
 | .bl b=>.ok b ρ'
 | _=>.no
def D3(h:Tgt)(g:PSt->XO Fb):List PV->PSt->XO Fb
 | [],ρ=>.ok .next ρ
 | p::ps,ρ=>match h p ρ with
  | none=>.no
  | some ρ1=>(g ρ1).bind fun fl ρ2=>match fl with
   | .next=>D3 h g ps ρ2
   | .cont=>D3 h g ps ρ2
   | .brk=>.ok .next ρ2
   | .ret p=>.ok (.ret p) ρ2
   | .retT t=>.ok (.retT t) ρ2
def J3(fi:PSt->R (List PV))(h:Tgt)(g:PSt->XO Fb):PSt->XO Fb:=fun ρ=>(XO.rd ρ (fi ρ)).bind fun ps ρ=>D3 h g ps ρ
variable[TW]
structure Zs where
 hp:Hp
 kp:Hp
 at_:Nat->Option (Addr×List Addr)
structure BOk(n:Nat)(Z:Zs)(B:Bs):Prop where
 lim:∀i,n<=i->Z.at_ i=none
 kp:B.2=Z.kp
 same:Same Z.hp B.1
 at_:∀i q,Z.at_ i=some q->B.3 i=some q
 off:∀i a r,B.3 i=some (a,r)->∀b∈a::r,Z.hp b=none
 apart:∀i j a r a' r',B.3 i=some (a,r)->B.3 j=some (a',r')->i≠j->∀b∈a::r,b ∉ a'::r'
 liv:∀i a r,B.3 i=some (a,r)->∀b∈a::r,B.1 b≠none
def StB(K:LC)(n:Nat)(Z:Zs)(H:Hp)(σ:L2.St)(ρ:PSt):Prop:=∃B:Bs,StOk K B H σ ρ/\BOk n Z B
def TB(K:LC)(Z:Zs)(H:Hp)(ρ:PSt):Prop:=Same Z.hp H/\∀i a r t,Z.at_ i=some (a,r)->ρ[i]?=some (.tree t)->b6 K H a r t
section
variable{K : LC}{n : Nat}{Z : Zs}{B : Bs}{H H' : Hp}{σ : L2.St}{ρ : PSt}
theorem BH(S:StOk K B H σ ρ)(b:BOk n Z B)(s:Same B.1 H'):TB K Z H' ρ:=
 ⟨b.same.trans s,fun i a r t e1 e2=>by
  obtain⟨a',r',h1,_,h3⟩:=S.treed i t e2;rw[b.at_ i _ e1] at h1;cases h1;exact h3.same s⟩
theorem StB.tb(h:StB K n Z H σ ρ):TB K Z H ρ:=let ⟨_,S,b⟩:=h;BH S b S.same
theorem StB.grow(h:StB K n Z H σ ρ)(s:Same H H'):StB K n Z H' σ ρ:=let ⟨B,S,b⟩:=h;⟨B,S.grow s,b⟩
theorem StB.vw(h:StB K n Z H σ ρ):View K H σ ρ:=let ⟨_,S,_⟩:=h;S.vw
theorem StB.kpt(h:StB K n Z H σ ρ):Kp Z.kp H:=let ⟨_,S,b⟩:=h;b.kp▸S.kp
theorem BOk.rebase(b:BOk n Z B)(k:Hp):BOk n { Z with kp:=k } ⟨B.1,k,B.3⟩:=⟨b.lim,rfl,b.same,b.at_,b.off,b.apart,b.liv⟩
theorem StB.rebase(h:StB K n Z H σ ρ){k:Hp}(kp:Kp k H):StB K n { Z with kp:=k } H σ ρ:=let ⟨_,S,b⟩:=h;⟨_,S.rebase kp,b.rebase k⟩
theorem StB.back{k:Hp}(h:StB K n { Z with kp:=k } H σ ρ)(kp:Kp Z.kp k):StB K n Z H σ ρ:=by
 obtain⟨B,S,b⟩:=h;have e:B.2=k:=b.kp;exact⟨⟨B.1,Z.kp,B.3⟩,S.rebase (kp.trans (e▸S.kp)),b.lim,rfl,b.same,b.at_,b.off,b.apart,b.liv⟩
end
def RX(C:Cn)(Z:Zs){α:Type}(r:XO α)(k:α->PSt->Prop):Prop:=
 match r with
 | .ok a ρ=>k a ρ
 | .thr x ρ=>∀H,TB C.X.K Z H ρ->C.Ac x H
 | .no=>False
section
variable{C : Cn}{n : Nat}{Z : Zs}{α β : Type}{r : XO α}{k k' : α → PSt → Prop}
theorem RX.imp(h:RX C Z r k)(f:∀a ρ,r=.ok a ρ->k a ρ->k' a ρ):RX C Z r k':=by
 cases r with
 | ok a ρ=>exact f a ρ rfl h
 | thr x ρ=>exact h
 | no=>exact h
theorem RX.bind{f:α->PSt->XO β}{m:β->PSt->Prop}(h:RX C Z (r.bind f) m):RX C Z r fun a ρ=>RX C Z (f a ρ) m:=by
 cases r <;> exact h
theorem RX.rd{σ:L2.St}{H:Hp}{ρ:PSt}{q:R α}(S:StB C.X.K n Z H σ ρ)(h:RX C Z (XO.rd ρ q) k):RQ C H q fun a=>k a ρ:=by
 cases q with
 | ok a=>exact h
 | er x=>exact fun H' s=>h H' (S.grow s).tb
 | no=>exact h
end
def tX(C:Cn)(n:Nat)(f:PSt->XO PV):TE:=fun σ H Q=>∃ρ Z,StB C.X.K n Z H σ ρ/\RX C Z (f ρ) fun p ρ'=>∀v H',StB C.X.K n Z H' σ ρ'->Rep C.X.K H' p v->Q v H'
def XB(C:Cn)(n:Nat)(e:Expr)(f:PSt->XO PV):Prop:=PE C.X e (tX C n f)
def tXT(C:Cn)(n:Nat)(f:PSt->XO Bool):TT:=fun σ H Q=>∃ρ Z,StB C.X.K n Z H σ ρ/\RX C Z (f ρ) fun b ρ'=>∀H',StB C.X.K n Z H' σ ρ'->Q b H'
def XT(C:Cn)(n:Nat)(e:Expr)(f:PSt->XO Bool):Prop:=PT C.X e (tXT C n f)
def Jh(C:Cn)(n:Nat)(Z:Zs)(D:Ends):Fb->PSt->Prop
 | .next,ρ=>∀σ H,StB C.X.K n Z H σ ρ->D.nx σ H
 | .brk,ρ=>∀σ H,StB C.X.K n Z H σ ρ->D.bk σ H
 | .cont,ρ=>∀σ H,StB C.X.K n Z H σ ρ->D.ct σ H
 | .ret p,ρ=>∀v H,TB C.X.K Z H ρ->Rep C.X.K H p v->D.rt v H
 | .retT t,_=>∀a r H,Same Z.hp H->(∀b∈a::r,Z.hp b=none)->b6 C.X.K H a r t->D.rt (.ref a) H
def tSB(C:Cn)(n:Nat)(g:PSt->XO Fb):TS:=fun D σ H=>∃ρ Z,StB C.X.K n Z H σ ρ/\RX C Z (g ρ) (Jh C n Z D)
def SB(C:Cn)(n:Nat)(st:Stmt)(g:PSt->XO Fb):Prop:=PS C.X st (tSB C n g)
def SBs(C:Cn)(n:Nat)(st:List Stmt)(g:PSt->XO Fb):Prop:=PSs C.X st (tSB C n g)
section
variable{C : Cn}{n : Nat}{st : Stmt}{sts a b body : List Stmt}{e c tg iter : Expr}{f : PSt → R PV}{fx : PSt → XO PV}{g g' : PSt → XO Fb}{t : PSt → XO Bool}{pos : Nf}
theorem aL{g:PSt->R Fl}(h:SV C st g):SB C n st (bS g):=by
 intro pins s σ H D I ⟨ρ,Z,⟨B,S,b⟩,q⟩;refine h pins s σ H D I ⟨ρ,B,S,?_⟩;unfold bS at q;cases hg:g ρ with
 | ok fl=>
  rw[hg] at q;cases fl with
  | next ρ'=>exact fun σ' H' S'=>q σ' H' ⟨B,S',b⟩
  | brk ρ'=>exact fun σ' H' S'=>q σ' H' ⟨B,S',b⟩
  | cont ρ'=>exact fun σ' H' S'=>q σ' H' ⟨B,S',b⟩
  | ret p=>exact fun v H' s' r'=>q v H' (BH S b s') r'
 | er x=>rw[hg] at q;exact fun H' s'=>q H' (BH S b s')
 | no=>rw[hg] at q;exact q
theorem qH{t:PSt->R Bool}(h:ET C e t):XT C n e (uD t):=by
 intro pins s σ H Q I ⟨ρ,Z,S,q⟩;exact h pins s σ H Q I ⟨ρ,S.vw,(RX.rd S q).imp fun p _ k H' s'=>k H' (S.grow s')⟩
theorem E4(h:XB C n e fx)(he:∀whole,isTrue e C.X.env whole=(do let v<- whole;standAt e.pos;T6 [v] (truthy v)):=by intro _;rfl):XT C n e (GJ fx):=by
 intro pins s σ H Q I ⟨ρ,Z,S,q⟩;refine ES h he pins s σ H Q I ⟨ρ,Z,S,q.bind.imp fun p ρ' _ k v H' S' r=>?_⟩;cases p with
 | bl b=>exact⟨b,r,k H' S'⟩
 | _=>exact LP k
theorem E5(h:XT C n e t):XT C n (.UnaryOp .Not e pos) (GM t):=by
 intro pins s σ H Q I ⟨ρ,Z,S,q⟩;exact AW h pins s σ H Q I ⟨ρ,Z,S,q.bind.imp fun b ρ' _ k H' S'=>k H' S'⟩
theorem jI:SBs C n [] o4:=fun pins s σ H D I ⟨ρ,Z,S,h⟩=>wq pins s σ H D I (h σ H S)
theorem d9(h1:SB C n st g):SBs C n [st] g:=fun pins s σ H D I h=>wo h1 pins s σ H D I h
theorem av(h1:SB C n st g)(h2:SBs C n sts g'):SBs C n (st::sts) (fV g g'):=by
 intro pins s σ H D I ⟨ρ,Z,S,h⟩;refine sr h1 h2 pins s σ H D I ⟨ρ,Z,S,h.bind.imp fun fl ρ' _ k=>?_⟩;cases fl with
 | next=>exact fun σ' H' S'=>⟨ρ',Z,S',k⟩
 | brk=>exact k
 | cont=>exact k
 | ret p=>exact k
 | retT t=>exact k
theorem um(hc:XT C n c t)(ha:SBs C n a g)(hb:SBs C n b g'):SB C n (.If c a b pos) (ifB t g g'):=by
 intro pins s σ H D I ⟨ρ,Z,S,h⟩;refine EU hc ha hb pins s σ H D I ⟨ρ,Z,S,h.bind.imp fun k ρ' _ q H' S'=>?_⟩;cases k with
 | true=>exact zX ⟨ρ',Z,S',q⟩
 | false=>exact zY ⟨ρ',Z,S',q⟩
theorem vS(he:XB C n e fx):SB C n (.Return (some e) pos) (DO fx):=by
 intro pins s σ H D I ⟨ρ,Z,S,h⟩;exact wu he pins s σ H D I ⟨ρ,Z,S,h.bind.imp fun p ρ' _ k v H' S' r=>k v H' S'.tb r⟩
theorem z7:SB C n st (fun _=>.no):=fun _ _ _ _ _ _ ⟨_,_,_,h⟩=>LP h
theorem Kc{h:Tgt}(hg:TGt C tg h){pins:List (Addr×Obj)}:PG C.X tg (fun v σ H Q=>∃ρ Z p ρ',StB C.X.K n Z H σ ρ/\Rep C.X.K H p v/\h p ρ=some ρ'/\∀σ',StB C.X.K n Z H σ' ρ'->Q σ' H):=by
 intro pins s σ H v u Q I r ⟨ρ,Z,p,ρ',⟨B,S,b⟩,rp,e,k⟩;exact hg pins s σ H v u Q I r ⟨ρ,B,p,ρ',S,rp,e,fun σ' S'=>k σ' ⟨B,S',b⟩⟩
theorem EE{fi:PSt->R (List PV)}{h:Tgt}(hi:EI C tg iter fi)(hg:TGt C tg h)(hb:SBs C n body g)
  (hs:∀x,O8 iter C.X.env x=pure x:=by intro _;rfl) (hp:PassesOwn (Lz C.X.prog C.X.w) C.X.A C.X.env C.X.xe:=by exact SO) (hc:C.X.calm=true:=by rfl):SB C n (.For tg iter body [] pos) (J3 fi h g):=by
 intro pins s σ H D I ⟨ρ,Z,S,q⟩;refine AX hp hc hi (Kc (n:=n) (pins:=pins) hg) hb hs pins s σ H D I ⟨ρ,S.vw,(RX.rd S q.bind).imp fun ps _ k J H1 s1 it=>?_⟩;have kz:Kp Z.kp H1:=S.kpt.trans (Same.kp s1);refine⟨fun i m σ' H'=>∃ρ',m=ps.length-i/\i<=ps.length/\StB C.X.K n { Z with kp:=H1 } H' σ' ρ'/\RX C Z (D3 h g (ps.drop i) ρ') (Jh C n Z D),⟨ps.length,ρ,rfl,Mr _,(S.grow s1).rebase (Kp.refl H1),by simpa using k⟩,?_⟩;rintro i m σ' H' ⟨ρ',rfl,hi',S',q'⟩;obtain⟨stp,stepp⟩:=it i H' S'.kpt
 by_cases hlt:i<ps.length
 ·have ei:ps[i]?=some ps[i]:=by simp[hlt]
  obtain⟨go,yl⟩:=stepp _ ei;rw[oA ei] at q';unfold D3 at q';cases e1:h ps[i] ρ' with
  | none=>rw[e1] at q';exact LP q'
  | some ρ1=>
   rw[e1] at q';refine .inr ⟨go,fun σ2 H2=>∃ρ2,StB C.X.K n { Z with kp:=H1 } H2 σ2 ρ2/\RX C Z (D3 h g (ps.drop (i+1)) ρ2) (Jh C n Z D),fun σ2 H2 ⟨ρ2,S2,r2⟩=>⟨ps.length-(i+1),by omega,ρ2,rfl,hlt,S2,r2⟩,fun x H2 y=>?_⟩;obtain⟨s2,rp⟩:=yl x H2 y;refine⟨ρ',{ Z with kp:=H1 },ps[i],ρ1,S'.grow s2,rp,e1,fun σ3 S3=>⟨ρ1,{ Z with kp:=H1 },S3,?_⟩⟩;have q1:=RX.bind q';cases hgr:g ρ1 with
   | ok fl ρ2=>
    rw[hgr] at q1;cases fl with
    | next=>exact fun σ4 H4 S4=>⟨ρ2,S4,q1⟩
    | cont=>exact fun σ4 H4 S4=>⟨ρ2,S4,q1⟩
    | brk=>exact fun σ4 H4 S4=>q1 σ4 H4 (S4.back kz)
    | ret p=>exact q1
    | retT t=>exact q1
   | thr x ρ2=>rw[hgr] at q1;exact q1
   | no=>rw[hgr] at q1;exact q1
 ·have e:i=ps.length:=by omega
  subst e;rw[PY] at q';exact .inl ⟨stp rfl,q' σ' H' (S'.back kz)⟩
end
end PU
end
namespace PU
open PySem PySem.Spec PyProof.Rows L2
def cO:List Key->List Fld->Key->Option Fld
 | k::ks,f::fs,j=>if k=j then some f else cO ks fs j
 | _,_,_=>none
def jO:List Key->List Fld->Key->Fld->List Fld
 | k::ks,f::fs,j,g=>if k=j then g::fs else f::jO ks fs j g
 | _,fs,_,_=>fs
inductive Sel where
 | whole (i:Nat) | fld (i:Nat) (k:Key)
def uh:Sel->PSt->Option Tr
 | .whole i,ρ=>match ρ[i]? with
  | some (.tree t)=>some t
  | _=>none
 | .fld i k,ρ=>match ρ[i]? with
  | some (.tree (.node ks fs))=>match cO ks fs k with
   | some (.own p)=>some (.leaf p)
   | _=>none
  | _=>none
def gH:Sel->Tr->PSt->Option PSt
 | .whole i,t,ρ=>some (ρ.set i (.tree t))
 | .fld i k,.leaf p,ρ=>match ρ[i]? with
  | some (.tree (.node ks fs))=>some (ρ.set i (.tree (.node ks (jO ks fs k (.own p)))))
  | _=>none
 | _,_,_=>none
open Classical in
noncomputable def cutH(H:Hp)(l:List Addr):Hp:=fun b=>if b∈l then none else H b
theorem lY{H:Hp}{l:List Addr}{b:Addr}(h:b∈l):cutH H l b=none:=by unfold cutH;rw[if_pos h]
theorem cI{H:Hp}{l:List Addr}{b:Addr}(h:b ∉ l):cutH H l b=H b:=by unfold cutH;rw[if_neg h]
variable[TW]
section
variable{K : LC}{n : Nat}{H H' : Hp}{a : Addr}{r : List Addr}{t : Tr}{fs : List Fld}{xs : List V}
theorem aY.off(k:Kp H H'):∀{fs:List Fld}{r:List Addr}{xs:List V},(∀c∈r,H' c=H c)->aY K H r fs xs->aY K H' r fs xs
 | [],_,_,_,h=>h
 | .val p::fs,_,_,o,⟨x,ys,e,h,t⟩=>⟨x,ys,e,h.kp k,aY.off k o t⟩
 | .own p::fs,_,_,o,⟨b,r',ys,e1,e2,h,t⟩=>by
  subst e1;exact⟨b,r',ys,rfl,e2,h.kp k (o b (by simp)),aY.off k (fun c hc=>o c (by simp[hc])) t⟩
theorem b6.off(k:Kp H H')(o:∀c∈a::r,H' c=H c)(h:b6 K H a r t):b6 K H' a r t:=by
 cases t with
 | leaf p=>exact⟨h.1,h.2.kp k (o a (by simp))⟩
 | node ks fs=>
  obtain⟨n,kvs,e,ek,f⟩:=h;exact⟨n,kvs,by rw[o a (by simp)];exact e,ek,f.off k fun c hc=>o c (by simp[hc])⟩
theorem aY.obj:∀{fs:List Fld}{r:List Addr}{xs:List V},aY K H r fs xs->∀b∈r,∃u,H b=some u/\oM u=false/\rh u=false
 | [],_,_,⟨e,_⟩,b,hb=>by subst e;simp at hb
 | .val p::fs,_,_,⟨x,ys,e,h,t⟩,b,hb=>aY.obj t b hb
 | .own p::fs,_,_,⟨c,r',ys,e1,e2,h,t⟩,b,hb=>by
  subst e1;rcases LJ.mp hb with z | z
  ·subst z
   obtain⟨u,hu,_⟩:=h.obj;exact⟨u,hu,h.nt u hu⟩
  ·exact aY.obj t b z
theorem b6.obj(h:b6 K H a r t):∀b∈a::r,∃u,H b=some u/\oM u=false/\rh u=false:=fun b hb=>by
 cases t with
 | leaf p=>
  obtain⟨e,h⟩:=h;subst e;rcases LJ.mp hb with z | z
  ·subst z
   obtain⟨u,hu,_⟩:=h.obj;exact⟨u,hu,h.nt u hu⟩
  ·simp at z
 | node ks fs=>
  obtain⟨n,kvs,e,ek,f⟩:=h;rcases LJ.mp hb with z | z
  ·subst z
   exact⟨_,e,rfl,rfl⟩
  ·exact f.obj b z
theorem TOk.sub{H H':Hp}{ps:Array LD}(h:∀b u,H b=some u->oM u=true->H' b=some u)(t:TOk H ps):TOk H' ps:=t.kp h
theorem Same.cut(l:List Addr):Same (cutH H l) H:=.of fun b o e=>by
 by_cases hb:b∈l
 ·rw[lY hb] at e;cases e
 ·rw[cI hb] at e;exact e
theorem StB.swap{Z:Zs}{σ:L2.St}{ρ:PSt}{i:Nat}{t0:Tr}(S:StB K n Z H σ ρ)(ei:ρ[i]?=some (.tree t0)):∃a0 r0,σ[i]?=some (some (.ref a0))/\b6 K H a0 r0 t0/\
  ∀(l:List Addr)(H':Hp)(t':Tr),(∀b∈l,b∈a0::r0)->Same (cutH H l) H'->b6 K H' a0 r0 t'->StB K n Z H' σ (ρ.set i (.tree t')):=by
 obtain⟨B,S,bk⟩:=S;obtain⟨a0,r0,e3,es,ht0⟩:=S.treed i t0 ei;have hT:b6 K H a0 r0 t0:=ht0.same S.same;refine⟨a0,r0,es,hT,fun l H' t' hl hs ht=>?_⟩
 have mutb:∀b∈l,∀u,H b=some u->oM u=false/\rh u=false:=fun b hb u hu=>by
  obtain⟨u',hu',h1⟩:=hT.obj b (hl b hb);rw[hu] at hu';cases hu';exact h1
 have kp:Kp H H':=fun b u e f=>by
  have hb:b ∉ l:=fun z=>by rw[(mutb b z u e).1] at f;cases f
  refine hs.at_ b u (by rw[cI hb];exact e) ?_;cases u <;> first | rfl | cases f
 have stay:∀c,c ∉ l->∀u,H c=some u->rh u=false->H' c=H c:=fun c hc u e n=>by
  rw[e];exact hs.at_ c u (by rw[cI hc];exact e) n
 have tab:∀P ps,H P=some (.tbl ps)->TOk H ps->∃ps',H' P=some (.tbl ps')/\TOk H' ps':=fun P ps e k=>by
  have hP:P ∉ l:=fun z=>by have:=(mutb P z _ e).2;cases this
  obtain⟨ps',e',k'⟩:=hs.tb P ps (by rw[cI hP];exact e);refine⟨ps',e',k' (k.sub fun b u eb f=>?_)⟩;have hb:b ∉ l:=fun z=>by rw[(mutb b z u eb).1] at f;cases f
  rw[cI hb];exact eb
 let O:Addr->Prop:=fun c=>∃(j:Nat)(p:PV),ρ[j]?=some (.own p)/\σ[j]?=some (some (.ref c))
 have oB:∀c,O c->B.1 c=none:=fun c ⟨j,p,e1,e2⟩=>S.fresh j p c e1 e2
 have oH:∀c,O c->∃u,H c=some u/\oM u=false/\rh u=false:=fun c ⟨j,p,e1,e2⟩=>by
  obtain⟨c',e2',w⟩:=S.vw j _ e1;rw[e2] at e2';cases e2';obtain⟨u,hu,_⟩:=w.obj;exact⟨u,hu,w.nt u hu⟩
 have tn:∀j a r,B.3 j=some (a,r)->∀t,ρ[j]?=some (.tree t)->∀c∈a::r,¬ O c:=fun j a r e t et c hc o=>by
  obtain⟨a',r',e',_,ht'⟩:=S.treed j t et;rw[e] at e';cases e';obtain⟨u,hu,_⟩:=ht'.obj c hc;rw[oB c o] at hu;cases hu
 classical
 let B1:Hp:=fun c=>if O c then none else H' c
 have b1o:∀c,O c->B1 c=none:=fun c h=>if_pos h;have b1n:∀c,¬ O c->B1 c=H' c:=fun c h=>if_neg h;have oL:∀c,O c->c ∉ l:=fun c h z=>tn i a0 r0 e3 t0 ei c (hl c z) h
 have oH':∀c,O c->∃u,H' c=some u/\oM u=false/\rh u=false:=fun c h=>by
  obtain⟨u,hu,h1,h2⟩:=oH c h;exact⟨u,by rw[stay c (oL c h) u hu h2];exact hu,h1,h2⟩
 have k1:Kp H' B1:=fun b u e f=>by
  have:¬ O b:=fun o=>by
   obtain⟨u',hu',h1,_⟩:=oH' b o;rw[e] at hu';cases hu';rw[h1] at f;cases f
  rw[b1n b this];exact e
 have s1:Same B1 H':=.of fun b o e=>by
  by_cases h:O b
  ·rw[b1o b h] at e;cases e
  ·rw[b1n b h] at e;exact e
 have sz:Same Z.hp H:=bk.same.trans S.same
 have zl:∀b o,Z.hp b=some o->b ∉ l:=fun b o e z=>by
  rw[bk.off i a0 r0 e3 b (hl b z)] at e;cases e
 have zo:∀b o,Z.hp b=some o->rh o=false->¬ O b:=fun b o e n h=>by
  have:=bk.same.at_ b o e n;rw[oB b h] at this;cases this
 have trs:∀j t a r,j≠i->ρ[j]?=some (.tree t)->B.3 j=some (a,r)->b6 K B.1 a r t->b6 K B1 a r t:=fun j t a r hj et e h=>by
  have hd:=bk.apart j i a r a0 r0 e e3 hj
  have h1:b6 K H' a r t:=b6.off kp (fun c hc=>by
   obtain⟨u,hu,_,n⟩:=(h.same S.same).obj c hc;exact stay c (fun z=>hd c hc (hl c z)) u hu n) (h.same S.same)
  exact h1.off k1 fun c hc=>b1n c (tn j a r e t et c hc)
 have tr0:b6 K B1 a0 r0 t':=ht.off k1 fun c hc=>b1n c (tn i a0 r0 e3 t0 ei c hc);refine⟨⟨B1,B.2,B.3⟩,⟨by simp[S.len],s1,S.kp.trans kp,⟨fun j x ej=>?_,fun P hP=>?_⟩,fun j q c ej fj=>?_,fun j m q q' c e1 e2 f1 f2=>?_,fun j t ej=>?_⟩,bk.lim,bk.kp,⟨fun b o e n=>?_,fun b ps e=>?_⟩,bk.at_,bk.off,bk.apart,fun j a r e b hb=>?_⟩
 ·rcases b7 ej with⟨rfl,rfl,_⟩|⟨hj,ej⟩
  ·exact⟨a0,r0,es,ht⟩
  ·have hx:=S.vw j x ej
   cases x with
   | no=>exact trivial
   | val q=>obtain⟨v,e1,rq⟩:=hx;exact⟨v,e1,rq.kp kp⟩
   | own q=>
    obtain⟨c,e1,rq⟩:=hx;obtain⟨u,hu,_,n⟩:=oH c ⟨j,q,ej,e1⟩;exact⟨c,e1,rq.kp kp (stay c (oL c ⟨j,q,ej,e1⟩) u hu n)⟩
   | tree t=>
    obtain⟨a,r,e1,e2,h⟩:=S.treed j t ej;exact⟨a,r,e2,(trs j t a r hj ej e1 h).same s1⟩
 ·obtain⟨ps,e,k⟩:=S.vw.tb P hP
  exact tab P ps e k
 ·rcases b7 ej with⟨_,z,_⟩|⟨hj,ej⟩
  ·cases z
  ·exact b1o c ⟨j,q,ej,fj⟩
 ·rcases b7 e1 with⟨_,z,_⟩|⟨_,e1⟩
  ·cases z
  ·rcases b7 e2 with⟨_,z,_⟩|⟨_,e2⟩
   ·cases z
   ·exact S.apart j m q q' c e1 e2 f1 f2
 ·rcases b7 ej with⟨rfl,z,_⟩|⟨hj,ej⟩
  ·cases z
   exact⟨a0,r0,e3,es,tr0⟩
  ·obtain⟨a,r,e1,e2,h⟩:=S.treed j t ej
   exact⟨a,r,e1,e2,trs j t a r hj ej e1 h⟩
 ·have:=sz.at_ b o e n
  show B1 b=some o;rw[b1n b (zo b o e n),stay b (zl b o e) o this n];exact this
 ·obtain⟨p1,e1,k1'⟩:=sz.tb b ps e
  have hP:b ∉ l:=zl b _ e;obtain⟨p2,e2,k2⟩:=hs.tb b p1 (by rw[cI hP];exact e1)
  have nb:¬ O b:=fun o=>by
   obtain⟨u,hu,_,n⟩:=oH b o;rw[e1] at hu;cases hu;cases n
  refine⟨p2,by show B1 b=_;rw[b1n b nb];exact e2,fun tk=>?_⟩;refine(k2 ((k1' tk).sub fun c u ec f=>?_)).sub k1;have hc:c ∉ l:=fun z=>by rw[(mutb c z u ec).1] at f;cases f
  rw[cI hc];exact ec
 ·have hB:=bk.liv j a r e b hb
  have nO:¬ O b:=fun o=>hB (oB b o);show B1 b≠none;rw[b1n b nO]
  by_cases hj:j=i
  ·subst hj
   rw[e3] at e;cases e;obtain⟨u,hu,_⟩:=ht.obj b hb;rw[hu];exact fun z=>by cases z
  ·have hl':b ∉ l:=fun z=>bk.apart j i a r a0 r0 e e3 hj b hb (hl b z)
   cases hu:B.1 b with
   | none=>exact absurd hu hB
   | some u=>
    intro z;have s2:Same B.1 H:=S.same
    have hn:H b=none:=by
     have:=hs.free z;rw[cI hl'] at this;exact this
    rw[s2.free hn] at hu;cases hu
end
end PU
namespace PU
open PySem PySem.Spec PyProof.Rows L2
def xP(i:Nat)(k:Key):PSt->R PV:=fun ρ=>match ρ[i]? with
 | some (.tree (.node ks fs))=>match cO ks fs k with
  | some (.val p)=>.ok p
  | some (.own p)=>.ok p
  | none=>.no
 | _=>.no
def xM(i:Nat)(k:Key)(f:PSt->R PV):PSt->XO Fb:=fun ρ=>match ρ[i]? with
 | some (.tree (.node ks fs))=>match cO ks fs k with
  | some (.val _)=>if ks.Nodup/\ks.length<16777216 then (XO.rd ρ (f ρ)).bind fun p ρ=>.ok .next (ρ.set i (.tree (.node ks (jO ks fs k (.val p))))) else .no
  | _=>.no
 | _=>.no
def Bl(s:Sel)(f:PSt->R PV):PSt->XO Fb:=fun ρ=>match uh s ρ with
 | some (.leaf (.lst ps))=>(XO.rd ρ (f ρ)).bind fun p ρ=>if ps.length<16777216 then (match gH s (.leaf (.lst (ps++[p]))) ρ with
  | some ρ'=>.ok .next ρ'
  | none=>.no) else .no
 | _=>.no
def vE(s:Sel)(fk fv:PSt->R PV):PSt->XO Fb:=fun ρ=>match uh s ρ with
 | some (.leaf (.dct ks ps))=>(XO.rd ρ (fv ρ)).bind fun p ρ=>(XO.rd ρ (fk ρ)).bind fun kp ρ=>match gm kp with
  | none=>.no
  | some k=>if ks.length<16777216 then (match gH s (.leaf (ur ks ps k p)) ρ with
   | some ρ'=>.ok .next ρ'
   | none=>.no) else .no
 | _=>.no
variable[TW]
section
variable{K : LC}{H : Hp}
theorem aY.own_at{k:Key}{p:PV}:∀{fs:List Fld}{r:List Addr}{kvs:List (Key×V)},aY K H r fs (kvs.map (·.2))->cO (kvs.map (·.1)) fs k=some (.own p)->
  ∃b,b∈r/\nu kvs k=some (.ref b)/\cP K H b p/\∀(H':Hp)(p':PV),r.Nodup->Kp H H'->(∀c∈r,c≠b->H' c=H c)->cP K H' b p'->aY K H' r (jO (kvs.map (·.1)) fs k (.own p')) (kvs.map (·.2))
 | [],r,kvs,_,e=>by
  exfalso
  cases kvs with
  | nil=>cases e
  | cons kv kvs=>cases e
 | .val q::fs,r,kvs,h,e=>by
  obtain⟨x,ys,ex,hq,ht⟩:=h;cases kvs with
  | nil=>cases ex
  | cons kv kvs=>
   injection ex with ex1 ex2;subst ex1 ex2
   by_cases hk:kv.1=k
   ·have e:(if kv.1=k then some (Fld.val q) else cO (kvs.map (·.1)) fs k)=some (.own p):=e
    rw[if_pos hk] at e;cases e
   ·have e:(if kv.1=k then some (Fld.val q) else cO (kvs.map (·.1)) fs k)=some (.own p):=e
    rw[if_neg hk] at e;obtain⟨b,h1,h2,h3,h4⟩:=aY.own_at ht e;refine⟨b,h1,by rw[cR hk];exact h2,h3,fun H' p' nd kp o n=>?_⟩;show aY K H' r (if kv.1=k then _ else _) _;rw[if_neg hk];exact⟨_,_,rfl,hq.kp kp,h4 H' p' nd kp o n⟩
 | .own q::fs,r,kvs,h,e=>by
  obtain⟨b,r',ys,er,ex,hq,ht⟩:=h;cases kvs with
  | nil=>cases ex
  | cons kv kvs=>
   injection ex with ex1 ex2;subst ex2 er
   by_cases hk:kv.1=k
   ·have e:(if kv.1=k then some (Fld.own q) else cO (kvs.map (·.1)) fs k)=some (.own p):=e
    rw[if_pos hk] at e;cases e;refine⟨b,by simp,by rw[gk hk];exact congrArg some ex1,hq,fun H' p' nd kp o n=>?_⟩;show aY K H' _ (if kv.1=k then _ else _) _;rw[if_pos hk];refine⟨b,r',_,rfl,by rw[← ex1];rfl,n,ht.off kp fun c hc=>o c (by simp[hc]) fun z=>?_⟩;subst z;exact(M7.mp nd).1 hc
   ·have e:(if kv.1=k then some (Fld.own q) else cO (kvs.map (·.1)) fs k)=some (.own p):=e
    rw[if_neg hk] at e;obtain⟨c,h1,h2,h3,h4⟩:=aY.own_at ht e;refine⟨c,by simp[h1],by rw[cR hk];exact h2,h3,fun H' p' nd kp o n=>?_⟩;show aY K H' _ (if kv.1=k then _ else _) _;rw[if_neg hk];have nd':=M7.mp nd;exact⟨b,r',_,rfl,by rw[← ex1];rfl,hq.kp kp (o b (by simp) fun z=>nd'.1 (z▸h1)),h4 H' p' nd'.2 kp (fun d hd=>o d (by simp[hd])) n⟩
theorem aY.val_at{k:Key}{p:PV}:∀{fs:List Fld}{r:List Addr}{kvs:List (Key×V)},aY K H r fs (kvs.map (·.2))->cO (kvs.map (·.1)) fs k=some (.val p)->
  ∃v,nu kvs k=some v/\Rep K H p v/\∀(H':Hp)(p':PV)(v':V),(kvs.map (·.1)).Nodup->Kp H H'->(∀c∈r,H' c=H c)->Rep K H' p' v'->
   aY K H' r (jO (kvs.map (·.1)) fs k (.val p')) ((kvs.map fun kv=>if kv.1=k then (kv.1,v') else kv).map (·.2))
 | [],r,kvs,_,e=>by
  exfalso
  cases kvs with
  | nil=>cases e
  | cons kv kvs=>cases e
 | .val q::fs,r,kvs,h,e=>by
  obtain⟨x,ys,ex,hq,ht⟩:=h;cases kvs with
  | nil=>cases ex
  | cons kv kvs=>
   injection ex with ex1 ex2;subst ex1 ex2
   by_cases hk:kv.1=k
   ·have e:(if kv.1=k then some (Fld.val q) else cO (kvs.map (·.1)) fs k)=some (.val p):=e
    rw[if_pos hk] at e;cases e;refine⟨kv.2,by rw[gk hk],hq,fun H' p' v' nd kp o n=>?_⟩;show aY K H' _ (if kv.1=k then _ else _) _;rw[if_pos hk,LQ,if_pos hk];have nd':=M7.mp nd
    have hz:kvs.map (fun kv=>if kv.1=k then (kv.1,v') else kv)=kvs:=by
     conv=>rhs;rw[← Qq kvs]
     refine Ni fun y hy=>if_neg fun z=>nd'.1 ?_;show kv.1∈_;rw[hk,← z];exact NO (f:=(·.1)) hy
    rw[hz];exact⟨v',_,rfl,n,ht.off kp o⟩
   ·have e:(if kv.1=k then some (Fld.val q) else cO (kvs.map (·.1)) fs k)=some (.val p):=e
    rw[if_neg hk] at e;obtain⟨v,h2,h3,h4⟩:=aY.val_at ht e;refine⟨v,by rw[cR hk];exact h2,h3,fun H' p' v' nd kp o n=>?_⟩;show aY K H' r (if kv.1=k then _ else _) _;rw[if_neg hk,LQ,if_neg hk];exact⟨_,_,rfl,hq.kp kp,h4 H' p' v' (M7.mp nd).2 kp o n⟩
 | .own q::fs,r,kvs,h,e=>by
  obtain⟨b,r',ys,er,ex,hq,ht⟩:=h;cases kvs with
  | nil=>cases ex
  | cons kv kvs=>
   injection ex with ex1 ex2;subst ex2 er
   by_cases hk:kv.1=k
   ·have e:(if kv.1=k then some (Fld.own q) else cO (kvs.map (·.1)) fs k)=some (.val p):=e
    rw[if_pos hk] at e;cases e
   ·have e:(if kv.1=k then some (Fld.own q) else cO (kvs.map (·.1)) fs k)=some (.val p):=e
    rw[if_neg hk] at e;obtain⟨v,h2,h3,h4⟩:=aY.val_at ht e;refine⟨v,by rw[cR hk];exact h2,h3,fun H' p' v' nd kp o n=>?_⟩;show aY K H' _ (if kv.1=k then _ else _) _;rw[if_neg hk,LQ,if_neg hk];exact⟨b,r',_,rfl,by rw[← ex1];rfl,hq.kp kp (o b (by simp)),h4 H' p' v' (M7.mp nd).2 kp (fun d hd=>o d (by simp[hd])) n⟩
end
def GV(H:Hp)(σ:L2.St):Sel->Addr->Prop
 | .whole i,a=>σ[i]?=some (some (.ref a))
 | .fld i k,a=>∃a0 kvs,σ[i]?=some (some (.ref a0))/\H a0=some (.dK kvs)/\nu kvs k=some (.ref a)
theorem StB.sel{K:LC}{n:Nat}{Z:Zs}{H:Hp}{σ:L2.St}{ρ:PSt}{s:Sel}{t:Tr}(S:StB K n Z H σ ρ)(e:uh s ρ=some t):∃a r,GV H σ s a/\b6 K H a r t/\
  ∀(H':Hp)(t':Tr)(ρ':PSt),gH s t' ρ=some ρ'->Same (cutH H (a::r)) H'->b6 K H' a r t'->StB K n Z H' σ ρ':=by
 cases s with
 | whole i=>
  simp only[uh] at e;split at e
  ·rename_i t0 e0
   cases e;obtain⟨a,r,h1,h2,h3⟩:=S.swap e0;refine⟨a,r,h1,h2,fun H' t' ρ' ep s ht=>?_⟩;cases ep;exact h3 (a::r) H' t' (fun b h=>h) s ht
  ·cases e
 | fld i k=>
  simp only[uh] at e;split at e
  ·rename_i ks fs e0
   split at e
   ·rename_i p el
    cases e;obtain⟨a0,r0,h1,h2,h3⟩:=S.swap e0;obtain⟨nd,kvs,h4,ek,h5⟩:=id h2;subst ek;obtain⟨b,hb,hv,hn,hup⟩:=h5.own_at el;refine⟨b,[],⟨a0,kvs,h1,h4,hv⟩,⟨rfl,hn⟩,fun H' t' ρ' ep s ht=>?_⟩;cases t' with
    | node _ _=>cases ep
    | leaf p'=>
     simp only[gH,e0] at ep;cases ep
     have nb:∀c,c≠b->∀u,H c=some u->rh u=false->H' c=H c:=fun c hc u hu ht'=>by
      rw[hu];exact s.at_ c u (by rw[cI (by simpa using hc)];exact hu) ht'
     obtain⟨ub,hub,fb,_⟩:=h2.obj b (by simp[hb])
     have kp:Kp H H':=fun c u hu f=>by
      have hc:c≠b:=fun z=>by
       subst z;rw[hub] at hu;cases hu;rw[fb] at f;cases f
      rw[nb c hc u hu (by cases u <;> first | rfl | cases f)]
      exact hu
     have ha:a0≠b:=fun z=>(M7.mp nd).1 (z▸hb);refine h3 [b] H' _ (fun c hc=>by have:=NA.mp hc;subst this;simp[hb]) s ⟨nd,kvs,by rw[nb a0 ha _ h4 rfl];exact h4,rfl,hup H' p' (M7.mp nd).2 kp (fun c hc z=>?_) ht.2⟩;obtain⟨u,hu,_,tb⟩:=h2.obj c (by simp[hc]);exact nb c z u hu tb
   ·cases e
  ·cases e
def DL(s:Sel):TE:=fun σ H Q=>∃a,GV H σ s a/\Q (.ref a) H
section
variable{C : Cn}{n : Nat}
theorem nX (i:Nat) {x:Str} {pos:Nf} (hN:C.X.N[i]?=some x:=by rfl) (hv:Vis C.X.env.scope x:=by first | exact .inl rfl | exact .inr (.inl rfl) | exact .inr (.inr rfl)) (hd:(x == ("__debug__":Str))=false:=by decide) (hcd:(x == ("__classdict__":Str))=false:=by decide) :
  PE C.X (.Name x pos) (DL (.whole i)):=fun pins s σ H Q I ⟨a,h,q⟩=>gI hN hv hd hcd pins s σ H Q I ⟨_,h,q⟩
theorem lq (i:Nat) {x y:Str} {j} {np kp pos:Nf} (hu:C.X.A.units+64<cLine) (hN:C.X.N[i]?=some x:=by rfl) (hv:Vis C.X.env.scope x:=by first | exact .inl rfl | exact .inr (.inl rfl) | exact .inr (.inr rfl)) (hd:(x == ("__debug__":Str))=false:=by decide) (hcd:(x == ("__classdict__":Str))=false:=by decide) :
  PE C.X (.Subscript (.Name x np) (.Constant (.str y) j kp) pos) (DL (.fld i (.inr y))):=fun pins s σ H Q I ⟨a,⟨a0,kvs,h1,h2,h3⟩,q⟩=>
 qY (by omega) (gI hN hv hd hcd) lg (fun _ _=>rfl) pins s σ H Q I ⟨_,h1,a0,.ref a,rfl,by rw[← h3];exact Bu.k (k:=.inr y) h2,q⟩
theorem xX (i:Nat) {x y:Str} {j} {np kp pos:Nf} (hu:C.X.A.units+64<cLine) (hN:C.X.N[i]?=some x:=by rfl) (hv:Vis C.X.env.scope x:=by first | exact .inl rfl | exact .inr (.inl rfl) | exact .inr (.inr rfl)) (hd:(x == ("__debug__":Str))=false:=by decide) (hcd:(x == ("__classdict__":Str))=false:=by decide) :
  EO C (.Subscript (.Name x np) (.Constant (.str y) j kp) pos) (xP i (.inr y)):=by
 intro pins s σ H Q I ⟨ρ,vw,q⟩;unfold xP at q;split at q
 ·rename_i ks fs e0
  obtain⟨a,r,ea,nd,kvs,ha,ek,hf⟩:=vw i _ e0;subst ek;split at q
  ·rename_i p el
   obtain⟨v,h1,h2,_⟩:=hf.val_at el;exact qY (by omega) (gI hN hv hd hcd) lg (fun _ _=>rfl) pins s σ H Q I ⟨_,ea,a,v,rfl,by rw[← h1];exact Bu.k (k:=.inr y) ha,q v H (Same.refl H) h2.o⟩
  ·rename_i p el
   obtain⟨b,_,h1,h2,_⟩:=hf.own_at el;exact qY (by omega) (gI hN hv hd hcd) lg (fun _ _=>rfl) pins s σ H Q I ⟨_,ea,a,.ref b,rfl,by rw[← h1];exact Bu.k (k:=.inr y) ha,q _ H (Same.refl H) h2.o⟩
  ·exact LP q
 ·exact LP q
theorem fC{H:Hp}{a:Addr}{r:List Addr}{u u':HO}(hu:H a=some u)(nf:oM u=false)(nf':oM u'=false):Same (cutH H (a::r)) (upd H a u'):=by
 have k:Kp H (upd H a u'):=Kp.upd hu nf;refine⟨fun b o e n=>?_,fun b ps e=>?_⟩
 ·have hb:b ∉ a::r:=fun z=>by rw[lY z] at e;cases e
  rw[cI hb] at e;rw[aw fun z=>hb (by simp[z])];exact e
 ·have hb:b ∉ a::r:=fun z=>by rw[lY z] at e;cases e
  rw[cI hb] at e;refine⟨ps,by rw[aw fun z=>hb (by simp[z])];exact e,fun t=>?_⟩;refine t.sub fun c w ec f=>?_;have hc:c ∉ a::r:=fun z=>by rw[lY z] at ec;cases ec
  rw[cI hc] at ec;exact k c w ec f
theorem BS(i:Nat){x y:Str}{e:Expr}{f:PSt->R PV}{j}{np kp pos' pos:Nf}(hu:C.X.A.units+64<cLine)(hv:EV C e f)(hN:C.X.N[i]?=some x:=by rfl)(hvis:Vis C.X.env.scope x:=by first | exact Qu rfl | exact Qt (Qu rfl))
  (hs:OY e (some (.Subscript (.Name x np) (.Constant (.str y) j kp) pos')) pos.line C.X.env=pure false:=by rfl) (hd:(x == ("__debug__":Str))=false:=by decide) (hcd:(x == ("__classdict__":Str))=false:=by decide) :
  SB C n (.Assign [.Subscript (.Name x np) (.Constant (.str y) j kp) pos'] e pos) (xM i (.inr y) f):=by
 intro pins s σ H D I ⟨ρ,Z,S,q⟩;unfold xM at q;split at q
 ·rename_i ks fs e0
  split at q
  ·rename_i p0 el
   split at q
   ·rename_i hc
    obtain⟨a0,r0,h1,_,_⟩:=S.swap e0;refine qT (by omega) (gI hN hvis hd hcd) lg hv hs pins s σ H D I ⟨ρ,S.vw,(RX.rd S q.bind).imp fun p _ q1 v H1 s1 r1=>⟨_,h1,?_⟩⟩;obtain⟨a,r,h1',h2,h3⟩:=(S.grow s1).swap e0;rw[h1] at h1';cases h1';obtain⟨nd,kvs,ha,ek,hf⟩:=h2;subst ek;obtain⟨v0,hv0,_,hup⟩:=hf.val_at el;have hl:kvs.length<sizeLine:=by rw[MJ];simpa using hc.2
    refine⟨a0,_,rfl,DI.k (k:=.inr y) ha hl,?_⟩;have any:(kvs.any fun kv=>decide (kv.1=(MU y:Key)))=true:=by rw[j8,hv0];rfl
    have ep:putK kvs (.inr y) v=kvs.map fun kv=>if kv.1=(MU y:Key) then (kv.1,v) else kv:=if_pos any
    have kp:Kp H1 (upd H1 a0 (.dK (putK kvs (.inr y) v))):=Kp.upd ha rfl;have nr:∀c∈r,upd H1 a0 (.dK (putK kvs (.inr y) v)) c=H1 c:=fun c hc=>aw fun z=>(M7.mp nd).1 (z▸hc);refine q1 σ _ (h3 (a0::r) _ _ (fun b h=>h) (fC ha rfl rfl) ⟨nd,_,ao,?_,?_⟩)
    ·rw[ep,M4]
     refine Ni fun kv _=>?_;show (if kv.1=(MU y:Key) then (kv.1,v) else kv).1=kv.1
     split <;> rfl
    ·have:=hup _ p v hc.1 kp nr (Rep.kp kp _ r1)
     rw[ep] at this ⊢;exact this
   ·exact LP q
  ·exact LP q
 ·exact LP q
theorem ja{K:LC}{Z:Zs}{H H1:Hp}{σ:L2.St}{ρ:PSt}{s:Sel}{t:Tr}{a:Addr}(S:StB K n Z H σ ρ)(e:uh s ρ=some t)(s1:Same H H1)(h:GV H σ s a):∃r,GV H1 σ s a/\b6 K H1 a r t/\
  ∀(H':Hp)(t':Tr)(ρ':PSt),gH s t' ρ=some ρ'->Same (cutH H1 (a::r)) H'->b6 K H' a r t'->StB K n Z H' σ ρ':=by
 obtain⟨a',r,h1,h2,h3⟩:=(S.grow s1).sel e
 have:a'=a:=by
  cases s with
  | whole i=>
   have h:σ[i]?=some (some (.ref a)):=h;have h1:σ[i]?=some (some (.ref a')):=h1;rw[h] at h1;cases h1;rfl
  | fld i k=>
   obtain⟨b,kvs,g1,g2,g3⟩:=h;obtain⟨b',kvs',g1',g2',g3'⟩:=h1;rw[g1] at g1';cases g1';rw[s1 _ _ g2] at g2';cases g2';rw[g3] at g3';cases g3';rfl
 subst this;exact⟨r,h1,h2,h3⟩
theorem AR{s:Sel}{o e:Expr}{f:PSt->R PV}{pos apos cpos:Nf}(ho:PE C.X o (DL s))(he:EV C e f)(hs:Ls [e] C.X.env=[(false,Mu e C.X.env)]:=by exact bV rfl)
  (hb:O0 o "append" C.X.env (Mu o C.X.env)=Mu o C.X.env:=by rfl) (hline:(apos.endLine == cpos.line)=true:=by rfl):SB C n (.Expr (.Call (.Attribute o "append" apos) [e] [] cpos) pos) (Bl s f):=by
 intro pins st σ H D I ⟨ρ,Z,S,q⟩;unfold Bl at q;split at q
 ·rename_i ps e1
  obtain⟨a,r,h1,h2,_⟩:=S.sel e1;obtain⟨xs,hx,rr⟩:=h2.2;refine qS (zA R8 Pc R3 lB ho (cX he iz hs) hb (by rw[hs];rfl) hline hs (by rfl)) (by rfl) pins st σ H D I ?_;refine⟨a,h1,.inl ⟨rfl,xs,SqL.of hx⟩,ρ,S.vw,(RX.rd S q.bind).imp fun p _ q' v H1 s1 r1=>?_⟩;split at q'
  ·rename_i hl
   split at q'
   ·rename_i ρ' ep
    obtain⟨r',_,h2',h3⟩:=ja S e1 s1 h1;have hx1:=s1 _ _ hx;refine⟨a,xs,v,rfl,rfl,hx1,by rw[MJ,← rr.length];exact hl,?_⟩;have kp:Kp H1 (upd H1 a (.lst (xs++[v]))):=Kp.upd hx1 rfl;exact q' σ _ (h3 _ _ _ ep (fC hx1 rfl rfl) ⟨h2'.1,xs++[v],ao,aF.append (aF.kp kp _ (rr.same s1)) (aF.cons (Rep.kp kp _ r1) aF.nil)⟩)
   ·exact LP q'
  ·exact LP q'
 ·exact LP q
theorem AQ{s:Sel}{o ke e:Expr}{fk fv:PSt->R PV}{pos' pos:Nf}(hu:C.X.A.units+64<cLine)(ho:PE C.X o (DL s))(hk:EV C ke fk)(hv:EV C e fv)
  (hs:OY e (some (.Subscript o ke pos')) pos.line C.X.env=pure false:=by rfl):SB C n (.Assign [.Subscript o ke pos'] e pos) (vE s fk fv):=by
 intro pins st σ H D I ⟨ρ,Z,S,q⟩;unfold vE at q;split at q
 ·rename_i ks ps e1
  obtain⟨a,r,h1,h2,_⟩:=S.sel e1;obtain⟨kvs,hx,ek,rr⟩:=h2.2;refine qT (by omega) ho hk hv hs pins st σ H D I ⟨ρ,S.vw,(RX.rd S q.bind).imp fun p _ q1 v H1 s1 r1=>?_⟩;obtain⟨r1',g1,_,_⟩:=ja S e1 s1 h1;refine⟨a,g1,ρ,(S.grow s1).vw,(RX.rd (S.grow s1) q1.bind).imp fun kp _ q2 y H2 s2 r2=>?_⟩;split at q2
  ·exact LP q2
  ·rename_i k e3
   split at q2
   ·rename_i hl
    split at q2
    ·rename_i ρ' ep
     obtain⟨r2',_,h2',h3⟩:=ja S e1 (s1.trans s2) h1;have hy:=eG e3 r2.o;subst hy;subst ek;have hx2:H2 a=some (.dK kvs):=(s1.trans s2) _ _ hx;refine⟨a,_,rfl,DI.k hx2 (by rw[MJ];simpa using hl),?_⟩;have kp:Kp H2 (upd H2 a (.dK (putK kvs k v))):=Kp.upd hx2 rfl;refine q2 σ _ (h3 _ _ _ ep (fC hx2 rfl rfl) ⟨h2'.1,?_⟩);exact wj (aF.kp kp _ ((rr.same s1).same s2)) (Rep.kp kp _ (r1.same s2)) ao
    ·exact LP q2
   ·exact LP q2
 ·exact LP q
end
end PU
namespace PU
open PySem PySem.Spec PyProof.Rows L2
def qx(s:Sel)(fs:PSt->R (List PV))(F:Tr->List PV->Option (PV×Tr)):PSt->XO PV:=fun ρ=>match uh s ρ with
 | none=>.no
 | some t=>(XO.rd ρ (fs ρ)).bind fun ps ρ=>match F t ps with
  | none=>.no
  | some (p,t')=>match gH s t' ρ with
   | some ρ'=>.ok p ρ'
   | none=>.no
def tr0(ρ:PSt):Option Tr:=match (ρ[(0:Nat)]?:Option Sl) with
 | some (.tree t)=>some t
 | _=>none
def yz(m n:Nat)(g:PSt->XO Fb)(t:Tr)(qs:List PV):Option (PV×Tr):=if qs.length+1=m then (match g (.tree t::start (n-1) qs) with
 | .ok (.ret p) ρ=>(tr0 ρ).map fun t'=>(p,t')
 | .ok .next ρ=>(tr0 ρ).map fun t'=>(.non,t')
 | _=>none) else none
theorem AK{ρ:PSt}{t:Tr}(e:tr0 ρ=some t):ρ[0]?=some (.tree t):=by
 unfold tr0 at e;split at e
 ·rename_i u eu;cases e;exact eu
 ·cases e
def oF(fs:PSt->R (List PV))(F:List PV->Option Tr):PSt->R Tr:=fun ρ=>fs ρ >>= fun ps=>R.ofO (F ps)
def BW(m n:Nat)(g:PSt->XO Fb)(qs:List PV):Option Tr:=if qs.length=m then (match g (start n qs) with
 | .ok (.retT t) _=>some t
 | _=>none) else none
def DS:PSt->R (List (Key×Fld)):=fun _=>.ok []
def n9(k:Key)(fv:PSt->R PV)(f:PSt->R (List (Key×Fld))):PSt->R (List (Key×Fld)):=fun ρ=>fv ρ >>= fun p=>f ρ >>= fun r=>.ok ((k,.val p)::r)
def iE(k:Key)(fv:PSt->R PV)(f:PSt->R (List (Key×Fld))):PSt->R (List (Key×Fld)):=fun ρ=>fv ρ >>= fun p=>f ρ >>= fun r=>.ok ((k,.own p)::r)
def uy(f:PSt->R (List (Key×Fld))):PSt->R Tr:=fun ρ=>f ρ >>= fun kfs=>if kfs.length<=15/\(kfs.map (·.1)).Nodup then .ok (.node (kfs.map (·.1)) (kfs.map (·.2))) else .no
def vD(i:Nat)(f:PSt->R Tr):PSt->XO Fb:=fun ρ=>(XO.rd ρ (f ρ)).bind fun t ρ=>.ok .next (ρ.set i (.tree t))
def vZ(i:Nat):PSt->XO Fb:=fun ρ=>match ρ[i]? with
 | some (.tree t)=>.ok (.retT t) ρ
 | _=>.no
def J6:Fld->PV
 | .val p=>p
 | .own p=>p
def trV:Tr->PV
 | .leaf p=>p
 | .node ks fs=>.dct ks (fs.map J6)
def GI(f:PSt->R Tr):PSt->R PV:=fun ρ=>f ρ >>= fun t=>.ok (trV t)
variable[TW]
def spB(K:LC)(n:Nat)(F:Tr->List PV->Option (PV×Tr)):Sp:=fun vs H Q _=>vs.length=n/\tQ H/\∃a r xs t ps p t',vs=.ref a::xs/\b6 K H a r t/\aF K H ps xs/\F t ps=some (p,t')/\
 ∀v H',Same (cutH H (a::r)) H'->b6 K H' a r t'->Rep K H' p v->Q v H'
structure PFB(P:LY)(w:Ly)(K:LC)(mg:Str->Option LD)(base:Heap)(k:Nat)(x:Str)(F:Tr->List PV->Option (PV×Tr)):Prop where
 ex:∃(f:Addr)(fd:FuncData)(ps:List Str),FnOk P w K mg base CX0 k f fd ps (spB K ps.length F)/\mg x=some (.ref f)/\NR K (.ref f)=true/\Binds K fd ps []/\∀t qs z,F t qs=some z->qs.length+1=ps.length
def spT(K:LC)(n:Nat)(F:List PV->Option Tr):Sp:=fun vs H Q _=>vs.length=n/\tQ H/\∃ps t,aF K H ps vs/\F ps=some t/\∀a r H',Same H H'->(∀b∈a::r,H b=none)->b6 K H' a r t->Q (.ref a) H'
structure PFT(P:LY)(w:Ly)(K:LC)(mg:Str->Option LD)(base:Heap)(k:Nat)(x:Str)(F:List PV->Option Tr):Prop where
 ex:∃(f:Addr)(fd:FuncData)(ps:List Str),FnOk P w K mg base CX0 k f fd ps (spT K ps.length F)/\mg x=some (.ref f)/\NR K (.ref f)=true/\Binds K fd ps []/\∀qs z,F qs=some z->qs.length=ps.length
def tNT(C:Cn)(f:PSt->R Tr):TE:=fun σ H Q=>∃ρ,View C.X.K H σ ρ/\RQ C H (f ρ) fun t=>∀a r H',Same H H'->(∀b∈a::r,H b=none)->b6 C.X.K H' a r t->Q (.ref a) H'
def ENT(C:Cn)(e:Expr)(f:PSt->R Tr):Prop:=PE C.X e (tNT C f)
section
variable{C : Cn}{n : Nat}{e : Expr}{es : List Expr}{fs : PSt → R (List PV)}{x : Str}{k : Nat}{p pos : Nf}
theorem ni{s:Sel}{F:Tr->List PV->Option (PV×Tr)}(G:PFB C.X.prog C.X.w C.X.K C.X.mg C.X.base k x F){kr:Nat}(hr:Room kr C.X.A)(h0:PE C.X e (DL s))(ha:EA C es fs)
  (hdb:(x == ("__debug__":Str))=false:=by decide) (he:Ls (e::es) C.X.env=(false,Mu e C.X.env)::Ls es C.X.env:=by exact eI rfl) (hpl:(Nj pos (Ls es C.X.env)).any (·.1)=false:=by exact nH rfl) (hk:k<=kr:=by decide) (hg:Gl C.X x:=by exact rfl) :
  XB C n (.Call (.Name x p) (e::es) [] pos) (qx s fs F):=by
 replace hr:=hr.mono hk;obtain⟨f,fd,ps,a,b,c,d,l⟩:=G.ex;intro pins st σ H Q I ⟨ρ,Z,S,q⟩;unfold qx at q;split at q
 ·exact LP q
 ·rename_i t et
  obtain⟨ad,r,h1,h2,_⟩:=S.sel et;refine qZ (dvs:=[]) (ds:=[]) (E:=E0) a hr hg b c d .nil Cj (cX h0 ha he) hdb he hpl pins st σ H Q I ⟨ad,h1,ρ,S.vw,(RX.rd S q.bind).imp fun qs _ q1 vs H1 s1 r1=>?_⟩;obtain⟨r',_,h2',h3⟩:=ja S et s1 h1;split at q1
  ·exact LP q1
  ·rename_i p t' ef
   split at q1
   ·rename_i ρ' ep
    rw[Mh];exact⟨by rw[LS,← r1.length];exact l t qs _ ef,s1.tabs S.vw.tb,ad,r',vs,t,qs,p,t',rfl,h2',r1,ef,fun v H' s' ht rp=>q1 v H' (h3 H' t' ρ' ep s' ht) rp⟩
   ·exact LP q1
theorem sZ{F:List PV->Option Tr}(G:PFT C.X.prog C.X.w C.X.K C.X.mg C.X.base k x F){kr:Nat}(hr:Room kr C.X.A)(ha:EA C (e::es) fs)
  (hdb:(x == ("__debug__":Str))=false:=by decide) (he:Ls (e::es) C.X.env=(false,Mu e C.X.env)::Ls es C.X.env:=by exact eI rfl) (hpl:(Nj pos (Ls es C.X.env)).any (·.1)=false:=by exact nH rfl) (hk:k<=kr:=by decide) (hg:Gl C.X x:=by exact rfl) :
  ENT C (.Call (.Name x p) (e::es) [] pos) (oF fs F):=by
 replace hr:=hr.mono hk;obtain⟨f,fd,ps,a,b,c,d,l⟩:=G.ex;intro pins s σ H Q I ⟨ρ,vw,q⟩;refine qZ (dvs:=[]) (ds:=[]) (E:=E0) a hr hg b c d .nil Cj ha hdb he hpl pins s σ H Q I ⟨ρ,vw,q.bind.imp fun qs _ k vs H1 s1 r1=>?_⟩;obtain⟨z,ez,k⟩:=k.ofO;rw[Mh];exact⟨by rw[← r1.length];exact l qs z ez,s1.tabs vw.tb,qs,z,r1,ez,fun v r H' s' n' r'=>k v r H' (s1.trans s') (fun b hb=>s1.free (n' b hb)) r'⟩
end
section
variable{P : LY}{w : Ly}{K : LC}{mg : Str → Option LD}{base : Heap}
theorem vN{H:Hp}{N:List Str}{a:Addr}{r:List Addr}{t:Tr}{ps:List PV}{vs:List V}(tb:tQ H)(ht:b6 K H a r t)(rp:aF K H ps vs) :
  StB K 1 ⟨cutH H (a::r),H,fun i=>if i=0 then some (a,r) else none⟩ H (L2.start N (.ref a::vs)) (.tree t::start (N.length-1) ps):=by
 have e0:L2.start N (.ref a::vs)=some (.ref a)::L2.start N.tail vs:=by
  unfold L2.start;rw[LQ,PZ,LS,List.length_tail,Nat.sub_add_eq,Nat.sub_right_comm]
 have e1:N.length-1=N.tail.length:=by rw[List.length_tail]
 rw[e0,e1];have S:=nF (N:=N.tail) tb rp;refine⟨⟨H,H,fun i=>if i=0 then some (a,r) else none⟩,⟨by rw[LS,LS,S.len],Same.refl H,Kp.refl H,⟨fun i l e=>?_,tb⟩,fun i p c e f=>?_,fun i j p q c e1 e2 f1 f2=>?_,fun i u e=>?_⟩,fun i hi=>if_neg (by omega),rfl,Same.cut _,fun i q h=>h,fun i b s h c hc=>?_,fun i j b s b' s' h h' hn=>?_,fun i b s h c hc=>?_⟩
 ·cases i with
  | zero=>cases e;exact⟨a,r,rfl,ht⟩
  | succ i=>exact S.vw i l (by simpa using e)
 ·cases i with
  | zero=>cases e
  | succ i=>exact S.fresh i p c (by simpa using e) (by simpa using f)
 ·cases i with
  | zero=>cases e1
  | succ i=>cases j with
   | zero=>cases e2
   | succ j=>exact congrArg _ (S.apart i j p q c (by simpa using e1) (by simpa using e2) (by simpa using f1) (by simpa using f2))
 ·cases i with
  | zero=>cases e;exact⟨a,r,rfl,rfl,ht⟩
  | succ i=>exact absurd (show (start N.tail.length ps)[i]?=some (.tree u) by simpa using e) fun z=>wR z
 ·have h:(if i=0 then some (a,r) else none)=some (b,s):=h
  split at h
  ·cases h;exact lY hc
  ·cases h
 ·have h:(if i=0 then some (a,r) else none)=some (b,s):=h
  have h':(if j=0 then some (a,r) else none)=some (b',s'):=h';split at h
  ·split at h'
   ·rename_i z1 z2;exact absurd (z1.trans z2.symm) hn
   ·cases h'
  ·cases h
 ·have h:(if i=0 then some (a,r) else none)=some (b,s):=h
  split at h
  ·cases h
   obtain⟨u,hu,_⟩:=ht.obj c hc;show H c≠none;rw[hu];exact fun z=>by cases z
  ·cases h
theorem oW{H:Hp}{N:List Str}{ps:List PV}{vs:List V}(tb:tQ H)(rp:aF K H ps vs):StB K 0 ⟨H,H,fun _=>none⟩ H (L2.start N vs) (start N.length ps):=
 ⟨⟨H,H,fun _=>none⟩,nF tb rp,(fun _ _=>rfl),rfl,Same.refl H,(fun _ _ h=>h),(fun _ _ _ h=>by cases h),(fun _ _ _ _ _ _ h=>by cases h),(fun _ _ _ h=>by cases h)⟩
theorem F1{x qual:Str}{st:Stmt}{f:Addr}{fd:FuncData}{N ps:List Str}{k:Nat}{g:PSt->XO Fb}(F:Fun K x qual st f fd)(S:FnScope N ps (ab st))(hm:mg x=some (.ref f))(hb:Binds K fd ps [])
  (hbody:∀(cdv:LD)(A:M3)(outer:List Qo)(s:LG)(H:Hp)(E:XK),Room k (A.deeper (Oh qual (ab st) s.heap.objs.size f cdv))->SBs (Dw P w K mg base N qual (ab st) f cdv A outer s H E) 1 (bT st) g) :
  PFB P w K mg base (k+1) x (yz ps.length N.length g):=by
 refine⟨f,fd,ps,F.ok S (fun vs H Q E h=>h.1) (fun cdv A outer s H vs Q E hr h=>?_),hm,F.kp,hb,fun t qs p h=>?_⟩
 ·obtain⟨hl,tb,a,r,xs,t,qs,p,t',rfl,ht,rp,e,k⟩:=h
  refine⟨_,hbody cdv A outer s H E hr,_,_,vN tb ht rp,?_⟩;unfold yz at e;split at e
  ·have fin:∀{ρ:PSt}{H':Hp},TB K ⟨cutH H (a::r),H,fun i=>if i=0 then some (a,r) else none⟩ H' ρ->∀{u},ρ[0]?=some (.tree u)->Same (cutH H (a::r)) H'/\b6 K H' a r u:=fun {ρ H'} h {u} eu=>⟨h.1,h.2 0 a r u rfl eu⟩
   split at e
   ·rename_i q ρ hg
    rw[hg];obtain⟨u,eu,e⟩:=LV.mp e;cases e;have eu:=AK eu;exact fun v H' h rv=>k v H' (fin h eu).1 (fin h eu).2 rv
   ·rename_i ρ hg
    rw[hg];obtain⟨u,eu,e⟩:=LV.mp e;cases e;have eu:=AK eu;exact fun σ H' h=>k .non H' (fin h.tb eu).1 (fin h.tb eu).2 rfl
   ·cases e
  ·cases e
 ·unfold yz at h
  split at h
  ·rename_i hl;exact hl
  ·cases h
theorem F0{x qual:Str}{st:Stmt}{f:Addr}{fd:FuncData}{N ps:List Str}{k:Nat}{g:PSt->XO Fb}(F:Fun K x qual st f fd)(S:FnScope N ps (ab st))(hm:mg x=some (.ref f))(hb:Binds K fd ps [])
  (hbody:∀(cdv:LD)(A:M3)(outer:List Qo)(s:LG)(H:Hp)(E:XK),Room k (A.deeper (Oh qual (ab st) s.heap.objs.size f cdv))->SBs (Dw P w K mg base N qual (ab st) f cdv A outer s H E) 0 (bT st) g) :
  PFT P w K mg base (k+1) x (BW ps.length N.length g):=by
 refine⟨f,fd,ps,F.ok S (fun vs H Q E h=>h.1) (fun cdv A outer s H vs Q E hr h=>?_),hm,F.kp,hb,fun qs p h=>?_⟩
 ·obtain⟨hl,tb,qs,t,rp,e,k⟩:=h
  refine⟨_,hbody cdv A outer s H E hr,_,_,oW tb rp,?_⟩;unfold BW at e;split at e
  ·split at e
   ·rename_i u ρ hg
    rw[hg];cases e;exact k
   ·cases e
  ·cases e
 ·unfold BW at h
  split at h
  ·rename_i hl;exact hl
  ·cases h
end
section
variable{C : Cn}{n : Nat}{pos : Nf}
def EDF(C:Cn)(pos:Nf)(ks:List (Option Expr))(vs:List Expr)(f:PSt->R (List (Key×Fld))):Prop:=∃trs,PPs C.X pos ks vs trs/\
 ∀σ H Q,(∃ρ,View C.X.K H σ ρ/\RQ C H (f ρ) fun kfs=>∀(r:List Addr)(kvs:List (Key×V))(H':Hp),Same H H'->(∀b∈r,H b=none)->r.Nodup->kvs.map (·.1)=kfs.map (·.1)->aY C.X.K H' r (kfs.map (·.2)) (kvs.map (·.2))->Q (kvs.map fun kv=>(kV kv.1,kv.2)) H')->mF trs σ H Q
theorem Do:EDF C pos [] [] DS:=⟨[],wx,fun σ H Q ⟨ρ,vw,q⟩=>q [] [] H (Same.refl H) (by simp) (by simp) rfl ⟨rfl,rfl⟩⟩
theorem Dn{y:Str}{j}{p1:Nf}{v:Expr}{ks:List (Option Expr)}{vs:List Expr}{fv:PSt->R PV}{f:PSt->R (List (Key×Fld))}(hv:EV C v fv)(h:EDF C pos ks vs f):EDF C pos (some (.Constant (.str y) j p1)::ks) (v::vs) (n9 (.inr y) fv f):=by
 obtain⟨trs,hp,ht⟩:=h;refine⟨_,nU lg hv hp,fun σ H Q ⟨ρ,vw,q⟩=>⟨ρ,vw,q.bind.imp fun p _ q1 x H1 s1 r1=>ht σ H1 _ ⟨ρ,vw.same s1,(q1.bind.same s1).imp fun kfs _ q2 r kvs H2 s2 fr nd ek hf=>?_⟩⟩⟩;exact q2 r ((.inr y,x)::kvs) H2 (s1.trans s2) (fun b hb=>s1.free (fr b hb)) nd (by simp[ek]) ⟨x,_,rfl,r1.same s2,hf⟩
theorem ya{y:Str}{j}{p1:Nf}{v:Expr}{ks:List (Option Expr)}{vs:List Expr}{fv:PSt->R PV}{f:PSt->R (List (Key×Fld))}(hv:EN C v fv)(h:EDF C pos ks vs f):EDF C pos (some (.Constant (.str y) j p1)::ks) (v::vs) (iE (.inr y) fv f):=by
 obtain⟨trs,hp,ht⟩:=h;refine⟨_,nU lg hv hp,fun σ H Q ⟨ρ,vw,q⟩=>⟨ρ,vw,q.bind.imp fun p _ q1 b H1 s1 nb r1=>ht σ H1 _ ⟨ρ,vw.same s1,(q1.bind.same s1).imp fun kfs _ q2 r kvs H2 s2 fr nd ek hf=>?_⟩⟩⟩
 have hb:b ∉ r:=fun z=>by
  obtain⟨u,hu,_⟩:=r1.obj;rw[fr b z] at hu;cases hu
 refine q2 (b::r) ((.inr y,.ref b)::kvs) H2 (s1.trans s2) (fun c hc=>?_) (M7.mpr ⟨hb,nd⟩) (by simp[ek]) ⟨b,r,_,rfl,rfl,r1.same s2,hf⟩;rcases LJ.mp hc with z | z
 ·subst z;exact nb
 ·exact s1.free (fr c z)
theorem Ai{ks:List (Option Expr)}{vs:List Expr}{f:PSt->R (List (Key×Fld))}(h:EDF C pos ks vs f)(hall:ks.all (·.isSome)=true:=by rfl)(hl:ks.length=vs.length:=by rfl)(h0:ks≠[]:=by simp)(h15:ks.length<=15:=by decide):ENT C (.Dict ks vs pos) (uy f):=by
 obtain⟨trs,hp,ht⟩:=h;intro pins s σ H Q I ⟨ρ,vw,q⟩;refine wH hp hall hl h0 h15 pins s σ H Q I fun d hd=>ht σ _ _ ⟨ρ,vw.same (Same.new hd),(q.bind.same (Same.new hd)).imp fun kfs _ q1 r kvs H2 s2 fr nd ek hf=>?_⟩;split at q1
 ·rename_i hc
  have hd2:H2 d=some (.dK []):=s2 _ _ ao
  have ne:∀b∈r,b≠d/\H b=none:=fun b hb=>by
   have:=fr b hb;have hn:b≠d:=fun z=>by subst z;rw[ao] at this;cases this
   rw[aw hn] at this;exact⟨hn,this⟩
  have em:fY [] kvs=kvs:=lD (acc:=[]) (by rw[Ol,ek];exact hc.2);refine⟨hd2,kvs,rfl,by have:=congrArg NS ek;simp at this;omega,?_⟩;rw[em];have kp:Kp H2 (upd H2 d (.dK kvs)):=Kp.upd hd2 rfl;refine q1 d r _ (((Same.new hd).trans s2).but hd (fun u h=>by rw[hd2] at h;cases h;rfl) fun b hb=>aw hb) (fun b hb=>?_) ⟨M7.mpr ⟨fun z=>(ne d z).1 rfl,nd⟩,kvs,ao,ek,hf.off kp fun c hc=>aw (ne c hc).1⟩;rcases LJ.mp hb with z | z
  ·subst z;exact hd
  ·exact(ne b z).2
 ·exact LP q1
theorem StB.setT{K:LC}{Z:Zs}{H H':Hp}{σ:L2.St}{ρ:PSt}{i:Nat}{a:Addr}{r:List Addr}{t:Tr}(S:StB K n Z H σ ρ)(s:Same H H')(fr:∀b∈a::r,H b=none)(ht:b6 K H' a r t)(hi:n<=i):StB K n Z H' (σ.set i (some (.ref a))) (ρ.set i (.tree t)):=by
 obtain⟨B,S,bk⟩:=S;have S1:=S.grow s
 let O:Addr->Prop:=fun c=>∃(j:Nat)(p:PV),ρ[j]?=some (.own p)/\σ[j]?=some (some (.ref c))
 have oB:∀c,O c->B.1 c=none:=fun c ⟨j,p,e1,e2⟩=>S.fresh j p c e1 e2
 have oH:∀c,O c->∃u,H c=some u/\oM u=false/\rh u=false:=fun c ⟨j,p,e1,e2⟩=>by
  obtain⟨c',e2',w⟩:=S.vw j _ e1;rw[e2] at e2';cases e2';obtain⟨u,hu,_⟩:=w.obj;exact⟨u,hu,w.nt u hu⟩
 classical
 let B1:Hp:=fun c=>if O c then none else H' c
 have b1o:∀c,O c->B1 c=none:=fun c h=>if_pos h;have b1n:∀c,¬ O c->B1 c=H' c:=fun c h=>if_neg h
 have k1:Kp H' B1:=fun b u e f=>by
  have:¬ O b:=fun o=>by
   obtain⟨u',hu',h1,h2⟩:=oH b o;rw[s.at_ b u' hu' h2] at e;cases e;rw[h1] at f;cases f
  rw[b1n b this];exact e
 have s1:Same B1 H':=.of fun b o e=>by
  by_cases h:O b
  ·rw[b1o b h] at e;cases e
  ·rw[b1n b h] at e;exact e
 have sz:Same Z.hp H':=(bk.same.trans S.same).trans s;have tn:∀j a r,B.3 j=some (a,r)->∀c∈a::r,¬ O c:=fun j a r e c hc o=>bk.liv j a r e c hc (oB c o)
 have no:∀c∈a::r,¬ O c:=fun c hc o=>by
  obtain⟨u,hu,_⟩:=oH c o;rw[fr c hc] at hu;cases hu
 have liv':∀j a r,B.3 j=some (a,r)->∀c∈a::r,H c≠none:=fun j a r e c hc z=>bk.liv j a r e c hc (S.same.free z);have t0:b6 K B1 a r t:=ht.off k1 fun c hc=>b1n c (no c hc);have z0:∀b∈a::r,Z.hp b=none:=fun b hb=>(bk.same.trans S.same).free (fr b hb)
 have own':∀{j:Nat}{q:PV},(ρ.set i (.tree t))[j]?=some (.own q)->j≠i/\ρ[j]?=some (.own q):=fun {j q} e=>by
  rcases b7 e with⟨_,z,_⟩|⟨hj,e⟩
  ·cases z
  ·exact⟨hj,e⟩
 refine⟨⟨B1,B.2,fun j=>if j=i then some (a,r) else B.3 j⟩,⟨by simp[S.len],s1,S1.kp,⟨fun j x ej=>?_,S1.vw.tb⟩,fun j q c ej fj=>?_,fun j m q q' c e1 e2 f1 f2=>?_,fun j u ej=>?_⟩,bk.lim,bk.kp,⟨fun b o e m=>?_,fun b ps e=>?_⟩,fun j q e=>?_,fun j b l e=>?_,fun j m b l b' l' e e' hn=>?_,fun j b l e c hc=>?_⟩
 ·rcases b7 ej with⟨rfl,rfl,hl⟩|⟨hj,ej⟩
  ·exact⟨a,r,cL (by rw[← S.len];exact hl),ht⟩
  ·rw[aI hj]
   exact S1.vw j x ej
 ·obtain⟨hj,ej⟩:=own' ej
  rw[aI hj] at fj;exact b1o c ⟨j,q,ej,fj⟩
 ·obtain⟨hj,e1⟩:=own' e1
  obtain⟨hm,e2⟩:=own' e2;rw[aI hj] at f1;rw[aI hm] at f2;exact S.apart j m q q' c e1 e2 f1 f2
 ·rcases b7 ej with⟨rfl,z,hl⟩|⟨hj,ej⟩
  ·cases z
   exact⟨a,r,if_pos rfl,cL (by rw[← S.len];exact hl),t0⟩
  ·obtain⟨a',r',h1,h2,h3⟩:=S1.treed j u ej
   refine⟨a',r',(if_neg hj).trans h1,by rw[aI hj];exact h2,?_⟩;exact(h3.same S1.same).off k1 fun c hc=>b1n c (tn j a' r' h1 c hc)
 ·have h1:=sz.at_ b o e m
  show B1 b=some o;rw[b1n b fun o'=>?_]
  ·exact h1
  ·have:=bk.same.at_ b o e m
   rw[oB b o'] at this;cases this
 ·obtain⟨p1,e1,k1'⟩:=sz.tb b ps e
  have nb:¬ O b:=fun o=>by
   obtain⟨u,hu,_,m⟩:=oH b o;rw[s.at_ b u hu m] at e1;cases e1;cases m
  exact⟨p1,by show B1 b=_;rw[b1n b nb];exact e1,fun tk=>(k1' tk).sub k1⟩
 ·have hj:j≠i:=fun z=>by
   subst z;rw[bk.lim j hi] at e;cases e
  exact(if_neg hj).trans (bk.at_ j q e)
 ·have e:(if j=i then some (a,r) else B.3 j)=some (b,l):=e
  split at e
  ·cases e;exact z0
  ·exact bk.off j b l e
 ·have e:(if j=i then some (a,r) else B.3 j)=some (b,l):=e
  have e':(if m=i then some (a,r) else B.3 m)=some (b',l'):=e';split at e
  ·rename_i hj
   cases e;split at e'
   ·rename_i hm;exact absurd (hj.trans hm.symm) hn
   ·exact fun c hc z=>liv' m b' l' e' c z (fr c hc)
  ·split at e'
   ·cases e'
    exact fun c hc z=>liv' j b l e c hc (fr c z)
   ·exact bk.apart j m b l b' l' e e' hn
 ·have e:(if j=i then some (a,r) else B.3 j)=some (b,l):=e
  show B1 c≠none;split at e
  ·cases e
   rw[b1n c (no c hc)];obtain⟨u,hu,_⟩:=ht.obj c hc;rw[hu];exact fun z=>by cases z
  ·rw[b1n c (tn j b l e c hc)]
   exact fun z=>liv' j b l e c hc (s.free z)
theorem vR(i:Nat){x:Str}{e:Expr}{f:PSt->R Tr}{pos':Nf}(hN:C.X.N.Nodup)(he:ENT C e f)(hin:n<=i:=by decide)(hs:OY e (some (.Name x pos')) pos.line C.X.env=pure false:=by rfl)
  (hf:C.X.fn x=true\/C.X.env.scope.names.lookup x=some .local:=by first | exact .inl rfl | exact .inr rfl | assumption) (hi:C.X.N[i]?=some x:=by rfl) (hx:Loc C.X.env.scope x:=by first | exact .inl rfl | exact .inr rfl) :
  SB C n (.Assign [.Name x pos'] e pos) (vD i f):=by
 intro pins s σ H D I ⟨ρ,Z,S,q⟩;exact wt hN hi hx he hs hf pins s σ H D I ⟨ρ,S.vw,(RX.rd S q.bind).imp fun t _ k a r H' s' fr ht=>k _ H' (S.setT s' fr ht hin)⟩
theorem BR (i:Nat) {x:Str} {np:Nf} (hN:C.X.N[i]?=some x:=by rfl) (hv:Vis C.X.env.scope x:=by first | exact .inl rfl | exact .inr (.inl rfl) | exact .inr (.inr rfl)) (hd:(x == ("__debug__":Str))=false:=by decide) (hcd:(x == ("__classdict__":Str))=false:=by decide) :
  SB C n (.Return (some (.Name x np)) pos) (vZ i):=by
 intro pins s σ H D I ⟨ρ,Z,⟨B,S,bk⟩,q⟩;unfold vZ at q;split at q
 ·rename_i t e
  obtain⟨a,r,h1,h2,h3⟩:=S.treed i t e;exact wu (gI hN hv hd hcd) pins s σ H D I ⟨_,h2,q a r H (bk.same.trans S.same) (bk.off i a r h1) (h3.same S.same)⟩
 ·exact LP q
end
end PU
namespace PU
open PySem PySem.Spec PyProof.Rows L2
def uE{α:Type}(i:Nat)(f:PSt->R α):PSt->XO α:=fun ρ=>match ρ[i]? with
 | some (.tree t)=>XO.rd ρ (yC (f (ρ.set i (.val (trV t)))))
 | _=>.no
def yD:HO->Bool
 | .lst _=>true
 | .dK _=>true
 | .dT _=>true
 | _=>false
theorem yD.fz{u:HO}(h:yD u=true):oM u=false:=by cases u <;> first | rfl | cases h
variable[TW]
theorem _root_.L2.Inv.frzX{X:Cx}{pins:List (Addr×Obj)}{σ:L2.St}{H:Hp}{s:LG}{a:Addr}{p:PV}(I:L2.Inv X pins σ H s)(n:cP X.K H a p) :
  ∃o u,H a=some u/\yD u=true/\L2.Inv X pins σ (upd H a (.frz o u)) s/\Rep X.K (upd H a (.frz o u)) p (.ref a):=by
 cases p with
 | lst ps=>
  obtain⟨xs,q,r⟩:=n;obtain⟨z,its,m,rv,e⟩:=I.hok a _ q;exact⟨_,.lst xs,q,rfl,I.reH q rfl rfl (by intro _ h;cases h) (by intro _ h;cases h) ⟨e,z,its,m,rv,e⟩,a,xs,rfl,.inl ⟨_,ao⟩,r.kp (Kp.upd q rfl)⟩
 | dct ks ps=>
  obtain⟨kvs,q,ek,r⟩:=n;obtain⟨z,hs,vs,rv,o,es,ep,e,rest⟩:=I.hok a _ q;exact⟨o,.dK kvs,q,rfl,I.reH q rfl rfl (by intro _ h;cases h) (by intro _ h;cases h) ⟨e,z,hs,vs,rv,o,es,ep,e,rest⟩,a,kvs,rfl,.inl ⟨_,ao⟩,ek,r.kp (Kp.upd q rfl)⟩
 | dtt ks ps=>
  obtain⟨kvs,q,ek,r⟩:=n;obtain⟨z,hs,ys,rv,o,es,ep,e,rest⟩:=I.hok a _ q;refine⟨o,.dT kvs,q,rfl,I.reH q rfl rfl (by intro _ h;cases h) (by intro _ h;cases h) ⟨e,z,hs,ys,?_,o,es,ep,e,rest⟩,a,o,kvs,rfl,ao,ek,r.kp (Kp.upd q rfl)⟩;exact Paired.mapP rv fun p1 q1 ⟨h1,h2,h3⟩=>⟨h1,h2.keeps fun b ys hb=>Kp.upd q rfl _ _ hb rfl,h3⟩
 | _=>exact LP n
theorem _root_.L2.Inv.thaw1{X:Cx}{pins:List (Addr×Obj)}{σ:L2.St}{H H':Hp}{s s':LG}{a:Addr}{o:Obj}{u:HO}(I0:L2.Inv X pins σ H s)(I:L2.Inv X pins σ H' s')(h0:H a=some u)(mu:yD u=true)(h1:H' a=some (.frz o u)) :
  L2.Inv X pins σ (upd H' a u) s':=by
 have ne:∀b w,H' b=w->w≠some (.frz o u)->b≠a:=fun b w e n z=>by
  subst z;rw[h1] at e;exact n e.symm
 refine⟨I.ok,I.os,I.bare,⟨I.base.keep,I.base.slot,fun b q e n hx=>?_,I.base.there,fun b ys e=>?_,fun b q w e=>?_,fun b ps e=>?_⟩,I.loc,I.cell,?_,fun x c e=>?_,fun p hp=>?_,fun b w e=>?_,I.len⟩
 ·have:=I.base.free b q e n hx
  rw[aw (ne b _ this (by intro h;cases h))];exact this
 ·have:=I.base.tups b ys e
  rw[aw (ne b _ this (by intro h;cases h))];exact this
 ·have h2:=I.base.frzs b q w e
  have h3:=I0.base.frzs b q w e;have hb:b≠a:=fun z=>by subst z;rw[h0] at h3;cases h3;cases mu
  rw[aw hb];exact h2
 ·obtain⟨m,e2⟩:=I.base.tbls b ps e
  refine⟨m,?_⟩;rw[aw (ne b _ e2 (by intro h;cases h))];exact e2
 ·have:=I.free
  rw[aw (ne _ _ this (by intro h;cases h))];exact this
 ·have:=I.freeC x c e
  rw[aw (ne _ _ this (by intro h;cases h))];exact this
 ·obtain⟨p1,p2,p3⟩:=I.pin p hp
  refine⟨p1,?_,p3⟩;rw[aw (ne _ _ p2 (by intro h;cases h))];exact p2
 ·have st:∀{b:Addr}{w:HO},dQ X.prog X.w H' s'.heap b w->dQ X.prog X.w (upd H' a u) s'.heap b w:=fun {b w} h=>h.stay (fun c v hc q=>q) (fun c q=>by
   rw[aw (ne _ _ q (by intro h;cases h))];exact q) fun c ys q=>by
   rw[aw (ne _ _ q (by intro h;cases h))];exact q
  by_cases hb:b=a
  ·subst hb
   rw[ao] at e;cases e;exact st (I.hok b _ h1).2
  ·rw[aw hb] at e
   exact st (I.hok b w e)
theorem qe{X:Cx}{pins:List (Addr×Obj)}{σ:L2.St}{H:Hp}{s s':LG}(I0:L2.Inv X pins σ H s):∀(l:List Addr){H1:Hp},L2.Inv X pins σ H1 s'->(∀b∈l,∃o u,H b=some u/\yD u=true/\(H1 b=some (.frz o u)\/H1 b=some u))->
  ∃H2,L2.Inv X pins σ H2 s'/\(∀b∈l,H2 b=H b)/\∀b,b ∉ l->H2 b=H1 b
 | [],H1,I,_=>⟨H1,I,by simp,fun _ _=>rfl⟩
 | a::l,H1,I,h=>by
  obtain⟨o,u,h0,mu,h1⟩:=h a (by simp)
  have:∃H1',L2.Inv X pins σ H1' s'/\H1' a=some u/\∀b,b≠a->H1' b=H1 b:=by
   rcases h1 with h1 | h1
   ·exact⟨_,I0.thaw1 I h0 mu h1,ao,fun b hb=>aw hb⟩
   ·exact⟨H1,I,h1,fun _ _=>rfl⟩
  obtain⟨H1',I',ha,oth⟩:=this
  obtain⟨H2,I2,g1,g2⟩:=qe I0 l I' fun b hb=>by
   by_cases hba:b=a
   ·subst hba
    exact⟨o,u,h0,mu,.inr ha⟩
   ·rw[oth b hba]
    exact h b (by simp[hb])
  refine⟨H2,I2,fun b hb=>?_,fun b hb=>?_⟩
  ·by_cases hl:b∈l
   ·exact g1 b hl
   ·have hba:b=a:=by rcases LJ.mp hb with z | z;exact z;exact absurd z hl
    subst hba;rw[g2 b hl,ha,h0]
  ·have h1:b≠a:=fun z=>hb (by simp[z])
   rw[g2 b fun z=>hb (by simp[z]),oth b h1]
theorem oh{X:Cx}{pins:List (Addr×Obj)}{σ:L2.St}{s:LG}:∀{fs:List Fld}{r:List Addr}{xs:List V}{H:Hp},L2.Inv X pins σ H s->aY X.K H r fs xs->r.Nodup->
  ∃H',L2.Inv X pins σ H' s/\aF X.K H' (fs.map J6) xs/\(∀b,b ∉ r->H' b=H b)/\Kp H H'/\∀b∈r,∃o u,H b=some u/\yD u=true/\H' b=some (.frz o u)
 | [],r,xs,H,I,⟨e1,e2⟩,_=>by
  subst e1 e2;exact⟨H,I,rfl,fun _ _=>rfl,Kp.refl H,by simp⟩
 | .val p::fs,r,xs,H,I,⟨x,ys,e,h,t⟩,nd=>by
  obtain⟨H',I',rr,o,k,f⟩:=oh I t nd;subst e;exact⟨H',I',⟨x,ys,rfl,h.kp k,rr⟩,o,k,f⟩
 | .own p::fs,r,xs,H,I,⟨b,r',ys,e1,e2,h,t⟩,nd=>by
  subst e1 e2;obtain⟨nb,nd'⟩:=M7.mp nd;obtain⟨H',I',rr,o,k,f⟩:=oh I t nd';obtain⟨ob,u,hu,mu,I2,rp⟩:=I'.frzX (h.kp k (o b nb));have k2:Kp H' (upd H' b (.frz ob u)):=Kp.upd hu (yD.fz mu);refine⟨_,I2,⟨_,_,rfl,rp,aF.kp k2 _ rr⟩,fun c hc=>?_,k.trans k2,fun c hc=>?_⟩
  ·rw[aw fun z=>hc (by simp[z])]
   exact o c fun z=>hc (by simp[z])
  ·rcases LJ.mp hc with z | z
   ·subst z
    exact⟨ob,u,by rw[← o c nb];exact hu,mu,ao⟩
   ·rw[aw fun w=>nb (by rw[← w];exact z)]
    exact f c z
theorem _root_.L2.Inv.frzT{X:Cx}{pins:List (Addr×Obj)}{σ:L2.St}{s:LG}{H:Hp}{a:Addr}{r:List Addr}{t:Tr}(I:L2.Inv X pins σ H s)(h:b6 X.K H a r t) :
  ∃H',L2.Inv X pins σ H' s/\Rep X.K H' (trV t) (.ref a)/\(∀b,b ∉ a::r->H' b=H b)/\Kp H H'/\∀b∈a::r,∃o u,H b=some u/\yD u=true/\H' b=some (.frz o u):=by
 cases t with
 | leaf p=>
  obtain⟨e,h⟩:=h;subst e;obtain⟨o,u,hu,mu,I',rp⟩:=I.frzX h
  exact⟨_,I',rp,fun b hb=>aw fun z=>hb (by simp[z]),Kp.upd hu (yD.fz mu),fun b hb=>by
   have:=NA.mp hb;subst this;exact⟨o,u,hu,mu,ao⟩⟩
 | node ks fs=>
  obtain⟨nd,kvs,ha,ek,hf⟩:=h;obtain⟨na,nd'⟩:=M7.mp nd;obtain⟨H',I',rr,o,k,f⟩:=oh I hf nd';have n:cP X.K H' a (.dct ks (fs.map J6)):=⟨kvs,by rw[o a na];exact ha,ek,rr⟩;obtain⟨ob,u,hu,mu,I2,rp⟩:=I'.frzX n;have k2:Kp H' (upd H' a (.frz ob u)):=Kp.upd hu (yD.fz mu);refine⟨_,I2,rp,fun c hc=>?_,k.trans k2,fun c hc=>?_⟩
  ·rw[aw fun z=>hc (by simp[z])]
   exact o c fun z=>hc (by simp[z])
  ·rcases LJ.mp hc with z | z
   ·subst z
    exact⟨ob,u,by rw[← o c na];exact hu,mu,ao⟩
   ·rw[aw fun w=>na (by rw[← w];exact z)]
    exact f c z
theorem ENT.v{C:Cn}{e:Expr}{f:PSt->R Tr}(h:ENT C e f):EV C e (GI f):=by
 intro pins s σ H Q I ⟨ρ,vw,q⟩;unfold GI at q;cases hf:f ρ with
 | ok t=>
  rw[hf] at q;refine thn (h pins s σ H (fun v H'=>∃a r,v=.ref a/\Same H H'/\(∀b∈a::r,H b=none)/\b6 C.X.K H' a r t) I ⟨ρ,vw,by rw[hf];exact fun a r H' sm n w=>⟨a,r,rfl,sm,n,w⟩⟩) fun u s' ⟨v,H',I',rv,a,r,ev,sm,na,w⟩=>?_;obtain⟨H2,I2,rp,oth,kp,fz⟩:=I'.frzT w;subst ev;refine⟨.ref a,H2,I2,rv,q _ H2 ⟨fun b o e n=>?_,fun b ps e=>?_⟩ rp⟩
  ·have hb:b ∉ a::r:=fun z=>by rw[na b z] at e;cases e
   rw[oth b hb];exact sm.at_ b o e n
  ·have hb:b ∉ a::r:=fun z=>by rw[na b z] at e;cases e
   obtain⟨p1,e1,k1⟩:=sm.tb b ps e;exact⟨p1,by rw[oth b hb];exact e1,fun t=>(k1 t).kp kp⟩
 | er x=>
  rw[hf] at q;exact h pins s σ H Q I ⟨ρ,vw,by rw[hf];exact q⟩
 | no=>
  rw[hf] at q;exact LP q
section
variable{C : Cn}{n : Nat}{e : Expr}
theorem lend{pins:List (Addr×Obj)}{s:LG}{σ:L2.St}{H:Hp}{ρ:PSt}{Z:Zs}{i:Nat}{t:Tr}(I:Inv C.X pins σ H s)(S:StB C.X.K n Z H σ ρ)(ei:ρ[i]?=some (.tree t)) :
  ∃Hf,Inv C.X pins σ Hf s/\View C.X.K Hf σ (ρ.set i (.val (trV t)))/\∀H1 s',Same Hf H1->Inv C.X pins σ H1 s'->∃H2,Inv C.X pins σ H2 s'/\StB C.X.K n Z H2 σ ρ:=by
 obtain⟨B,S,bk⟩:=S;obtain⟨a,r,e3,es,ht⟩:=S.treed i t ei;have hT:=ht.same S.same;obtain⟨Hf,If,rp,oth,kp,fz⟩:=I.frzT hT;refine⟨Hf,If,⟨fun j l ej=>?_,fun P hP=>?_⟩,fun H1 s' sm I1=>?_⟩
 ·rcases b7 ej with⟨rfl,rfl,_⟩|⟨hj,ej⟩
  ·exact⟨_,es,rp⟩
  ·have hx:=S.vw j l ej
   cases l with
   | no=>exact trivial
   | val q=>obtain⟨v,e1,rq⟩:=hx;exact⟨v,e1,rq.kp kp⟩
   | own q=>
    obtain⟨c,e1,rq⟩:=hx;exact⟨c,e1,rq.kp kp (oth c fun z=>bk.liv i a r e3 c z (S.fresh j q c ej e1))⟩
   | tree u=>
    obtain⟨a',r',h1,h2,h3⟩:=S.treed j u ej;exact⟨a',r',h2,(h3.same S.same).off kp fun c hc=>oth c (bk.apart j i a' r' a r h1 e3 hj c hc)⟩
 ·obtain⟨ps,e,k⟩:=S.vw.tb P hP
  have hb:P ∉ a::r:=fun z=>by
   obtain⟨_,u,hu,mu,_⟩:=fz P z;rw[e] at hu;cases hu;cases mu
  exact⟨ps,by rw[oth P hb];exact e,k.kp kp⟩
 ·obtain⟨H2,I2,g1,g2⟩:=qe I (a::r) I1 fun b hb=>by
   obtain⟨o,u,hu,mu,hf⟩:=fz b hb;exact⟨o,u,hu,mu,.inl (sm _ _ hf)⟩
  refine⟨H2,I2,StB.grow ⟨B,S,bk⟩ ⟨fun b o e m=>?_,fun b ps e=>?_⟩⟩
  ·by_cases hb:b∈a::r
   ·rw[g1 b hb];exact e
   ·rw[g2 b hb]
    exact sm.at_ b o (by rw[oth b hb];exact e) m
  ·have hb:b ∉ a::r:=fun z=>by
    obtain⟨_,u,hu,mu,_⟩:=fz b z;rw[e] at hu;cases hu;cases mu
   obtain⟨p1,e1,k1⟩:=sm.tb b ps (by rw[oth b hb];exact e);refine⟨p1,by rw[g2 b hb];exact e1,fun tk=>?_⟩;have t1:=k1 (tk.kp kp);refine⟨t1.1,fun pos v ev=>?_⟩;obtain⟨c,f1,f2⟩:=t1.2 pos v ev
   have hc:c ∉ a::r:=fun z=>by
    obtain⟨o,u,_,_,hf⟩:=fz c z;rw[sm _ _ hf] at f2;cases f2
   exact⟨c,f1,by rw[g2 c hc];exact f2⟩
theorem vk(i:Nat){f:PSt->R Bool}(he:ET C e f):XT C n e (uE i f):=by
 intro pins s σ H Q I ⟨ρ,Z,S,q⟩;unfold uE at q;split at q
 ·rename_i t ei
  obtain⟨Hf,If,vw,back⟩:=lend I S ei;cases hf:f (ρ.set i (.val (trV t))) with
  | ok b=>
   rw[hf] at q;refine thn (he pins s σ Hf (fun b' H'=>b'=b/\Same Hf H') If ⟨_,vw,by rw[hf];exact fun H' s'=>⟨rfl,s'⟩⟩) fun b' s1 ⟨H1,I1,eb,sm⟩=>?_;subst eb;obtain⟨H2,I2,S2⟩:=back H1 s1 sm I1;exact⟨H2,I2,q H2 S2⟩
  | er x=>rw[hf] at q;exact LP q
  | no=>rw[hf] at q;exact LP q
 ·exact LP q
end
end PU
namespace PU
open PySem PySem.Spec PyProof.Rows L2 PySem.SeqAt
def qh:PV->PV->Option PV
 | .str x,.str y=>if (y.length == 0)=false/\x.length<=16777216/\(Txt.split x y).length<=16777216 then some (.lst ((Txt.split x y).map .str)) else none
 | _,_=>none
def xH:PV->PV->Option PV
 | .str x,.str y=>if (y.length == 0)=false/\x.length<=16777216 then some (.tup [.str (Txt.partition x y).1,.str (Txt.partition x y).2.1,.str (Txt.partition x y).2.2]) else none
 | _,_=>none
def oo:PV->PV->PV->Option PV
 | .str x,.str y,.int k=>if (y.length == 0)=false/\x.length<=16777216/\k.natAbs<1000000000/\(Txt.splitMax x y k).length<=16777216 then some (.lst ((Txt.splitMax x y k).map .str)) else none
 | _,_,_=>none
def CV:PV->Option PV
 | .str x=>if x.length<=640 then (Qz x).map .int else none
 | _=>none
def zK(fo fe fg:PSt->R PV)(g:PV->PV->PV->Option PV):PSt->R PV:=fun ρ=>fo ρ >>= fun p=>if ri p=true then fe ρ >>= fun q=>fg ρ >>= fun r=>R.ofO (g p q r) else .no
variable[TW]
theorem kO:∀(xs:List Str)(tk:Nat),Vals (xs.map V.str) (strsFrom tk xs)
 | [],_=>.nil
 | x::r,tk=>.cons ⟨tk,rfl⟩ (kO r (tk+1))
theorem l7{K:LC}{H:Hp}:∀(xs:List Str),aF K H (xs.map .str) (xs.map V.str)
 | []=>rfl
 | x::r=>⟨_,_,rfl,rfl,l7 r⟩
theorem AS:StrM "split" "str.split":=⟨My,PySem.F.type_str_split⟩
theorem HK:StrM "partition" "str.partition":=⟨Qn,PySem.F.type_str_partition⟩
theorem Fw {X:Cx}:MtR X "str.split" (rM1 X.K qh):=by
 intro pins s σ H x xs v us Q I rx rs ⟨p,q,z,u,e1,rp,rq,ez,k⟩;subst e1;obtain⟨a,b,t,t2,rfl,rfl,rfl,rfl⟩:=j9 (g:=qh) (fun p q z e=>by unfold qh at e;split at e;exact⟨_,_,rfl,rfl⟩;cases e) rx rs rp rq ez;have ez:(if (b.length == 0)=false/\a.length<=16777216/\(Txt.split a b).length<=16777216 then some (PV.lst ((Txt.split a b).map .str)) else none)=some z:=ez;split at ez
 ·rename_i hc
  cases ez;obtain⟨hy,ha,hn⟩:=hc;have hs:=MJ
  have one:Txt.split a b=[a]->wants (EP X pins σ Q) X.xe (.ok (.ret (.ref s.heap.objs.size))) { s with heap:=s.heap.push { cls:=.type "list",data:=.seq [Os a t].toArray } }:=fun e=>by
   rw[e] at k;obtain⟨H',I',sm,r'⟩:=lA (ps:=[.str a]) I (ys:=[V.str a]) (its:=[Os a t]) (.cons ⟨t,rfl⟩ .nil) (by show 1<=sizeLine;decide) ⟨_,_,rfl,rfl,rfl⟩ s.toks;exact⟨.ref _,H',I',rfl,k _ H' sm r'⟩
  cases h1:(decide (a.length<b.length) || decide (Mq a<Mq b)) with
  | true=>exact On My (OW _ _ _) NC (P7 _ _) (meets_str_split_cannot_occur a b t t2 h1) (one (if_pos h1))
  | false=>
   cases hf:(Lx a b 0 a.length (a.length+1)).isEmpty with
   | true=>exact On My (OW _ _ _) NC (P7 _ _) (meets_str_split_not_found a b t t2 h1 hy hf) (one ((if_neg (by rw[h1];decide)).trans (if_pos hf)))
   | false=>
    have e:Txt.split a b=N1 a (Lx a b 0 a.length (a.length+1)) b.length:=(if_neg (by rw[h1];decide)).trans (if_neg (by rw[hf];decide));rw[e] at hn k;refine On My (OW _ _ _) NC (P7 _ _) (meets_str_split_sep a b t t2 h1 hy hf (by omega) (by omega)) ?_;obtain⟨H',I',sm,r'⟩:=lA I (kO (N1 a (Lx a b 0 a.length (a.length+1)) b.length) s.toks) (by rw[LI];omega) (l7 _) (s.toks+(N1 a (Lx a b 0 a.length (a.length+1)) b.length).length);exact⟨.ref _,H',I',rfl,k _ H' sm r'⟩
 ·cases ez
theorem Ir {X:Cx}:MtR X "str.partition" (rM1 X.K xH):=by
 intro pins s σ H x xs v us Q I rx rs ⟨p,q,z,u,e1,rp,rq,ez,k⟩;subst e1;obtain⟨a,b,t,t2,rfl,rfl,rfl,rfl⟩:=j9 (g:=xH) (fun p q z e=>by unfold xH at e;split at e;exact⟨_,_,rfl,rfl⟩;cases e) rx rs rp rq ez;have ez:(if (b.length == 0)=false/\a.length<=16777216 then some (PV.tup [.str (Txt.partition a b).1,.str (Txt.partition a b).2.1,.str (Txt.partition a b).2.2]) else none)=some z:=ez;split at ez
 ·rename_i hc
  cases ez;obtain⟨hy,ha⟩:=hc;have hs:=MJ
  have fin:∀(ta tb tc tk:Nat),EP X pins σ Q (.ref s.heap.objs.size) { s with toks:=tk,heap:=s.heap.push { cls:=.type "tuple",data:=.seq [.str (Txt.partition a b).1 ta,.str (Txt.partition a b).2.1 tb,.str (Txt.partition a b).2.2 tc].toArray } }:=fun ta tb tc tk=>by
   have nf:H s.heap.objs.size=none:=I.fresh;refine⟨.ref s.heap.objs.size,_,I.laid (t':=tk) (o:=.tup [.str (Txt.partition a b).1,.str (Txt.partition a b).2.1,.str (Txt.partition a b).2.2]) (fun b ob q=>LH _ q) (LZ _) ?_,rfl,k _ _ (Same.new nf) ⟨_,_,rfl,(.inl ao),_,_,rfl,rfl,_,_,rfl,rfl,_,_,rfl,rfl,rfl⟩⟩;exact⟨by show 3<=sizeLine;decide,_,.cons ⟨ta,rfl⟩ (.cons ⟨tb,rfl⟩ (.cons ⟨tc,rfl⟩ .nil)),AE.new _ _⟩
  refine On Qn (OW _ _ _) PySem.F.entry_str_partition (PySem.F.args_str_partition_2 _ _) (meets_str_partition a b t t2 hy (by omega)) ?_
  revert fin
  unfold Txt.partition;cases Lx a b 0 a.length 1 with
  | nil=>intro fin;exact fin _ _ _ _
  | cons i r=>intro fin;exact fin _ _ _ _
 ·cases ez
def rM2(K:LC)(g:PV->PV->PV->Option PV):V->List V->Hp->VK->Prop:=fun v vs H Q=>∃p q r z u u2,vs=[u,u2]/\aZ K H p v/\aZ K H q u/\aZ K H r u2/\g p q r=some z/\∀w H',Same H H'->Rep K H' z w->Q w H'
theorem Cz {X:Cx}:MtR X "str.split" (rM2 X.K oo):=by
 intro pins s σ H x xs v us Q I rx rs ⟨p,q,r,z,u,u2,e1,rp,rq,rr,ez,k⟩;subst e1;unfold oo at ez;split at ez
 ·rename_i a b n
  cases (show x=.str a from rp);cases (show u=.str b from rq);cases (show u2=.int n from rr);obtain⟨t,rfl⟩:=rx;cases rs with
  | cons r1 rs=>
   cases rs with
   | cons r2 rs=>
    cases rs;obtain⟨t2,rfl⟩:=r1;obtain⟨t3,rfl⟩:=r2;split at ez
    ·rename_i hc
     cases ez;obtain⟨hy,ha,hk,hn⟩:=hc;have hs:=MJ
     have hkk:(decide (n < -(2 ^ 63:Int)) || decide (n ≥ 2 ^ 63))=false:=by
      rw[Bool.or_eq_false_iff];exact⟨decide_eq_false (by omega),decide_eq_false (by omega)⟩
     have one:Txt.splitMax a b n=[a]->wants (EP X pins σ Q) X.xe (.ok (.ret (.ref s.heap.objs.size))) { s with heap:=s.heap.push { cls:=.type "list",data:=.seq [Os a t].toArray } }:=fun e=>by
      rw[e] at k;obtain⟨H',I',sm,r'⟩:=lA (ps:=[.str a]) I (ys:=[V.str a]) (its:=[Os a t]) (.cons ⟨t,rfl⟩ .nil) (by show 1<=sizeLine;decide) ⟨_,_,rfl,rfl,rfl⟩ s.toks;exact⟨.ref _,H',I',rfl,k _ H' sm r'⟩
     cases h1:(decide (a.length<b.length) || decide (Mq a<Mq b)) with
     | true=>exact On My (OW _ _ _) NC (P6 _ _ _) (meets_str_split_max_cannot_occur a b n t t2 t3 hkk h1) (one (if_pos h1))
     | false=>
      cases hf:(Lx a b 0 a.length (Ru a n)).isEmpty with
      | true=>exact On My (OW _ _ _) NC (P6 _ _ _) (meets_str_split_max_not_found a b n t t2 t3 hkk h1 hy hf) (one ((if_neg (by rw[h1];decide)).trans (if_pos hf)))
      | false=>
       have e:Txt.splitMax a b n=N1 a (Lx a b 0 a.length (Ru a n)) b.length:=(if_neg (by rw[h1];decide)).trans (if_neg (by rw[hf];decide));rw[e] at hn k;refine On My (OW _ _ _) NC (P6 _ _ _) (meets_str_split_sep_max a b n t t2 t3 hkk h1 hy hf (by omega) (by omega)) ?_;obtain⟨H',I',sm,r'⟩:=lA I (kO (N1 a (Lx a b 0 a.length (Ru a n)) b.length) s.toks) (by rw[LI];omega) (l7 _) (s.toks+(N1 a (Lx a b 0 a.length (Ru a n)) b.length).length);exact⟨.ref _,H',I',rfl,k _ H' sm r'⟩
    ·cases ez
 ·cases ez
theorem J8{C:Cn}{o e e2:Expr}{fo fe fg:PSt->R PV}{g:PV->PV->PV->Option PV}{name:Str}{id:String}{apos cpos:Nf}(S:StrM name id)(hm:MtR C.X id (rM2 C.X.K g))(ho:EV C o fo)(he:EO C e fe)(hg:EO C e2 fg)
  (hbase:O0 o name C.X.env (Mu o C.X.env)=Mu o C.X.env:=by rfl) (hline:(apos.endLine == cpos.line)=true:=by rfl) (hs:Ls [e,e2] C.X.env=[(false,Mu e C.X.env),(false,Mu e2 C.X.env)]:=by exact nG rfl rfl) (hs2:Ls [e2] C.X.env=[(false,Mu e2 C.X.env)]:=by exact bV rfl) :
  EV C (.Call (.Attribute o name apos) [e,e2] [] cpos) (zK fo fe fg g):=by
 intro pins s σ H Q I ⟨ρ,vw,q⟩;refine zA RI S.slot S.ty hm ho (cX he (cX hg iz hs2) (hs.trans (by rw[hs2]))) hbase (by rw[hs];rfl) hline (hs.trans (by rw[hs2])) (by rw[hs2];rfl) pins s σ H Q I ⟨ρ,vw,q.bind.imp fun p _ k v H1 s1 r1=>?_⟩;cases p with
 | str x=>
  cases (show v=.str x from r1);have k:RQ C H (fe ρ >>= fun q=>fg ρ >>= fun r=>R.ofO (g (.str x) q r)) fun p=>∀v H',Same H H'->Rep C.X.K H' p v->Q v H':=k;refine⟨rfl,ρ,vw.same s1,(k.bind.same s1).imp fun p2 _ k2 u H2 s2 r2=>⟨ρ,(vw.same s1).same s2,(k2.bind.same (s1.trans s2)).imp fun p3 _ k3 u2 H3 s3 r3=>?_⟩⟩;obtain⟨z,ez,k4⟩:=k3.ofO;exact⟨.str x,p2,p3,z,u,u2,rfl,rfl,r2.same s3,r3,ez,fun w H4 s4 r4=>k4 w H4 (((s1.trans s2).trans s3).trans s4) r4⟩
 | _=>exact LP k
theorem Jc {X:Cx}:fU X (.type "int") (r1 X.K CV):=by
 intro pins s σ H xs us Q I r ⟨v,p,z,e1,rp,ez,k⟩;subst e1;cases p with
 | str x=>
  cases (show v=.str x from rp);obtain⟨u,rfl,ru⟩:=vals1 r;obtain⟨t,rfl⟩:=ru;have ez:(if x.length<=640 then (Qz x).map PV.int else none)=some z:=ez;split at ez
  ·rename_i hl
   obtain⟨n,hn,rfl⟩:=LV.mp ez;exact PySem.W.KIN.call_text hn hl ⟨.int n,H,I.tok _,⟨_,rfl⟩,k _ H (Same.refl H) rfl⟩
  ·cases ez
 | _=>cases ez
end PU
namespace PU
open PySem PySem.Spec PyProof.Rows
section
variable{M : Model}{A : M3}{E : LD → LG → Prop}{s : LG}{env : Qo}
theorem Dh{pos:Nf}{T:String}{e:Expr}{rest:List Expr}{kws:List TK}{Q:LD->LG->Prop}
  (h:LO M A (spliced (Nj pos (Ls (e::rest) env))) (fun vs s1=>LO M A (evalAll ((PM pos (OE kws env)).map (·.2))) (fun ks s2=>LO M A (call (.type T) vs (((PM pos (OE kws env)).filterMap (·.1)).zip ks)) Q E s2) E s1) E s)
  (he:Nj pos (Ls (e::rest) env)=(false,Mu e env)::Nj pos (Ls rest env)) (hp:(Nj pos (Ls (e::rest) env)).any (·.1)=false)
  (ha:(PM pos (OE kws env)).all (·.1.isSome)=true) (hk:(PM pos (OE kws env)).any (·.1.isNone)=false) :
  LO M A (callWith pos (.type T) [] (Nj pos (Ls (e::rest) env)) (PM pos (OE kws env))) Q E s:=by
 have h2:LO M A (evalArgs (.type T) true (Nj pos (Ls (e::rest) env)) (PM pos (OE kws env))) (fun a s1=>LO M A (call (.type T) a.pos a.kw) Q E s1) E s:=by
  rw[he] at h ⊢;exact evalArgs_kwB ha h
 unfold callWith;refine LA (N3 (Mx h2 (fun a s1 k1=>LA (Qg ?_)) fun _ _ z=>z));simp only[hp,hk,OJ];refine LA (LF (LA (Mx k1 (fun r s2 kr=>LA (N3 (wpAny_point (LF kr)))) fun _ _ z=>z)))
end
section
variable{prog : LY}{w : Ly}{A : M3}{E : LD → LG → Prop}{s : LG}
theorem Al(l:Addr)(items:Array LD)(n:Nat)(d:Option Addr)(sl:Array (Option LD))(t:Sf) :
  Meets (Builtin.«enumerate.__new__» ⟨[.type "enumerate",.ref l],[("start",.int 1 t)]⟩) (fun _ R s=>s.heap.get? l=some { cls:=.type "list",dict:=d,data:=.seq items n,slots:=sl }/\
   R (.ok (.ret (.ref (s.heap.push { cls:=.type "list_iterator",data:=.fields #[.ref l,.int 0 0] }).objs.size)))
    { s with heap:=(s.heap.push { cls:=.type "list_iterator",data:=.fields #[.ref l,.int 0 0] }).push { cls:=.type "enumerate",data:=.fields #[.none,.bool false,.ref s.heap.objs.size,OD 1,.none,.none] } }):=
 .of_wp fun prog w A R s ⟨hl,h⟩=>by
  obtain⟨hp,g,dd,tk,os⟩:=s;have sb:=sub_enumerate;have hL:Heap.IsList (Rv ⟨hp,g,dd,tk,os⟩) l items:=⟨_,hl,rfl,n,rfl⟩
  wp_walk using Oz hl
  refine wpAny_stack_any fun st=>LF ?_
  split
  ·rename_i c _ _ _ _ _
   cases (c == N8 "enumerate") <;> (wp_walk using Oz hl,NP hL;exact⟨_,rfl,h⟩)
  ·wp_walk using Oz hl,NP hL
   exact⟨_,rfl,h⟩
theorem Dj {T newId:String} {self:LD} {rest:List LD} {kw:List (Str×LD)} (hl:typeLookup (.type T) "__init__"=pure (some (.builtin "object.__init__"))) (hm:Bind.madeBy (.type T)=pure (some newId)) (hne:(some newId != some "object.__new__")=true) :
  Meets (Builtin.«object.__init__» ⟨self::rest,kw⟩) (fun _ R s=>s.TypeIs self T/\R (.ok (.ret .none)) s):=.of_wp fun prog w A R s ⟨hT,hq⟩=>by
 cases rest with
 | nil=>
  cases kw with
  | nil=>exact LF ⟨_,rfl,hq⟩
  | cons b kw=>
   repeat (any_goals (first | assumption | wp_step))
   exact⟨_,rfl,hq⟩
 | cons a rest=>
  repeat (any_goals (first | assumption | wp_step))
  exact⟨_,rfl,hq⟩
theorem Dl {T newId:String} {Bn:Builtin} {args:List LD} {kw:List (Str×LD)} {S:PySem.Spec} {Q:LD->LG->Prop} (ft:TypeCalled T newId "object.__init__") (hne:(some newId != some "object.__new__")=true)
  (hct:checkTypeCall T ⟨args,kw⟩=pure ()) (hcn:checkBuiltinCall newId ⟨.type T::args,kw⟩=pure ()) (hok:∀obj,T8 "object.__init__" ⟨obj::args,kw⟩) (en:entryFor table newId=some Bn) (g:Meets (Bn ⟨.type T::args,kw⟩) S)
  (h:S A.in1 (wants (fun obj s1=>s1.TypeIs obj T/\Q obj s1) E) s):LO (Lz prog w) A (call (.type T) args kw) Q E s:=by
 obtain⟨c0,tl0,f1⟩:=ft.mro;have f2:=ft.made;have f3:=ft.sub;have f4:=ft.notType;have f5:=ft.canCreate;refine wpAny_call (Ro (show LO _ _ (callAny (.type T) _) _ _ _ from LF ⟨Code.quiet_builtin _ (by decide +kernel),Ny SS ?_⟩));rw[SU (weight_type_call_type T args kw) (units_type_call_type T args kw)]
 repeat (any_goals (first | assumption | wp_step))
 refine Oe (QR ft.plain en (QO hcn (g prog w A.in1 _ s h))) fun r s1 hr=>?_;cases r with
 | error e=>exact hr
 | ok fl=>
  cases fl with
  | ret obj=>
   obtain⟨hT,hQ⟩:=hr;have f6:=ft.init.lookup;have f7:=ft.init.bind obj
   repeat (any_goals (first | assumption | wp_step))
   refine Oe (QR ft.init.plain F.entry_object_init (ft.init.check _ _ _ _ _ _ _ _ hT (hok obj) (Dj (kw:=kw) f6 f2 hne prog w A.in1 _ s1 ⟨hT,(show wants (fun r s2=>r=.none/\Q obj s2) E _ s1 from ⟨rfl,hQ⟩)⟩))) fun r2 s2 hr2=>?_;cases r2 with
   | error e=>exact hr2
   | ok fl2=>
    cases fl2 with
    | ret r=>
     obtain⟨rfl,hq⟩:=hr2
     repeat (any_goals (first | assumption | wp_step))
    | _=>exact hr2.elim
  | _=>exact hr.elim
theorem Dk{l:Addr}{items:Array LD}{t:Sf}{Q:LD->LG->Prop}(hL:s.heap.IsList l items)
  (h:∀h',IsEnum h' (s.heap.objs.size+1) s.heap.objs.size 1 .none->h'.IsListIter s.heap.objs.size l 0->(∀b o,s.heap.get? b=some o->h'.get? b=some o)->Q (.ref (s.heap.objs.size+1)) { s with heap:=h' }) :
  LO (Lz prog w) A (call (.type "enumerate") [.ref l] [("start",.int 1 t)]) Q E s:=by
 obtain⟨⟨c,d,dt,sl⟩,hl,hc,n,hd⟩:=hL;cases (show c=.type "list" from hc);cases (show dt=.seq items n from hd);refine Dl F.called_enumerate (by decide) (by kernel_rfl) (by kernel_rfl) (fun obj=>by first | exact F.args_object_init_2 obj _ | trivial | simp[T8]) F.entry_enumerate_new (Al l items n d sl t) ⟨hl,?_⟩;have hz:(s.heap.push { cls:=.type "list_iterator",data:=.fields #[.ref l,.int 0 0] }).objs.size=s.heap.objs.size+1:=MC ..;rw[hz];have he:=LN (s.heap.push { cls:=.type "list_iterator",data:=.fields #[.ref l,.int 0 0] }) (o:={ cls:=.type "enumerate",data:=.fields #[.none,.bool false,.ref s.heap.objs.size,OD 1,.none,.none] }) rfl;rw[hz] at he;exact⟨⟨_,he,rfl⟩,h _ he ⟨_,LH _ (LN _ rfl),rfl,rfl⟩ fun b o x=>LH _ (LH _ x)⟩
end
theorem Am{prog:LY}{w:Ly}{A:M3}{it:Addr}{fp:List Addr}{n:Nat}{P:Nat->LD->Prop}{St:Nat->Heap->Prop}(D:Rf prog w A it fp n P St) :
  Rf prog w A it fp (n+1) (fun i v=>∃j,i=j+1/\P j v) (fun i h=>∃j,i=j+1/\St j h) where
 live:=fun i h ⟨j,_,st⟩=>D.live j h st
 frame:=fun i h h' ⟨j,e,st⟩ k=>⟨j,e,D.frame j h h' st k⟩
 item:=fun i s Q E hi ⟨j,e,st⟩ hQ=>D.item j s Q E (by omega) st fun x h' tk p st' sb=>hQ x h' tk ⟨j,e,p⟩ ⟨j+1,by omega,st'⟩ sb
 done:=fun s Q E ⟨j,e,st⟩ hE=>by
  cases (show n=j by omega);exact D.done s Q E st hE
theorem Di{prog:LY}{w:Ly}{A:M3}{I:Addr}{fp wr:List Addr}{n:Nat}{Pt:Nat->Array LD->Prop}{St:Nat->Heap->Prop}{Mid:Nat->Addr->Heap->Prop}(W:WalksT prog w A I fp wr (n+1) Pt St Mid) :
  WalksT prog w A I fp wr n (fun i=>Pt (i+1)) (fun i=>St (i+1)) (fun i=>Mid (i+1)) where
 sub:=W.sub
 frame:=fun i=>W.frame (i+1)
 item:=fun i s Q E hi=>W.item (i+1) s Q E (by omega)
 go:=fun elts k pos i=>W.go elts k pos (i+1)
 apart:=fun i=>W.apart (i+1)
 done:=W.done
 self:=fun i=>W.self (i+1)
end PU
namespace PU
open PySem PySem.Spec PyProof.Rows L2 PySem.SeqAt
def pM(ps:List PV):List (List PV):=(M9 ps.length).zipWith (fun (i:Nat) p=>[.int ((i+1:Nat):Int),p]) ps
def sY:PV->Option (List PV)
 | .lst ps=>some ((pM ps).map .tup)
 | _=>none
def jz(f:PSt->R PV):PSt->R (List PV):=fun ρ=>f ρ >>= fun p=>R.ofO (sY p)
variable[TW]
def zF(xs:List V):List (List V):=(M9 xs.length).zipWith (fun (i:Nat) x=>[.int ((i+1:Nat):Int),x]) xs
theorem wO{K:LC}{H:Hp}{ps:List PV}{xs:List V}(r:aF K H ps xs):∀(i:Nat)(qs:List PV)(ys:List V),(pM ps)[i]?=some qs->(zF xs)[i]?=some ys->aF K H qs ys:=fun i qs ys h1 h2=>by
 unfold pM at h1;unfold zF at h2;rw[lu] at h1 h2;cases e:ps[i]? with
 | none=>rw[e] at h1;cases h1
 | some p=>
  rw[e] at h1;obtain⟨x,ex,rp⟩:=r.get e;rw[ex] at h2;cases h1;cases h2;exact⟨_,_,rfl,rfl,_,_,rfl,rp,rfl⟩
theorem ue{P:LY}{w:Ly}{K:LC}{elts:List Expr}{kk:Nat}{tp:Nf}(a it e:Addr)(xs:List V)(hne:e≠it)(hae:a≠e)(hai:a≠it) :
  Turn P w K (.Tuple elts kk tp) (m9 xs.length (fun H=>SqL K H a xs) (zF xs)) [e,it] e (fun i h=>(∃old,IsEnum h e it ((i+1:Nat):Int) old)/\h.IsListIter it a i):=by
 refine rV (wr:=[e,it]) (n:=xs.length) (fun X pins σ H s i hP hw hK hc I st hg=>?_) (by simp) (fun b hb=>hb) (fun i h st b hb=>?_) (fun i h h' st k=>?_) (fun i H h=>h.1) (fun i H h=>h.1) fun A i s Q E st h=>O7 st.1.choose_spec h
 ·subst hP hw hK
  have hq:SqL X.K H a xs:=by rcases hg with h | h <;> exact h.2
  obtain⟨its,rv,pl,hz⟩:=I.list hq;have hl:=rv.length;have W:=Di (QK (A:=X.A) (Am (Sg (prog:=X.prog) (w:=X.w) (A:=X.A.in1) (I.ok.hd hc) it a hai its.toArray)) e hne (by simp[hne,NG hae]) (by simp));rw[show its.toArray.size=xs.length by simp[hl]] at W;refine⟨_,_,_,_,W,⟨st.1,i,rfl,st.2,pl.isList⟩,fun j h ⟨s1,j',ej,s2⟩=>⟨s1,by cases (show j=j' by omega);exact s2.1⟩,fun vals hv=>?_⟩;obtain⟨t,x,⟨j,ej,hx⟩,rfl⟩:=hv;cases (show i=j by omega);have hx:its[i]?=some x:=by simpa using hx
  have hi:i<xs.length:=by rw[hl];exact(Lw.mp hx).1
  have e1:xs[i]?=some xs[i]:=by simp[hi]
  obtain⟨u,eu,ru⟩:=rv.get e1;rw[hx] at eu;cases eu;refine⟨[.int ((i+1:Nat):Int),xs[i]],.cons ⟨t,rfl⟩ (.cons ru .nil),by show 2<=sizeLine;decide,fun z=>(by obtain⟨b,z⟩:=z _ Lp;cases z),fun T hT=>⟨T,_,rfl,hT,?_,rfl⟩⟩;unfold zF;rw[lu,e1];rfl
 ·obtain⟨⟨old,he⟩,o,ho,hc,hd⟩:=st
  rcases LJ.mp hb with rfl | hb
  ·exact⟨_,he,fun v z=>by cases (show Q4 _=PQ v from z)⟩
  ·have:b=it:=by simpa using hb
   subst this;exact⟨o,ho,fun v z=>by rw[hd] at z;cases z⟩
 ·obtain⟨⟨old,he⟩,hi⟩:=st
  exact⟨⟨old,k e (by simp) _ he⟩,hi.at fun o x=>k it (by simp) o x⟩
theorem tf {C:Cn} {e:Expr} {elts:List Expr} {kk:Nat} {tp p pos kp cp:Nf} {j} {f:PSt->R PV} (hg:Gl C.X "enumerate") (hm:C.X.mg "enumerate"=none) (he:EV C e f) (hs:Ls [e] C.X.env=[(false,Mu e C.X.env)]:=by exact bV rfl) :
  EI C (.Tuple elts kk tp) (.Call (.Name "enumerate" p) [e] [⟨some "start",.Constant (.int 1) j cp,kp⟩] pos) (jz f):=by
 intro pins s σ H Rk I ⟨ρ,vw,q⟩
 refine Nv (jl I hg hm iF (Dh (thn ((cX he iz hs) pos pins s σ H (fun vs H'=>∃v p ps,vs=[v]/\Same H H'/\Rep C.X.K H' p v/\sY p=some ps/\∀J H2,Same H' H2->ItP C.X.K J H2 ps->Rk J H2) I ⟨ρ,vw,q.bind.imp fun p _ k v H' s' r=>?_⟩)
  fun us s1 ⟨vs,H1,I1,r1,v,p,ps,ev,sm,rp,ep,k⟩=>thn ((Cc B0 EY) pos pins s1 σ H1 (fun vs H'=>vs=[.int 1]/\H'=H1) I1 ⟨rfl,rfl⟩) fun ws s2 ⟨zs,H2,I2,r2,ez,eh⟩=>?_) (by rw[hs];rfl) (by rw[hs];rfl) rfl rfl))
 ·obtain⟨ps,ep,k⟩:=k.ofO
  exact⟨v,p,ps,rfl,s',r,ep,fun J H2 s2 it=>k J H2 (s'.trans s2) it⟩
 ·subst ev ez eh
  obtain⟨u,rfl,ru⟩:=vals1 r1;obtain⟨u2,rfl,ru2⟩:=vals1 r2;obtain⟨t2,rfl⟩:=ru2;have hne:s2.heap.objs.size+1≠s2.heap.objs.size:=Qp _;cases p with
  | lst qs=>
   cases ep;obtain⟨a,xs,rfl,g,rr⟩:=rp;cases ru;obtain⟨its,rv,pl,hz⟩:=I2.list g.l.l;have ha:a<s2.heap.objs.size:=by obtain⟨o,n,ho,_⟩:=pl;exact LM ho
   refine Dk pl.isList fun h' he' hi' hk=>O7 he' ?_;refine⟨_,_,_,_,H2,rfl,I2.kept (t':=s2.toks) hk,ue a s2.heap.objs.size (s2.heap.objs.size+1) xs hne (Lo (N0 ha)) (Lo ha),⟨⟨_,he'⟩,hi'⟩,fun b hb=>?_,k _ H2 (Same.refl H2) ?_⟩
   ·have hb:s2.heap.objs.size<=b:=by
     simp only[LJ,Ln,or_false] at hb;rcases hb with rfl | rfl
     ·exact OR _
     ·exact LZ _
    exact I2.fpOk hb (I2.hok.fresh hb)
   ·exact og (by unfold pM;simp[rr.length]) (fun H3 k3=>(k3.sqF g).l.l) (wO rr)
  | _=>cases ep
end PU
namespace PU
open PySem PySem.Spec PyProof.Rows
section
variable{prog : LY}{w : Ly}{A : M3}{E : LD → LG → Prop}{s : LG}
theorem Bx{it t:Addr}{i:Nat}{items:Array LD}{x:LD}{Q:LD->LG->Prop}(hit:s.heap.IsTupleIter it t i)(ht:s.heap.IsTuple t items)(hx:items[i]?=some x)
  (hQ:∀g,g.IsTupleIter it t (i+1)->NB it s.heap g->Q x { s with heap:=g }):LO (Lz prog w) A (MM (.ref it)) Q E s:=by
 obtain⟨o,e1,e2,e3⟩:=id hit;obtain⟨o2,f1,_,n,f3⟩:=ht;unfold MM
 refine LA (Ma (name:=LB "__next__") hit.typeIs OA (MF OA hit.typeIs Re
  (show LO _ _ (Sq (.ref it) 0 >>= _) _ _ s from LA (Mz e1 e3 (x:=.ref t) rfl (show LO _ _ (if (Mn t == Md)=true then _ else _) _ _ s from ?_))) (RJ _)))
 rw[if_neg (show ¬ ((Mn t == Md)=true) from LX)];refine(show LO _ _ (Sq (.ref it) 1 >>= _) _ _ s from LA (Mz e1 e3 (x:=.int i 0) rfl (show LO _ _ (Sn (.ref t) >>= _) _ _ s from LA (Mv f1 f3 ?_))));simp only[hx,Qf];refine LA (wpAny_setField e1 e3 (by simp) (LF ⟨x,rfl,LF (hQ _ ⟨_,N6 _ e1 (Obj.isFreed_of_fields (TJ e3 _)),(Obj.cls_mapFields ..).trans e2,?_⟩ (OX ..))⟩));rw[TJ e3];simp[OD]
theorem E2{it t:Addr}{i:Nat}{items:Array LD}{Q:LD->LG->Prop}(hh:A.handled=none)(hit:s.heap.IsTupleIter it t i)(ht:s.heap.IsTuple t items)(hx:items[i]?=none)
  (hE:∀g e,SR it s.heap g->(∃o,g.get? e=some o/\o.cls=.type "StopIteration")->E (.ref e) { s with heap:=g }):LO (Lz prog w) A (MM (.ref it)) Q E s:=by
 obtain⟨o,e1,e2,e3⟩:=id hit;obtain⟨o2,f1,_,n,f3⟩:=ht;unfold MM
 refine LA (Ma (name:=LB "__next__") hit.typeIs OA (MF OA hit.typeIs Re
  (show LO _ _ (Sq (.ref it) 0 >>= _) _ _ s from LA (Mz e1 e3 (x:=.ref t) rfl (show LO _ _ (if (Mn t == Md)=true then _ else _) _ _ s from ?_))) (RJ _)))
 rw[if_neg (show ¬ ((Mn t == Md)=true) from LX)];refine(show LO _ _ (Sq (.ref it) 1 >>= _) _ _ s from LA (Mz e1 e3 (x:=.int i 0) rfl (show LO _ _ (Sn (.ref t) >>= _) _ _ s from LA (Mv f1 f3 ?_))));simp only[hx,Qf];refine LA (OV (LA (wpAny_setField e1 e3 (by simp) (show LO _ _ (newExc (.type "StopIteration") [] >>= _) _ _ _ from LA ?_))));simp only[newExc,newTuple];refine LA (MO (LA (m:=Od _ _) (QO (a:=Md) (by first | rfl | (simp only[Od];rfl)) (MO ?_ (by size_fits)))) (by size_fits));simp only[raiseNew];refine LA (SZ ?_)
 first | rw[show A.in1.handled=none from hh] | rw[hh]
 exact LA (LF (wpAny_throw (hE _ _ (((OX ..).extBut.push _).push _) ⟨_,LN _ rfl,rfl⟩)))
end
theorem yL{prog:LY}{w:Ly}{A:M3}(hh:A.handled=none)(it t:Addr)(hne:t≠it)(items:Array LD) :
  Rf prog w A it [it,t] items.size (fun i v=>items[i]?=some v) (fun i h=>h.IsTupleIter it t i/\h.IsTuple t items) where
 live:=fun _ _ ⟨⟨o,e,_⟩,_⟩=>⟨o,e⟩
 frame:=fun _ _ _ ⟨a,o,e,r⟩ k=>⟨a.at fun o e=>k it (by simp) o e,o,k t (by simp) o e,r⟩
 item:=fun i s Q E hi st hQ=>Bx st.1 st.2 (x:=items[i]) (by simp[hi]) fun g g1 g2=>hQ _ g s.toks (by simp[hi]) ⟨g1,st.2.extBut g2.extBut hne⟩ g2
 done:=fun s Q E st hE=>E2 hh st.1 st.2 (by simp) hE
structure ZtA(z T O i1 i2:Addr)(f1 f2:List Addr):Prop where
 nd:[z,T,O,i1,i2].Nodup
 m1:i1∈f1
 m2:i2∈f2
 a1:∀b∈f1,b≠z/\b≠O/\b≠i2
 a2:∀b∈f2,b≠z/\b≠O/\b≠i1
section
variable{prog : LY}{w : Ly}{A : M3}{E : LD → LG → Prop}{s : LG}{z T O i1 i2 : Addr}{f1 f2 : List Addr}{n1 n2 : Nat}{P1 P2 : Nat → LD → Prop}{S1 S2 : Nat → Heap → Prop}
theorem Bw{k:Nat}{a b:LD}{Q:LD->LG->Prop}(Z:ZtA z T O i1 i2 f1 f2)(D1:Rf prog w A i1 f1 n1 P1 S1)(D2:Rf prog w A i2 f2 n2 P2 S2)(hz:QT s.heap z T O .none)(hT:OF s.heap T (.ref i1) (.ref i2))(hO:OF s.heap O a b)
  (k1:k<n1) (k2:k<n2) (st1:S1 k s.heap) (st2:S2 k s.heap)
  (hQ:∀(x y:LD)(g:Heap)(N:Addr)(tk:Nat),P1 k x->P2 k y->QT g z T O (OD N)->OF g O x y->S1 (k+1) g->S2 (k+1) g->OF g N x y->s.heap.objs.size<=N->(∀c o,c≠z->c≠O->c≠i1->c≠i2->s.heap.get? c=some o->g.get? c=some o)->Q (.ref N) { s with heap:=g,toks:=tk }) :
  LO (Lz prog w) A (Builtin.«zip.__next__» ⟨[.ref z],[]⟩) (fun fin s'=>∃v,fin=.done (.ret v)/\Q v s') E s:=by
 have nd:=Z.nd;simp only[M7,LJ,Ln,or_false,not_or] at nd;obtain⟨⟨zT,zO,z1,z2⟩,⟨TO,T1,T2⟩,⟨O1,O2⟩,n12,_⟩:=nd;refine(show LO _ _ (Sq (.ref z) 2 >>= _) _ _ _ from LA (Mz hz rfl (x:=.bool false) rfl (show LO _ _ (Sq (.ref z) 3 >>= _) _ _ _ from LA (Mz hz rfl (x:=.ref T) rfl (LA (Mv hT rfl (show LO _ _ (N9 (.ref z) >>= _) _ _ _ from LA ?_)))))));unfold N9;refine LA (Mz hz rfl (x:=.none) rfl (LF ?_));simp only[if_true];refine LA (OV (LA (Mz hz rfl (x:=.ref O) rfl (LA (Mi hz (by simp) fun g1 hz1 c1=>LA ?_)))));have hz1:QT g1 z T O .ellipsis:=hz1;simp only[List.zipIdx_cons,List.zipIdx_nil,Pw,List.forIn_nil];refine LA (LA (Pn (show LO _ _ (MM (.ref i1) >>= _) _ _ _ from LA (D1.item k _ _ _ k1 (D1.frame _ _ _ st1 fun b hb o e=>c1.extBut _ _ (Z.a1 b hb).1 e) fun x g2 t2 p1 s2 c2=>LF ?_))));have hO2:OF g2 O a b:=c2.extBut _ _ O1 (c1.extBut _ _ (NG zO) hO);refine LA (Mv hO2 rfl (LA (QN hO2 fun g3 hO3 c3=>LA (RT (LF ?_)))));have hO3:OF g3 O x b:=hO3;refine LA (LA (Pn (show LO _ _ (MM (.ref i2) >>= _) _ _ _ from LA (D2.item k _ _ _ k2 (D2.frame _ _ _ st2 fun b hb o e=>c3.extBut _ _ (Z.a2 b hb).2.1 (c2.extBut _ _ (Z.a2 b hb).2.2 (c1.extBut _ _ (Z.a2 b hb).1 e))) fun y g4 t4 p2 s4 c4=>LF ?_))));have hO4:OF g4 O x b:=c4.extBut _ _ O2 hO3;refine LA (Mv hO4 rfl (LA (QN hO4 fun g5 hO5 c5=>LA (RT (LF (LF ?_))))));have hO5:OF g5 O x y:=hO5;refine LA (Mv hO5 rfl (LA (wpAny_newTuple ?_)));have up5:∀c o,c≠z->c≠O->c≠i1->c≠i2->s.heap.get? c=some o->g5.get? c=some o:=fun c o d1 d2 d3 d4 e=>c5.extBut _ _ d2 (c4.extBut _ _ d4 (c3.extBut _ _ d2 (c2.extBut _ _ d3 (c1.extBut _ _ d1 e))));have hz5:QT g5 z T O .ellipsis:=c5.extBut _ _ zO (c4.extBut _ _ z2 (c3.extBut _ _ zO (c2.extBut _ _ z1 hz1)));have q1:S1 (k+1) g5:=D1.frame _ _ _ s2 fun b hb o e=>c5.extBut _ _ (Z.a1 b hb).2.1 (c4.extBut _ _ (Z.a1 b hb).2.2 (c3.extBut _ _ (Z.a1 b hb).2.1 e));have q2:S2 (k+1) g5:=D2.frame _ _ _ s4 fun b hb o e=>c5.extBut _ _ (Z.a2 b hb).2.1 e;have lz:z<g5.objs.size:=LM hz5;have sz:s.heap.objs.size<=g5.objs.size:=Qd (by rw[c5.1,c4.1,c3.1,c2.1,c1.1]);refine(show LO _ _ (Oy (.ref z) (.ref g5.objs.size) >>= _) _ _ _ from LA ?_);unfold Oy;have hz6:QT (g5.push { cls:=.type "tuple",data:=.seq #[x,y] }) z T O .ellipsis:=LH _ hz5;refine LA (Mi hz6 (by simp) fun g7 hz7 c7=>Mi (show QT g7 z T O (OD g5.objs.size) from hz7) (by simp) fun g8 hz8 c8=>LF ⟨_,rfl,?_⟩);have up8:∀c o,c≠z->(g5.push { cls:=.type "tuple",data:=.seq #[x,y] }).get? c=some o->g8.get? c=some o:=fun c o d e=>c8.extBut _ _ d (c7.extBut _ _ d e);have up:∀c o,c≠z->g5.get? c=some o->g8.get? c=some o:=fun c o d e=>up8 c o d (LH _ e)
 exact hQ x y g8 g5.objs.size _ p1 p2 hz8 (up _ _ (NG zO) hO5) (D1.frame _ _ _ q1 fun b hb o e=>up b o (Z.a1 b hb).1 e) (D2.frame _ _ _ q2 fun b hb o e=>up b o (Z.a2 b hb).1 e) (up8 _ _ (ML lz) (LN _ rfl)) sz
  fun c o d1 d2 d3 d4 e=>up c o d1 (up5 c o d1 d2 d3 d4 e)
theorem Bv{a b:LD}{Q:Fin->LG->Prop}(Z:ZtA z T O i1 i2 f1 f2)(D1:Rf prog w A i1 f1 n1 P1 S1)(D2:Rf prog w A i2 f2 n2 P2 S2)(hz:QT s.heap z T O .none)(hT:OF s.heap T (.ref i1) (.ref i2))(hO:OF s.heap O a b)
  (st1:S1 (Si n1 n2) s.heap) (st2:S2 (Si n1 n2) s.heap)
  (hE:∀g e tk,(∀c o,c≠z->c≠O->c≠i1->c≠i2->s.heap.get? c=some o->g.get? c=some o)->(∃o,g.get? e=some o/\o.cls=.type "StopIteration")->E (.ref e) { s with heap:=g,toks:=tk }) :
  LO (Lz prog w) A (Builtin.«zip.__next__» ⟨[.ref z],[]⟩) Q E s:=by
 have nd:=Z.nd;simp only[M7,LJ,Ln,or_false,not_or] at nd;obtain⟨⟨zT,zO,z1,z2⟩,⟨TO,T1,T2⟩,⟨O1,O2⟩,n12,_⟩:=nd;refine(show LO _ _ (Sq (.ref z) 2 >>= _) _ _ _ from LA (Mz hz rfl (x:=.bool false) rfl (show LO _ _ (Sq (.ref z) 3 >>= _) _ _ _ from LA (Mz hz rfl (x:=.ref T) rfl (LA (Mv hT rfl (show LO _ _ (N9 (.ref z) >>= _) _ _ _ from LA ?_)))))));unfold N9;refine LA (Mz hz rfl (x:=.none) rfl (LF ?_));simp only[if_true];refine LA (OV (LA (Mz hz rfl (x:=.ref O) rfl (LA (Mi hz (by simp) fun g1 hz1 c1=>LA ?_)))));have hz1:QT g1 z T O .ellipsis:=hz1;simp only[List.zipIdx_cons,List.zipIdx_nil,Pw,List.forIn_nil]
 have fin:∀{g g':Heap} {e:Addr} {tk:Nat},QT g' z T O .ellipsis->(∀c o,c≠z->c≠O->c≠i1->c≠i2->s.heap.get? c=some o->g'.get? c=some o)->(∃o,g'.get? e=some o/\o.cls=.type "StopIteration")->
   LO (Lz prog w) A (setField (.ref z) 0 .none) (fun _ s'=>E (.ref e) s') E { s with heap:=g',toks:=tk }:=fun {g g' e tk} h1 h2 ⟨o,h3,h4⟩=>by
  have ez:e≠z:=fun q=>by subst q;rw[h1] at h3;cases h3;simp at h4
  exact Mi h1 (by simp) fun g3 _ c3=>hE g3 e tk (fun c o d1 d2 d3 d4 x=>c3.extBut _ _ d1 (h2 c o d1 d2 d3 d4 x)) ⟨o,c3.extBut _ _ ez h3,h4⟩
 by_cases h12:n1<=n2
 ·rw[Nat.min_eq_left h12] at st1
  refine LA (LA (Pn (show LO _ _ (MM (.ref i1) >>= _) _ _ _ from LA (D1.done _ _ _ (D1.frame _ _ _ st1 fun b hb o e=>c1.extBut _ _ (Z.a1 b hb).1 e) fun g2 e c2 he=>?_))));exact fin (g:=g2) (c2 _ _ z1 hz1) (fun c o d1 d2 d3 d4 x=>c2 _ _ d3 (c1.extBut _ _ d1 x)) he
 ·have h21:n2<n1:=by omega
  rw[Nat.min_eq_right (Ow h21)] at st1 st2;refine LA (LA (Pn (show LO _ _ (MM (.ref i1) >>= _) _ _ _ from LA (D1.item n2 _ _ _ h21 (D1.frame _ _ _ st1 fun b hb o e=>c1.extBut _ _ (Z.a1 b hb).1 e) fun x g2 t2 p1 s2 c2=>LF ?_))));have hO2:OF g2 O a b:=c2.extBut _ _ O1 (c1.extBut _ _ (NG zO) hO);refine LA (Mv hO2 rfl (LA (QN hO2 fun g3 hO3 c3=>LA (RT (LF ?_)))));refine LA (LA (Pn (show LO _ _ (MM (.ref i2) >>= _) _ _ _ from LA (D2.done _ _ _ (D2.frame _ _ _ st2 fun b hb o e=>c3.extBut _ _ (Z.a2 b hb).2.1 (c2.extBut _ _ (Z.a2 b hb).2.2 (c1.extBut _ _ (Z.a2 b hb).1 e))) fun g4 e c4 he=>?_))));exact fin (g:=g4) (c4 _ _ z2 (c3.extBut _ _ zO (c2.extBut _ _ z1 hz1))) (fun c o d1 d2 d3 d4 x=>c4 _ _ d4 (c3.extBut _ _ d2 (c2.extBut _ _ d3 (c1.extBut _ _ d1 x)))) he
end
end PU
namespace PU
open PySem PySem.Spec PyProof.Rows L2 PySem.SeqAt
theorem yJ{prog:LY}{w:Ly}{A:M3}{z T O i1 i2:Addr}{f1 f2:List Addr}{n1 n2:Nat}{P1 P2:Nat->LD->Prop}{S1 S2:Nat->Heap->Prop}(Z:ZtA z T O i1 i2 f1 f2)(hT1:T ∉ f1)(hT2:T ∉ f2)
  (D1:Rf prog w A.in1 i1 f1 n1 P1 S1) (D2:Rf prog w A.in1 i2 f2 n2 P2 S2) :
  WalksT prog w A z (z::T::O::(f1++f2)) [z,O,i1,i2] (Si n1 n2) (fun i vals=>∃x y,P1 i x/\P2 i y/\vals=#[x,y])
   (fun i h=>QT h z T O .none/\OF h T (.ref i1) (.ref i2)/\(∃a b,OF h O a b)/\S1 i h/\S2 i h)
   (fun i N h=>QT h z T O (OD N)/\OF h T (.ref i1) (.ref i2)/\(∃a b,OF h O a b)/\S1 (i+1) h/\S2 (i+1) h/\N ∉ [z,O,i1,i2]):=by
 have nd:=Z.nd;simp only[M7,LJ,Ln,or_false,not_or] at nd;obtain⟨⟨zT,zO,z1,z2⟩,⟨TO,T1,T2⟩,⟨O1,O2⟩,n12,_⟩:=nd
 have fr:∀{h h':Heap},(∀b∈z::T::O::(f1++f2),∀o,h.get? b=some o->h'.get? b=some o)->(∀b∈f1,∀o,h.get? b=some o->h'.get? b=some o)/\∀b∈f2,∀o,h.get? b=some o->h'.get? b=some o:=
  fun k=>⟨fun b hb=>k b (by simp[hb]),fun b hb=>k b (by simp[hb])⟩
 refine⟨fun b hb=>?_,fun i h h' st k=>⟨k z (by simp) _ st.1,k T (by simp) _ st.2.1,?_,D1.frame _ _ _ st.2.2.2.1 (fr k).1,D2.frame _ _ _ st.2.2.2.2 (fr k).2⟩,fun i s Q E hi st hQ=>?_,fun elts k pos i N s Q E hm hQ=>?_,fun i N h hm=>hm.2.2.2.2.2,fun s Q E st hQ=>?_,fun i s Q E st hQ=>RC st.1 hQ⟩
 ·simp only[LJ,Ln,or_false] at hb
  rcases hb with rfl | rfl | rfl | rfl
  ·simp
  ·simp
  ·simp[Z.m1]
  ·simp[Z.m2]
 ·obtain⟨a,b,hO⟩:=st.2.2.1
  exact⟨a,b,k O (by simp) _ hO⟩
 ·obtain⟨hz,hT,⟨a,b,hO⟩,s1,s2⟩:=st
  have hY:s.TypeIs (.ref z) "zip":=⟨_,hz,rfl⟩;have l1:i1<s.heap.objs.size:=by obtain⟨o,e⟩:=D1.live _ _ s1;exact LM e
  have l2:i2<s.heap.objs.size:=by obtain⟨o,e⟩:=D2.live _ _ s2;exact LM e
  have l3:z<s.heap.objs.size:=LM hz;have l4:O<s.heap.objs.size:=LM hO;unfold Om
  refine LA (Oo (Ma (name:=LB "__next__") hY Q3 (MF Q3 hY F.entry_zip_next
   (Bw Z D1 D2 hz hT hO (LK hi (Nat.min_le_left ..)) (LK hi (Nat.min_le_right ..)) s1 s2 fun x y g N tk p1 p2 q1 q2 q3 q4 q5 q6 q7=>LF ?_) (F.args_zip_next_1 _))))
  exact hQ N #[x,y] g tk ⟨x,y,p1,p2,rfl⟩ q6 ⟨_,q5,rfl,_,rfl⟩ ⟨q1,q7 _ _ (NG zT) TO T1 T2 hT,⟨_,_,q2⟩,q3,q4,by simp only[LJ,Ln,or_false,not_or];exact⟨ML (LK l3 q6),ML (LK l4 q6),ML (LK l1 q6),ML (LK l2 q6)⟩⟩
   fun c o hc e=>q7 c o (fun x=>hc (by simp[x])) (fun x=>hc (by simp[x])) (fun x=>hc (by simp[x])) (fun x=>hc (by simp[x])) e
 ·obtain⟨hz,hT,⟨a,b,hO⟩,s1,s2,_⟩:=hm
  exact wpAny_letOwnedTupleGo_zip hz fun h' hz' hs'=>hQ h' ⟨hz',hs'.extBut _ _ (NG zT) hT,⟨a,b,hs'.extBut _ _ (NG zO) hO⟩,D1.frame _ _ _ s1 fun b hb o e=>hs'.extBut _ _ (Z.a1 b hb).1 e,D2.frame _ _ _ s2 fun b hb o e=>hs'.extBut _ _ (Z.a2 b hb).1 e⟩ fun c o hc e=>hs'.extBut _ _ (fun x=>hc (by simp[x])) e
 ·obtain⟨hz,hT,⟨a,b,hO⟩,s1,s2⟩:=st
  have hY:s.TypeIs (.ref z) "zip":=⟨_,hz,rfl⟩;unfold Om
  refine LA (Oo (Ma (name:=LB "__next__") hY Q3 (MF Q3 hY F.entry_zip_next
   (Bv Z D1 D2 hz hT hO s1 s2 fun g e tk q1 ⟨o,ho,hc⟩=>LA (Na (T:="StopIteration") (b:=true) ⟨o,ho,hc⟩ isSubtype_stop (LF (hQ g tk fun c o hc e=>q1 c o (fun x=>hc (by simp[x])) (fun x=>hc (by simp[x])) (fun x=>hc (by simp[x])) (fun x=>hc (by simp[x])) e)))) (F.args_zip_next_1 _))))
def ztH(h:Heap)(t l:Addr):Heap:=
 ((((h.push { cls:=.type "tuple_iterator",data:=.fields #[.ref t,.int 0 0] }).push { cls:=.type "list_iterator",data:=.fields #[.ref l,.int 0 0] }).push { cls:=.type "tuple",data:=.seq #[.ref h.objs.size,.ref (h.objs.size+1)] }).push { cls:=.type "tuple",data:=.seq #[.none,.none] }).push
  { cls:=.type "zip",data:=.fields #[.none,.bool false,.bool false,.ref (h.objs.size+2),.ref (h.objs.size+3)] }
theorem yK (t l:Addr) (xs ys:Array LD):Meets (Builtin.«zip.__new__» ⟨[.type "zip",.ref t,.ref l],[]⟩) (fun _ R s=>s.heap.IsTuple t xs/\s.heap.IsList l ys/\R (.ok (.ret (.ref (s.heap.objs.size+4)))) { s with heap:=ztH s.heap t l }):=
 .of_wp fun prog w A R s h=>by
  obtain⟨hp,g,d,tk,os⟩:=s;obtain⟨h1,h2,h⟩:=h;have sb:=sub_zip;have k1:Heap.IsTuple (Rv ⟨hp,g,d,tk,os⟩) t xs:=h1;have k2:Heap.IsList (Rv ⟨hp.push { cls:=.type "tuple_iterator",data:=.fields #[.ref t,.int 0 0] },g,d,tk,os⟩) l ys:=Heap.IsList.push h2 _
  wp_walk using wpAny_pyIter_tuple k1,NP k2
  refine⟨_,rfl,?_⟩;simp only[MC];exact h
theorem By{prog:LY}{w:Ly}{A:M3}{E:LD->LG->Prop}{s:LG}{t l:Addr}{xs ys:Array LD}{Q:LD->LG->Prop}(h1:s.heap.IsTuple t xs)(h2:s.heap.IsList l ys)
  (hQ:∀h',QT h' (s.heap.objs.size+4) (s.heap.objs.size+2) (s.heap.objs.size+3) .none/\OF h' (s.heap.objs.size+2) (.ref s.heap.objs.size) (.ref (s.heap.objs.size+1))/\(∃a b,OF h' (s.heap.objs.size+3) a b)/\
   h'.IsTupleIter s.heap.objs.size t 0/\h'.IsListIter (s.heap.objs.size+1) l 0->(∀c o,s.heap.get? c=some o->h'.get? c=some o)->Q (.ref (s.heap.objs.size+4)) { s with heap:=h' }) :
  LO (Lz prog w) A (call (.type "zip") [.ref t,.ref l]) Q E s:=by
 refine callType_new F.called_zip (by decide) (F.typeCall_zip_2 _ _) (F.newCall_zip_2 _ _) (fun obj=>F.args_object_init_3 obj _ _) F.entry_zip_new (yK t l xs ys) ⟨h1,h2,?_⟩;have up:∀{h:Heap}{o:Obj}{c:Addr}{x:Obj},h.get? c=some x->(h.push o).get? c=some x:=fun e=>LH _ e;have at':∀(h:Heap)(o:Obj)(n:Nat),h.objs.size=n->o.isFreed=false->(h.push o).get? n=some o:=fun h o n e f=>by subst e;exact LN _ f
 have g5:(ztH s.heap t l).get? (s.heap.objs.size+4)=some _:=at' _ _ _ (by simp only[MC]) rfl;have g4:(ztH s.heap t l).get? (s.heap.objs.size+3)=some _:=up (at' _ _ _ (by simp only[MC]) rfl);have g3:(ztH s.heap t l).get? (s.heap.objs.size+2)=some _:=up (up (at' _ _ _ (by simp only[MC]) rfl));have g2:(ztH s.heap t l).get? (s.heap.objs.size+1)=some _:=up (up (up (at' _ _ _ (by simp only[MC]) rfl)));have g1:(ztH s.heap t l).get? s.heap.objs.size=some _:=up (up (up (up (at' _ _ _ rfl rfl))));exact⟨⟨_,g5,rfl⟩,hQ _ ⟨g5,g3,⟨_,_,g4⟩,⟨_,g1,rfl,rfl⟩,_,g2,rfl,rfl⟩ fun c o x=>up (up (up (up (up x))))⟩
theorem yM{n t l:Addr}(h1:t<n)(h2:l<n):ZtA (n+4) (n+2) (n+3) n (n+1) [n,t] [n+1,l]:=by
 have q1:(t:Nat)<n:=h1;have q2:(l:Nat)<n:=h2;refine⟨?_,by simp,by simp,fun b hb=>?_,fun b hb=>?_⟩
 ·simp
 ·simp only[LJ,Ln,or_false] at hb
  rcases hb with rfl | rfl
  ·exact⟨Lo (OQ (by decide)),Lo (OQ (by decide)),Lo (OQ (by decide))⟩
  ·exact⟨Lo (LK q1 (Ml _ _)),Lo (LK q1 (Ml _ _)),Lo (LK q1 (Ml _ _))⟩
 ·simp only[LJ,Ln,or_false] at hb
  rcases hb with rfl | rfl
  ·exact⟨Lo (Sv (by decide) n),Lo (Sv (by decide) n),ML (OQ (by decide))⟩
  ·exact⟨Lo (LK q2 (Ml _ _)),Lo (LK q2 (Ml _ _)),Lo q2⟩
def yO(f g:PSt->R PV):PSt->R (List PV):=fun ρ=>f ρ >>= fun p=>g ρ >>= fun q=>(match p,q with
 | .tup ps,.lst qs=>if (ps.all ia || qs.all ia)=true then .ok ((ve ps qs).map .tup) else .no
 | _,_=>.no)
variable[TW]
theorem vB{P:LY}{w:Ly}{K:LC}{elts:List Expr}{kk:Nat}{tp:Nf}{z T O i1 i2 a b:Addr}(Z:ZtA z T O i1 i2 [i1,a] [i2,b])(hTa:T≠a)(hTb:T≠b)(ha1:a≠i1)(hb2:b≠i2)(xs ys:List V)(hfl:(∀x∈xs,∀b,x≠V.ref b)\/(∀y∈ys,∀b,y≠V.ref b)) :
  Turn P w K (.Tuple elts kk tp) (m9 (Si xs.length ys.length) (fun H=>SqT K H a xs/\SqL K H b ys) (Gm xs ys)) [z,T,O,i1,i2] z
   (fun i h=>QT h z T O .none/\OF h T (.ref i1) (.ref i2)/\(∃a b,OF h O a b)/\h.IsTupleIter i1 a i/\h.IsListIter i2 b i):=by
 have nd:=Z.nd;simp only[M7,LJ,Ln,or_false,not_or] at nd;obtain⟨⟨zT,zO,z1,z2⟩,⟨TO,T1,T2⟩,⟨O1,O2⟩,n12,_⟩:=nd;refine rV (wr:=[z,O,i1,i2]) (n:=Si xs.length ys.length) (fun X pins σ H s i hP hw hK hc I st hg=>?_) (by simp) (fun b hb=>by simp at hb ⊢;rcases hb with rfl | rfl | rfl | rfl <;> simp) (fun i h st b hb=>?_) (fun i h h' st k=>?_) (fun i H h=>h.1) (fun i H h=>h.1) fun A i s Q E st h=>RC st.1 h
 ·subst hP hw hK
  obtain⟨hq1,hq2⟩:SqT X.K H a xs/\SqL X.K H b ys:=by rcases hg with h | h <;> exact h.2
  obtain⟨its1,rv1,pl1,hz1⟩:=I.tuple hq1;obtain⟨its2,rv2,pl2,hz2⟩:=I.list hq2;have hl1:=rv1.length;have hl2:=rv2.length;have W:=yJ (prog:=X.prog) (w:=X.w) (A:=X.A) Z (by simp;exact⟨T1,hTa⟩) (by simp;exact⟨T2,hTb⟩) (yL (A:=X.A.in1) (I.ok.hd hc) i1 a ha1 its1.toArray) (Sg (A:=X.A.in1) (I.ok.hd hc) i2 b hb2 its2.toArray);rw[show Si its1.toArray.size its2.toArray.size=Si xs.length ys.length by simp[hl1,hl2]] at W;refine⟨_,_,_,_,W,⟨st.1,st.2.1,st.2.2.1,⟨st.2.2.2.1,pl1⟩,st.2.2.2.2,pl2.isList⟩,fun j h st=>⟨st.1,st.2.1,st.2.2.1,st.2.2.2.1.1,st.2.2.2.2.1⟩,fun vals hv=>?_⟩;obtain⟨x,y,hx,hy,rfl⟩:=hv;have hx:its1[i]?=some x:=by simpa using hx
  have hy:its2[i]?=some y:=by simpa using hy
  have h1:i<xs.length:=by rw[hl1];exact(Lw.mp hx).1
  have h2:i<ys.length:=by rw[hl2];exact(Lw.mp hy).1
  have e1:xs[i]?=some xs[i]:=by simp[h1]
  have e2:ys[i]?=some ys[i]:=by simp[h2]
  obtain⟨u,eu,ru⟩:=rv1.get e1;rw[hx] at eu;cases eu;obtain⟨v,ev,rv⟩:=rv2.get e2;rw[hy] at ev;cases ev;refine⟨[xs[i],ys[i]],.cons ru (.cons rv .nil),by show 2<=sizeLine;decide,fun z=>?_,fun T hT=>⟨T,_,rfl,hT,?_,rfl⟩⟩
  ·rcases hfl with g | g
   ·exact sU ru (g _ (MV h1)) (z _ Lp)
   ·exact sU rv (g _ (MV h2)) (z _ (Lq _ Lp))
  unfold Gm;rw[Ob,e1,e2]
 ·obtain⟨hz,hTI,⟨u,v,hTO⟩,⟨o1,ho1,_,hd1⟩,o2,ho2,_,hd2⟩:=st
  simp only[LJ,Ln,or_false] at hb;rcases hb with rfl | rfl | rfl | rfl | rfl
  ·exact⟨_,hz,fun v z=>by cases (show Q4 _=PQ v from z)⟩
  ·exact⟨_,hTI,fun v z=>by cases (show Data.seq _ _=PQ v from z)⟩
  ·exact⟨_,hTO,fun v z=>by cases (show Data.seq _ _=PQ v from z)⟩
  ·exact⟨o1,ho1,fun v z=>by rw[hd1] at z;cases z⟩
  ·exact⟨o2,ho2,fun v z=>by rw[hd2] at z;cases z⟩
 ·obtain⟨hz,hTI,⟨u,v,hTO⟩,h1,h2⟩:=st
  exact⟨k z (by simp) _ hz,k T (by simp) _ hTI,⟨u,v,k O (by simp) _ hTO⟩,h1.at fun o x=>k i1 (by simp) o x,h2.at fun o x=>k i2 (by simp) o x⟩
theorem Dm {C:Cn} {e e2:Expr} {elts:List Expr} {kk:Nat} {tp p pos:Nf} {f g:PSt->R PV} (hg:Gl C.X "zip") (hm:C.X.mg "zip"=none) (he:EV C e f) (he2:EV C e2 g)
  (hs:Ls [e,e2] C.X.env=[(false,Mu e C.X.env),(false,Mu e2 C.X.env)]:=by exact nG rfl rfl) (hs2:Ls [e2] C.X.env=[(false,Mu e2 C.X.env)]:=by exact bV rfl) :
  EI C (.Tuple elts kk tp) (.Call (.Name "zip" p) [e,e2] [] pos) (yO f g):=by
 intro pins s σ H Rk I ⟨ρ,vw,q⟩
 refine Call_ (jl I hg hm PyProof.Rows.boot_zip (NF (thn ((cX he (cX he2 iz hs2) (by rw[hs,hs2])) pos pins s σ H (fun vs H'=>∃v u ps qs,vs=[v,u]/\Same H H'/\Rep C.X.K H' (.tup ps) v/\Rep C.X.K H' (.lst qs) u/\(ps.all ia || qs.all ia)=true/\∀J H2,Same H' H2->ItP C.X.K J H2 ((ve ps qs).map .tup)->Rk J H2) I ⟨ρ,vw,q.bind.imp fun p _ k v H1 s1 r1=>⟨ρ,vw.same s1,(k.bind.same s1).imp fun p2 _ k2 u H2 s2 r2=>?_⟩⟩)
  fun us s1 ⟨vs,H1,I1,r1,v,u,ps,qs,ev,sm,rp,rq,hfl,k⟩=>?_) (by rw[hs,hs2]) (by rw[hs2];rfl)))
 ·cases p with
  | tup ps=>
   cases p2 with
   | lst qs=>
    by_cases hfl:(ps.all ia || qs.all ia)=true
    ·simp only[if_pos hfl] at k2
     exact⟨v,u,ps,qs,rfl,s1.trans s2,r1.same s2,r2,hfl,fun J H3 s3 it=>k2 J H3 ((s1.trans s2).trans s3) it⟩
    ·simp only[if_neg hfl] at k2
     exact LP k2
   | _=>exact LP k2
  | _=>exact LP k2
 ·subst ev
  obtain⟨w1,w2,rfl,rw1,rw2⟩:=vals2 r1;obtain⟨a,xs,rfl,g1,rr1⟩:=rp;obtain⟨b,ys,rfl,g2,rr2⟩:=rq;cases rw1;cases rw2;obtain⟨its1,rv1,pl1,hz1⟩:=I1.tuple g1.sq;obtain⟨its2,rv2,pl2,hz2⟩:=I1.list g2.l.l;have ha:a<s1.heap.objs.size:=by obtain⟨o,ho,_⟩:=pl1;exact LM ho
  have hb:b<s1.heap.objs.size:=by obtain⟨o,n,ho,_⟩:=pl2;exact LM ho
  have hfl2:(∀x∈xs,∀b,x≠V.ref b)\/(∀y∈ys,∀b,y≠V.ref b):=by
   cases hA:ps.all ia with
   | true=>exact .inl (ql hA rr1)
   | false=>
    rw[hA,Ri] at hfl;exact .inr (ql hfl rr2)
  refine By pl1 pl2.isList fun h' st hk=>RC st.1 ?_
  refine⟨_,[s1.heap.objs.size+4,s1.heap.objs.size+2,s1.heap.objs.size+3,s1.heap.objs.size,s1.heap.objs.size+1],_,_,H1,rfl,I1.kept (t':=s1.toks) hk,
   vB (yM ha hb) (ML (LK ha (Ml _ _))) (ML (LK hb (Ml _ _))) (Lo ha) (Lo (LK hb (Ml _ _))) xs ys hfl2,st,fun c hc=>?_,k _ H1 (Same.refl H1) ?_⟩
  ·have hc:s1.heap.objs.size<=c:=by
    simp only[LJ,Ln,or_false] at hc;rcases hc with rfl | rfl | rfl | rfl | rfl <;> omega
   exact I1.fpOk hc (I1.hok.fresh hc)
  ·refine og ?_ (fun H2 k2=>⟨k2.sqT g1.sq,(k2.sqF g2).l.l⟩) (yN rr1 rr2)
   unfold ve;rw[QC,rr1.length,rr2.length]
end PU
namespace PU
open PySem PySem.Spec PyProof.Rows L2
def DM(m n:Nat)(g:PSt->XO Fb)(qs:List PV):Option PV:=if qs.length=m then (match g (start n qs) with
 | .ok (.ret p) _=>some p
 | .ok .next _=>some .non
 | _=>none) else none
def GR(i:Nat)(g:PSt->XO Fb):PSt->XO Fb:=fun ρ=>g (rC i ρ)
def noB:PSt->XO Fb:=fun _=>.no
def G8(s:Sel):PSt->XO Fb:=fun ρ=>match uh s ρ with
 | some (.leaf (.dct _ _))=>match gH s (.leaf (.dct [] [])) ρ with
  | some ρ'=>.ok .next ρ'
  | none=>.no
 | _=>.no
variable[TW]
section
variable{P : LY}{w : Ly}{K : LC}{mg : Str → Option LD}{base : Heap}{x : Str}{st : Stmt}{N ps : List Str}{k : Nat}{g : PSt → XO Fb}
def HsB(K:LC)(mg:Str->Option LD)(x:Str)(st:Stmt)(ps:List Str):Prop:=∃f fd,Fun K x x st f fd/\mg x=some (.ref f)/\Binds K fd ps []
theorem DW(h:Hs K mg x st) (hb:∀(kV doc pm:LD)(an:Option Addr)(cdv ct:LD)(us:List LD),us.length=ps.length->bindArgs (N7 x x (fT st) (bT st) (ab st) .none kV doc pm an cdv ct) ⟨us,[]⟩=pure (ps.zip us):=by
   intro _ _ _ _ _ _ us hl;repeat' (first | (exfalso;simp only[NS] at hl;omega) | (rcases us with _ | ⟨_,us⟩) | rfl)):HsB K mg x st ps:=by
 obtain⟨f,fd,F,hm⟩:=h;exact⟨f,fd,F,hm,F.binds hb⟩
theorem Fi{qual:Str}{f:Addr}{fd:FuncData}(F:Fun K x qual st f fd)(S:FnScope N ps (ab st))
  (hbody:∀(cdv:LD)(A:M3)(outer:List Qo)(s:LG)(H:Hp)(E:XK),Room k (A.deeper (Oh qual (ab st) s.heap.objs.size f cdv))->SBs (Dw P w K mg base N qual (ab st) f cdv A outer s H E) 0 (bT st) g) :
  FnOk P w K mg base CX0 (k+1) f fd ps (spP K ps.length (DM ps.length N.length g)):=by
 refine F.ok S (fun vs H Q E h=>h.1) (fun cdv A outer s H vs Q E hr h=>?_);obtain⟨hl,tb,qs,p,r,e,k⟩:=h;refine⟨_,hbody cdv A outer s H E hr,_,_,oW tb r,?_⟩;unfold DM at e;split at e
 ·split at e
  ·rename_i q ρ hg
   rw[hg];cases e;exact fun v H' h rv=>k v H' h.1 rv
  ·rename_i ρ hg
   rw[hg];cases e;exact fun σ H' h=>k .non H' h.tb.1 rfl
  ·cases e
 ·cases e
theorem zu(h:HsB K mg x st ps)(S:FnScope N ps (ab st))
  (hbody:∀(f:Addr)(cdv:LD)(A:M3)(outer:List Qo)(s:LG)(H:Hp)(E:XK),Room k (A.deeper (Oh x (ab st) s.heap.objs.size f cdv))->SBs (Dw P w K mg base N x (ab st) f cdv A outer s H E) 1 (bT st) g) :
  PFB P w K mg base (k+1) x (yz ps.length N.length g):=by
 obtain⟨f,fd,F,hm,hb⟩:=h;exact F1 F S hm hb (hbody f)
theorem HS(h:HsB K mg x st ps)(S:FnScope N ps (ab st))
  (hbody:∀(f:Addr)(cdv:LD)(A:M3)(outer:List Qo)(s:LG)(H:Hp)(E:XK),Room k (A.deeper (Oh x (ab st) s.heap.objs.size f cdv))->SBs (Dw P w K mg base N x (ab st) f cdv A outer s H E) 0 (bT st) g) :
  PFT P w K mg base (k+1) x (BW ps.length N.length g):=by
 obtain⟨f,fd,F,hm,hb⟩:=h;exact F0 F S hm hb (hbody f)
theorem Ce(h:HsB K mg x st ps)(S:FnScope N ps (ab st)):PF P w K mg base (k+1) x (fun _=>none):=by
 obtain⟨f,fd,F,hm,hb⟩:=h;refine⟨f,fd,ps,F.ok S (fun vs H Q E h=>h.1) (fun cdv A outer s H vs Q E hr h=>?_),hm,F.kp,hb,fun qs p e=>by cases e⟩;obtain⟨_,_,_,_,_,e,_⟩:=h;cases e
end
section
variable{C : Cn}{n : Nat}
theorem SB.frz(i:Nat){st:Stmt}{g:PSt->XO Fb}(h:SB C n st g):SB C n st (GR i g):=by
 intro pins s σ H D I ⟨ρ,Z,⟨B,S,b⟩,q⟩;obtain⟨H',I',S'⟩:=Bg i I S;exact h pins s σ H' D I' ⟨_,Z,⟨B,S',b⟩,q⟩
def HN:V->List V->Hp->VK->Prop:=fun x vs H Q=>∃l kvs,x=.ref l/\vs=[]/\H l=some (.dK kvs)/\Q .non (upd H l (.dK []))
theorem Cw {X:Cx}:MtM X "dict.clear" HN:=by
 intro pins s σ H x vs v us Q I rx rv ⟨l,kvs,ex,ev,hH,q⟩;subst ex ev;cases rx;cases rv;exact Dr I hH fun s' I'=>⟨.non,_,I',rfl,q⟩
theorem vT {s:Sel} {o:Expr} {pos apos cpos:Nf} (ho:PE C.X o (DL s)) (hb:O0 o "clear" C.X.env (Mu o C.X.env)=Mu o C.X.env:=by rfl) (hline:(apos.endLine == cpos.line)=true:=by rfl) :
  SB C n (.Expr (.Call (.Attribute o "clear" apos) [] [] cpos) pos) (G8 s):=by
 intro pins st σ H D I ⟨ρ,Z,S,q⟩;unfold G8 at q;split at q
 ·rename_i ks ps e1
  obtain⟨a,r,h1,h2,h3⟩:=S.sel e1;obtain⟨kvs,hx,ek,rr⟩:=h2.2;split at q
  ·rename_i ρ' ep
   refine qS (F6 R9 R6 PySem.F.type_dict_clear Cw ho hb hline) (by rfl) pins st σ H D I ⟨a,h1,.inr (.inr (.inl ⟨rfl,.inl ⟨kvs,hx⟩⟩)),a,kvs,rfl,rfl,hx,?_⟩;exact q σ _ (h3 _ _ _ ep (fC hx rfl rfl) ⟨h2.1,[],ao,rfl,rfl⟩)
  ·exact LP q
 ·exact LP q
end
end PU
namespace K02
open PySem L2 PU
abbrev tw(w:Ly):TW:={ w:=w }
def c_BENEATH:PV:=(.dct [(.inr "menu"),(.inr "names"),(.inr "hours")] [(.str "key"),(.str "name"),(.str "from")])
def c_FIELDS:PV:=(.dct [(.inr "first"),(.inr "letters"),(.inr "menu"),(.inr "key"),(.inr "names"),(.inr "name"),(.inr "hours"),(.inr "from"),(.inr "hand"),(.inr "end")] [(.tup [(.str "name")]),(.tup [(.str "letters key"),(.str "letters")]),(.tup [(.str "name"),(.str "many"),(.str "name"),(.str "many"),(.str "name"),(.str "text")]),(.tup [(.str "key"),(.str "target")]),(.tup [(.str "name"),(.str "many"),(.str "name"),(.str "many"),(.str "name"),(.str "text")]),(.tup [(.str "word"),(.str "name")]),(.tup [(.str "name"),(.str "name")]),(.tup [(.str "from"),(.str "till"),(.str "name")]),(.tup [(.str "name"),(.str "text")]),(.tup [(.str "name"),(.str "text")])])
def c_FIGURES:PV:=(.str "0123456789")
def c_KEYS:PV:=(.str "0123456789*#")
def c_MOST_BENEATH:PV:=(.int 12)
def c_MOST_ROOMS:PV:=(.int 12)
def c_PER_CENT:PV:=(.int 37)
def c_ROOM_KINDS:PV:=(.tup [(.str "menu"),(.str "names"),(.str "hours"),(.str "hand"),(.str "end")])
def c_SMALL_LETTERS:PV:=(.str "abcdefghijklmnopqrstuvwxyz")
def fS:PSt->R PV:=(ai (a8 0) (kP c_SMALL_LETTERS) gIn)
def dF:PSt->R Fl:=(cv (yH (kf (kI 1) (un1 (a8 0) iC) (a8 1) gLe gLe) (un1 (dI (itF (a8 0)) (ak 0) gN fS 1 []) CW)))
def aX:List PV->Option PV:=iR 2 2 dF
def jq:PSt->R Fl:=(cv (yH (bg (a7 (a8 0) (a7 (kI 8) aQ)) aX) (ai (a8 0) (kS "back") gNe)))
def ib:List PV->Option PV:=iR 1 1 jq
def lO:PSt->R Fl:=(cv (bg (a7 (a8 0) (a7 (kI 12) aQ)) aX))
def jw:List PV->Option PV:=iR 1 1 lO
def jr:PSt->R Fl:=(cv (yH (ai (un1 (a8 0) iC) (kI 1) gEq) (ai (a8 0) (kP c_KEYS) gIn)))
def jx:List PV->Option PV:=iR 1 1 jr
def cm:PSt->R Fl:=(cv (yH (kf (kS " ") (a8 0) (kS "~") gLe gLe) (ai (un1 (a8 0) GP) (kP c_PER_CENT) gNe)))
def cZ:List PV->Option PV:=iR 1 1 cm
def ie:PSt->R PV:=(bg (a7 (a8 0) aQ) cZ)
def fZ:PSt->R Fl:=(cv (yH (kf (kI 1) (un1 (a8 0) iC) (kI 80) gLe gLe) (un1 (dI (itF (a8 0)) (ak 0) gN ie 1 []) CW)))
def iu:List PV->Option PV:=iR 1 1 fZ
def dv:PSt->R PV:=(ai (a8 0) (kP c_FIGURES) gIn)
def cM:PSt->R Fl:=(bX (ifF (orB (bU (ai (a8 0) (kS "") gEq)) (nZ (bU (un1 (dI (itF (a8 0)) (ak 0) gN dv 1 []) CW)))) (cv (kB false)) bA) (cv (orV (ai (a8 0) (kS "0") gEq) (ai (ai (a8 0) (kI 0) gIx) (kS "0") gNe))))
def fF:List PV->Option PV:=iR 1 1 cM
def bj:PSt->R Fl:=(bX (ifF (orB (nZ (bU (bg (a7 (a8 0) aQ) fF))) (bU (ai (un1 (a8 0) iC) (un1 (un1 (a8 2) xG) iC) gGt))) (cv kN) bA) (bX (dN 3 (un1 (a8 0) CV)) (cv (ifV (bU (kf (a8 1) (a8 3) (a8 2) gLe gLe)) (a8 3) kN))))
def aO:List PV->Option PV:=iR 3 4 bj
def fR:PSt->R Fl:=(bX (ifF (bU (ai (ai (a8 0) (kI 0) gIx) (kS "hours") gEq)) (cv (ai (a8 0) (kI 1) gIx)) bA) (cv (ifV (bU (ai (ai (a8 0) (kI 0) gIx) (kP c_BENEATH) gIn)) (ai (a8 0) (kI 2) gIx) (gQ aQ))))
def dr:List PV->Option PV:=iR 1 1 fR
def bM:PSt->R Fl:=(bX (dN 3 (ifV (bU (ai (a8 1) (un1 (a8 0) iC) gLt)) (ai (a8 0) (a8 1) gIx) (kS ""))) (ifF (GT (bU (jh (a8 2) (kS "names ") jV)) (nZ (bU (jh (a8 3) (kS "name ") jV)))) (cv (a8 1)) bA))
def fQ:PSt->R Fl:=(bX (sR (jz (a8 0)) (gF 2 (aE (ak 1) (aE (ak 2) gJ))) bM) (cv (kI 0)))
def dq:List PV->Option PV:=iR 1 4 fQ
def i8:PSt->R Fl:=(bX (ifF (bU (ai (a8 0) (kS "name") gEq)) (cv (bg (a7 (a8 1) aQ) ib)) bA) (bX (ifF (bU (ai (a8 0) (kS "target") gEq)) (cv (orV (bg (a7 (a8 1) aQ) ib) (ai (a8 1) (kS "back") gEq))) bA) (bX (ifF (bU (ai (a8 0) (kS "word") gEq)) (cv (bg (a7 (a8 1) aQ) jw)) bA) (bX (ifF (bU (ai (a8 0) (kS "key") gEq)) (cv (bg (a7 (a8 1) aQ) jx)) bA) (bX (ifF (bU (ai (a8 0) (kS "letters key") gEq)) (cv (yH (bg (a7 (a8 1) aQ) jx) (ai (a8 1) (kS "#") gNe))) bA) (bX (ifF (bU (ai (a8 0) (kS "letters") gEq)) (cv (bg (a7 (a8 1) (a7 (kI 26) aQ)) aX)) bA) (cv (bg (a7 (a8 1) aQ) iu))))))))
def sW:List PV->Option PV:=iR 2 2 i8
def cx:PSt->R Fl:=(bX (ifF (bU (ai (a8 0) (kS "many") gEq)) (cv (bg (a7 (a8 1) (a7 (kI 1) (a7 (kI 9) aQ))) aO)) bA) (bX (ifF (bU (ai (a8 0) (kS "from") gEq)) (cv (bg (a7 (a8 1) (a7 (kI 0) (a7 (kI 23) aQ))) aO)) bA) (bX (ifF (bU (ai (a8 0) (kS "till") gEq)) (cv (bg (a7 (a8 1) (a7 (kI 1) (a7 (kI 24) aQ))) aO)) bA) (cv (ifV (bU (bg (a7 (a8 0) (a7 (a8 1) aQ)) sW)) (a8 1) kN)))))
def eB:List PV->Option PV:=iR 2 2 cx
def du:PSt->R PV:=(bg (a7 (a8 0) (a7 (a8 1) aQ)) eB)
def dE:PSt->R Fl:=(bX (ifF (bU (ai (a8 0) (kP c_FIELDS) ka)) (cv kN) bA) (bX (dN 2 (ai (kP c_FIELDS) (a8 0) gIx)) (bX (dN 3 (p7 (zK (a8 1) (kS " ") (un1 (a8 2) iC) oo) (vb (kI 1)) sH)) (bX (ifF (bU (ai (un1 (a8 3) iC) (un1 (a8 2) iC) gLt)) (cv kN) bA) (bX (dN 4 (dI (yO (a8 2) (a8 3)) (gF 2 (aE (ak 0) (aE (ak 1) gJ))) gN du 2 [])) (cv (ifV (bU (ai kN (a8 4) gIn)) kN (a8 4))))))))
def fE:List PV->Option PV:=iR 2 5 dE
def eW:PSt->R Fl:=(bX (ifF (bU (ai (ai (a8 0) (kI 0) gIx) (kS "hours") gEq)) (cv (gQ (a7 (ai (a8 0) (kI 0) gIx) (a7 (a8 1) (a7 (ai (a8 0) (kI 2) gIx) aQ))))) bA) (cv (gQ (a7 (ai (a8 0) (kI 0) gIx) (a7 (ai (a8 0) (kI 1) gIx) (a7 (a8 1) (a7 (ai (a8 0) (kI 3) gIx) (a7 (ai (a8 0) (kI 4) gIx) aQ))))))))
def df:List PV->Option PV:=iR 2 2 eW
def ck:PSt->R Fl:=(bX (ifF (bU (ai (a8 0) (kS "from") gEq)) (cv (ai (ai (a8 2) (kI 0) gIx) (ai (a8 2) (kI 1) gIx) gLt)) bA) (bX (ifF (nZ (bU (a8 1))) (cv (kB true)) bA) (bX (ifF (bU (ai (a8 0) (kS "name") gEq)) (cv (ai (ai (ai (a8 1) (un1 (kI 1) FX) gIx) (kI 0) gIx) (ai (a8 2) (kI 0) gIx) gLt)) bA) (cv (ai (jh (kP c_KEYS) (ai (ai (a8 1) (un1 (kI 1) FX) gIx) (kI 0) gIx) mX) (jh (kP c_KEYS) (ai (a8 2) (kI 0) gIx) mX) gLt)))))
def aU:List PV->Option PV:=iR 3 3 ck
def bu:PSt->XO Fb:=(fV (bS (ifF (nZ (bU (lN 0))) (cv (kB false)) bA)) (fV (bS (dN 3 (ai (un1 (lN 0) ju) (un1 (kI 1) FX) gIx))) (fV (bS (dN 4 (ai (lN 0) (a8 3) gIx))) (fV (bS (ifF (bU (ai (zJ (kP c_BENEATH) (ai (a8 4) (kI 0) gIx) DY) (a8 1) gNe)) (cv (kB false)) bA)) (fV (bS (dN 5 (bg (a7 (a8 4) aQ) dr))) (fV (bS (ifF (orB (bU (ai (un1 (a8 5) iC) (kP c_MOST_BENEATH) gEq)) (nZ (bU (bg (a7 (a8 1) (a7 (a8 5) (a7 (a8 2) aQ))) aU)))) (cv (kB false)) bA)) (fV (vE (.whole 0) (a8 3) (bg (a7 (a8 4) (a7 (ai (a8 5) (gQ (a7 (un1 (a8 2) k9) aQ)) bD) aQ)) df)) (bS (cv (kB true))))))))))
def bw:Tr->List PV->Option (PV×Tr):=yz 3 6 bu
def cH:PSt->R PV:=(a8 1)
def cG:PSt->R PV:=(ai (jh (a8 1) (a8 0) qi) (kI 1) gGt)
def bO:PSt->XO Fb:=(fV (ifB (uE 0 (orB (bU (ai (a8 0) (kS "rooms") gIx)) (nZ (bU (bg (a7 (kS "letters") (a7 (ai (a8 0) (kS "letters") gIx) (a7 (a8 1) aQ))) aU))))) (bS (cv (kB false))) o4) (fV (bS (dN 2 (ai (jh (kS "") (dI (itL (xP 0 (.inr "letters"))) (gF 2 (aE (ak 0) (aE (ak 1) gJ))) gN cH 2 []) lP) (ai (a8 1) (kI 1) gIx) bD))) (fV (bS (ifF (bU (un1 (dI (itF (ai (a8 1) (kI 1) gIx)) (ak 0) gN cG 1 [2]) FZ)) (cv (kB false)) bA)) (fV (Bl (.fld 0 (.inr "letters")) (gQ (a7 (ai (a8 1) (kI 0) gIx) (a7 (ai (a8 1) (kI 1) gIx) aQ)))) (bS (cv (kB true)))))))
def bP:Tr->List PV->Option (PV×Tr):=yz 2 3 bO
def eZ:PSt->R Fl:=(bX (ifF (bU (ai (a8 0) (kS "hours") gEq)) (cv (gQ (a7 (a8 0) (a7 (gQ aQ) (a7 (ai (a8 1) (kI 1) gIx) aQ))))) bA) (bX (ifF (bU (ai (a8 0) (kP c_BENEATH) gIn)) (cv (gQ (a7 (a8 0) (a7 (ai (a8 1) (kI 5) gIx) (a7 (gQ aQ) (a7 (gQ (a7 (ai (a8 1) (kI 1) gIx) (a7 (ai (a8 1) (kI 2) gIx) aQ))) (a7 (gQ (a7 (ai (a8 1) (kI 3) gIx) (a7 (ai (a8 1) (kI 4) gIx) aQ))) aQ))))))) bA) (cv (gQ (a7 (a8 0) (a7 (ai (a8 1) (kI 1) gIx) aQ))))))
def bJ:List PV->Option PV:=iR 2 2 eZ
def eX:PSt->XO Fb:=(fV (bS (ifF (orB (bU (ai (un1 (lN 0) iC) (kP c_MOST_ROOMS) gEq)) (bU (ai (ai (a8 2) (kI 0) gIx) (lN 0) gIn))) (cv (kB false)) bA)) (fV (vE (.whole 0) (ai (a8 2) (kI 0) gIx) (bg (a7 (a8 1) (a7 (a8 2) aQ)) bJ)) (bS (cv (kB true)))))
def dh:Tr->List PV->Option (PV×Tr):=yz 3 3 eX
def bN:PSt->XO Fb:=(fV (bS (dN 2 (ai (jh (a8 1) (kS " ") xH) (kI 0) gIx))) (fV (bS (dN 3 (bg (a7 (a8 2) (a7 (a8 1) aQ)) fE))) (fV (bS (ifF (orB (bU (ai (a8 3) kN DX)) (bU (ai (ai (a8 2) (kS "first") gEq) (ai (xP 0 (.inr "first")) (kS "") gEq) gNe))) (cv (kB false)) bA)) (fV (ifB (uD (bU (ai (a8 2) (kS "first") gEq))) (fV (xM 0 (.inr "first") (ai (a8 3) (kI 0) gIx)) (bS (cv (kB true)))) o4) (fV (ifB (uD (bU (ai (a8 2) (kS "letters") gEq))) (DO (qx (.whole 0) (a7 (a8 3) aQ) bP)) o4) (fV (ifB (uD (bU (ai (a8 2) (kP c_ROOM_KINDS) gIn))) (DO (qx (.fld 0 (.inr "rooms")) (a7 (a8 2) (a7 (a8 3) aQ)) dh)) o4) (DO (qx (.fld 0 (.inr "rooms")) (a7 (a8 2) (a7 (a8 3) aQ)) bw))))))))
def g9:Tr->List PV->Option (PV×Tr):=yz 2 4 bN
def bQ:PSt->XO Fb:=(ifB (GM (GJ (qx (.whole 2) (a7 (a8 4) aQ) g9))) noB o4)
def i7:PSt->XO Fb:=(fV (bS (ifF (nZ (bU (un1 (a8 0) (kJ "str")))) noF bA)) (fV (bS (dN 1 (jh (a8 0) (kS "\n") qh))) (fV (vD 2 (uy (n9 (.inr "first") (kS "") (iE (.inr "letters") (kD aQ) (iE (.inr "rooms") newD DS))))) (fV (J3 (jz (a8 1)) (gF 2 (aE (ak 3) (aE (ak 4) gJ))) bQ) (fV (bS (ifF (nZ (bU (xP 2 (.inr "rooms")))) noF bA)) (fV (bS (dN 5 (bg (a7 (a8 1) aQ) dq))) (fV (bS (ifF (bU (ai (a8 5) (kI 0) gGt)) noF bA)) (vZ 2))))))))
def bf:List PV->Option Tr:=BW 1 6 i7
def dZ:PSt->R Fl:=(bX (ifF (bU (ai (a8 1) (un1 (a8 0) iC) gLt)) (cv (ai (a8 0) (a8 1) gIx)) bA) (cv (kI 0)))
def ba:List PV->Option PV:=iR 2 2 dZ
def j4:PSt->R Fl:=(cv (ai (ai (ai (a8 0) (kI 2147483647) i9) (a8 1) yF) (kI 2147483647) i9))
def dk:List PV->Option PV:=iR 2 2 j4
def eE:PSt->R Fl:=(bX (dN 9 (ai (a8 6) (un1 (ai (a8 8) (a8 4) gEq) GQ) yF)) (dN 7 (ai (a8 7) (ai (a8 2) (ai (ai (ai (a8 0) (ai (a8 8) (kI 2) bD) lQ) (a8 9) bD) (kI 24) i9) gIx) bD)))
def eD:PSt->R Fl:=(bX (dN 7 (kS "")) (bX (sR (zf (a8 3)) (ak 8) eE) (yr 5 (a8 7))))
def j3:PSt->R Fl:=(bX (dN 2 (kS "acdefghijlmnopqrstuvwxyz")) (bX (dN 3 (ai (kI 1) (ai (a8 0) (kI 8) i9) bD)) (bX (dN 4 (ai (ai (a8 0) (kI 8) lQ) (a8 3) i9)) (bX (zD 5 (kD aQ)) (bX (sR (zf (a8 1)) (ak 6) eD) (Ad 5 (cv (a8 5))))))))
def ff:List PV->Option PV:=iR 2 10 j3
def gE:PSt->R Fl:=(bX (dN 0 (ai (ai (ai (a8 0) (kI 69621) yF) (kI 7) bD) (kI 2147483629) i9)) (dN 2 (ai (a8 2) (ai (a8 1) (ai (a8 0) (un1 (a8 1) iC) i9) gIx) bD)))
def j0:PSt->R Fl:=(bX (dN 1 (kS " !\"#$&'()*+,-./0123456789:;<=>?@ABCDEFGHIJKLMNOPQRSTUVWXYZ")) (bX (dN 1 (ai (a8 1) (kS "[\\]^_`abcdefghijklmnopqrstuvwxyz{|}~") bD)) (bX (dN 2 (kS "")) (bX (sR (zf (ai (kD (a7 (ai (kI 1) (ai (a8 0) (kI 9) i9) bD) (a7 (kI 80) aQ))) (ai (ai (ai (a8 0) (kI 128) lQ) (kI 6) i9) (kI 5) lQ) gIx)) (ak 3) gE) (cv (a8 2))))))
def dj:List PV->Option PV:=iR 1 4 j0
def ij:PSt->R Fl:=(bX (dN 0 (ai (ai (ai (a8 0) (kI 48271) yF) (kI 11) bD) (kI 2147483647) i9)) (dN 1 (ai (a8 1) (ai (kS "abcdefghijklmnopqrstuvwxyz") (ai (ai (a8 0) (kI 8) lQ) (kI 26) i9) gIx) bD)))
def jT:PSt->R Fl:=(bX (dN 1 (kS "")) (bX (sR (zf (ai (kI 1) (ai (a8 0) (kI 12) i9) bD)) (ak 2) ij) (cv (a8 1))))
def gb:List PV->Option PV:=iR 1 3 jT
def bC:PSt->R Fl:=(ifF (bU (ai (ai (ai (a8 2) (ai (kI 64) (a8 10) bD) lQ) (kI 3) i9) (kI 0) gEq)) (yr 9 (gQ (a7 (a8 11) (a7 (ai (ai (a8 0) (kD (a7 (kS "back") aQ)) bD) (ai (ai (a8 2) (ai (kI 5) (a8 10) bD) lQ) (kI 15) i9) gIx) aQ)))) bA)
def fq:PSt->R PV:=(ai (ai (ai (kS "key ") (a8 0) bD) (kS " ") bD) (a8 1) bD)
def fm:PSt->R PV:=(bg (a7 (ai (a8 1) (ai (kI 3) (a8 0) bD) lQ) aQ) gb)
def cn:PSt->R Fl:=(yr 9 (gQ (a7 (a8 13) (a7 (ai (a8 0) (ai (ai (a8 2) (ai (un1 (lN 9) iC) (un1 (a8 13) iC) yF) bD) (kI 14) i9) gIx) aQ))))
def fh:PSt->R PV:=(ai (ai (ai (kS "name ") (a8 0) bD) (kS " ") bD) (a8 1) bD)
def dY:PSt->R Fl:=(bX (dN 4 (gQ (a7 (ai (kI 1) (ai (ai (a8 2) (kI 8) lQ) (kI 9) i9) bD) (a7 (ai (a8 0) (ai (ai (a8 2) (kI 5) lQ) (kI 14) i9) gIx) aQ)))) (bX (dN 5 (gQ (a7 (ai (kI 1) (ai (ai (a8 2) (kI 64) lQ) (kI 9) i9) bD) (a7 (ai (a8 0) (ai (ai (a8 2) (kI 3) lQ) (kI 14) i9) gIx) aQ)))) (bX (dN 6 (bg (a7 (a8 2) aQ) dj)) (bX (dN 7 (kD (a7 (un1 (ai (a8 4) (kI 0) gIx) xG) (a7 (ai (a8 4) (kI 1) gIx) (a7 (un1 (ai (a8 5) (kI 0) gIx) xG) (a7 (ai (a8 5) (kI 1) gIx) aQ)))))) (bX (dN 8 (jh (kS " ") (ai (ai (kD (a7 (a8 3) (a7 (a8 1) aQ))) (a8 7) bD) (kD (a7 (a8 6) aQ)) bD) lP)) (bX (zD 9 (kD aQ)) (bX (ifF (bU (ai (a8 3) (kS "menu") gEq)) (bX (sR (uO (kS "0123456789*#")) (gF 2 (aE (ak 10) (aE (ak 11) gJ))) bC) (Ad 9 (dN 12 (ai (kD (a7 (a8 8) aQ)) (dI (itF (a8 9)) (gF 2 (aE (ak 0) (aE (ak 1) gJ))) gN fq 2 []) bD)))) (bX (sR (itF (un1 (dI (zf (ai (kI 1) (ai (ai (a8 2) (kI 16) lQ) (kI 6) i9) bD)) (ak 0) gN fm 1 [2]) jt)) (ak 13) cn) (Ad 9 (dN 12 (ai (kD (a7 (a8 8) aQ)) (dI (itF (a8 9)) (gF 2 (aE (ak 0) (aE (ak 1) gJ))) gN fh 2 []) bD))))) (cv (gQ (a7 (a8 12) (a7 (gQ (a7 (a8 3) (a7 (a8 6) (a7 (un1 (lN 9) k9) (a7 (a8 4) (a7 (a8 5) aQ)))))) aQ)))))))))))
def eA:List PV->Option PV:=iR 4 14 dY
def dM:PSt->R Fl:=(bX (dN 6 (ai (ai (a8 2) (ai (kI 9) (a8 5) bD) lQ) (kI 24) i9)) (yr 4 (gQ (a7 (a8 6) (a7 (ai (ai (a8 6) (kI 1) bD) (ai (ai (a8 2) (ai (kI 11) (a8 5) bD) lQ) (ai (kI 24) (a8 6) FW) i9) bD) (a7 (ai (a8 0) (ai (ai (a8 2) (ai (kI 13) (a8 5) bD) lQ) (kI 14) i9) gIx) aQ))))))
def dJ:PSt->R Fl:=(yr 7 (ai (ai (ai (ai (ai (kS "from ") (un1 (a8 6) xG) bD) (kS " ") bD) (un1 (a8 8) xG) bD) (kS " ") bD) (a8 9) bD))
def de:PSt->R Fl:=(bX (dN 3 (ai (kD (a7 (kS "menu") (a7 (kS "names") (a7 (kS "hours") (a7 (kS "hand") (a7 (kS "end") (a7 (kS "menu") aQ))))))) (ai (a8 2) (kI 6) i9) gIx)) (bX (ifF (orB (bU (ai (a8 3) (kS "menu") gEq)) (bU (ai (a8 3) (kS "names") gEq))) (cv (bg (a7 (a8 0) (a7 (a8 1) (a7 (a8 2) (a7 (a8 3) aQ)))) eA)) bA) (bX (ifF (bU (ai (a8 3) (kS "hours") gEq)) (bX (zD 4 (kD aQ)) (bX (sR (zf (ai (ai (a8 2) (kI 16) lQ) (kI 5) i9)) (ak 5) dM) (bX (zD 7 (kD (a7 (ai (ai (ai (kS "hours ") (a8 1) bD) (kS " ") bD) (ai (a8 0) (ai (ai (a8 2) (kI 7) lQ) (kI 14) i9) gIx) bD) aQ))) (bX (Ad 4 (sR (itF (a8 4)) (gF 3 (aE (ak 6) (aE (ak 8) (aE (ak 9) gJ)))) dJ)) (Ad 7 (cv (gQ (a7 (a8 7) (a7 (gQ (a7 (kS "hours") (a7 (un1 (lN 4) k9) (a7 (ai (a8 0) (ai (ai (a8 2) (kI 7) lQ) (kI 14) i9) gIx) aQ)))) aQ))))))))) bA) (bX (dN 10 (bg (a7 (a8 2) aQ) dj)) (cv (gQ (a7 (kD (a7 (ai (ai (ai (ai (a8 3) (kS " ") bD) (a8 1) bD) (kS " ") bD) (a8 10) bD) aQ)) (a7 (gQ (a7 (a8 3) (a7 (a8 10) aQ))) aQ))))))))
def gc:List PV->Option PV:=iR 3 11 de
def eC(F:List PV->Option PV):PSt->R PV:=(bg (a7 (a8 0) aQ) F)
def eY (F:List PV->Option PV):PSt->R Fl:=(bX (ifF (bU (un1 (a8 0) (kJ "tuple"))) (cv (ai (kB false) (dI (itF (a8 0)) (ak 0) gN (eC F) 1 []) ka)) bA) (bX (ifF (bU (un1 (a8 0) (kJ "bool"))) (cv (kB false)) bA) (cv (orV (un1 (a8 0) (kJ "int")) (un1 (a8 0) (kJ "str"))))))
def aC:Nat->List PV->Option PV
 | 0=>fun _=>none
 | d+1=>iR 1 1 (eY (aC d))
def f9:List PV->Option PV:=aC 4
def fI:PSt->R PV:=(ai (ai (a8 1) (kS "rooms") gIx) (a8 0) gIx)
def ic:PSt->R PV:=(a8 0)
def fH:PSt->R PV:=(yH (un1 (a8 0) (kJ "tuple")) (bg (a7 (a8 0) aQ) f9))
def jU:PSt->R Fl:=(bX (ifF (orB (nZ (bU (un1 (a8 0) (kJ "dict")))) (bU (ai (a8 0) (Ap (uR (kS "first") (a8 1) (uR (kS "letters") (a8 2) (uR (kS "rooms") (a8 4) GN)))) Ab))) (cv (kB false)) bA) (bX (ifF (orB (nZ (bU (un1 (ai (a8 0) (kS "letters") gIx) (kJ "list")))) (bU (ai (un1 (ai (a8 0) (kS "rooms") gIx) ju) (a8 3) Ab))) (cv (kB false)) bA) (bX (dN 5 (ai (dI (itF (a8 3)) (ak 0) gN fI 1 [0]) (dI (itF (ai (a8 0) (kS "letters") gIx)) (ak 0) gN ic 1 []) bD)) (cv (ai (kB false) (dI (itF (a8 5)) (ak 0) gN fH 1 []) ka)))))
def di:List PV->Option PV:=iR 5 6 jU
def lV:PSt->R PV:=(a8 1)
def kR:PSt->R Bool:=(bU (ai (ai (ai (a8 2) (ai (kI 3) (a8 0) bD) lQ) (kI 3) i9) (kI 0) gGt))
def oz:PSt->R PV:=(ai (ai (ai (kS "letters ") (a8 0) bD) (kS " ") bD) (a8 1) bD)
def m4:PSt->R Fl:=(bX (GH (bg (a7 (a8 2) (a7 (ai (a8 2) (a8 7) gIx) (a7 (bg (a7 (ai (a8 8) (a8 7) bD) (a7 (kI 48271) aQ)) dk) aQ))) gc) (gF 2 (aE (ak 9) (aE (ak 10) gJ)))) (bX (dN 5 (ai (a8 5) (a8 9) bD)) (C7 6 (ai (a8 2) (a8 7) gIx) (a8 10))))
def Aa:PSt->XO Fb:=(fV (bS (dN 1 (bg (a7 (bg (a7 (a8 0) (a7 (kI 1) aQ)) ba) (a7 (kI 39373) aQ)) dk))) (fV (bS (dN 2 (bg (a7 (bg (a7 (bg (a7 (a8 0) (a7 (kI 0) aQ)) ba) (a7 (kI 16807) aQ)) dk) (a7 (kI 14) aQ)) ff))) (fV (bS (dN 3 (kD (a7 (gQ (a7 (kS "0") (a7 (kS "zqx") aQ))) (a7 (gQ (a7 (kS "2") (a7 (kS "abc") aQ))) (a7 (gQ (a7 (kS "3") (a7 (kS "fed") aQ))) (a7 (gQ (a7 (kS "9") (a7 (kS "y") aQ))) (a7 (gQ (a7 (kS "*") (a7 (kS "ghijklmnoprstuvw") aQ))) aQ)))))))) (fV (bS (dN 4 (dI (uO (a8 3)) (gF 2 (aE (ak 0) (aE (ak 1) gJ))) kR lV 2 [1]))) (fV (bS (dN 5 (ai (kD (a7 (ai (kS "first ") (ai (a8 2) (ai (a8 1) (kI 13) i9) gIx) bD) aQ)) (dI (itF (a8 4)) (gF 2 (aE (ak 0) (aE (ak 1) gJ))) gN oz 2 []) bD))) (fV (bS (zD 6 newD)) (fV (bS (sR (uO (ai (kD (a7 (bg (a7 (a8 0) (a7 (kI 2) aQ)) ba) aQ)) (p7 (a8 0) (vb (kI 3)) (vb (kI 14))) bD)) (gF 2 (aE (ak 7) (aE (ak 8) gJ))) m4)) (fV (bS (dN 11 (jh (kS "\n") (a8 5) lP))) (fV (vD 12 (oF (a7 (a8 11) aQ) bf)) (fV (GR 6 (ifB (uE 12 (nZ (bU (bg (a7 (a8 12) (a7 (ai (a8 2) (ai (a8 1) (kI 13) i9) gIx) (a7 (a8 4) (a7 (un1 (lN 6) ju) (a7 (a8 6) aQ))))) di)))) (bS (cv (kB false))) o4)) (fV (Bl (.fld 12 (.inr "letters")) (gQ (a7 (kS "#") (a7 (kS "q") aQ)))) (fV (G8 (.fld 12 (.inr "rooms"))) (bS (Ad 6 (cv (bg (a7 (GI (oF (a7 (a8 11) aQ) bf)) (a7 (ai (a8 2) (ai (a8 1) (kI 13) i9) gIx) (a7 (a8 4) (a7 (un1 (lN 6) ju) (a7 (a8 6) aQ))))) di))))))))))))))))
def xS:List PV->Option PV:=DM 1 13 Aa
end K02
namespace PU
open PySem L2
def xc(ρ:PSt):R Fl->XO Fb
 | .ok (.next ρ')=>.ok .next ρ'
 | .ok (.brk ρ')=>.ok .brk ρ'
 | .ok (.cont ρ')=>.ok .cont ρ'
 | .ok (.ret p)=>.ok (.ret p) ρ
 | .er x=>.thr x ρ
 | .no=>.no
def vm(g':PSt->XO Fb):XO Fb->XO Fb
 | .ok .next ρ=>g' ρ
 | .ok fl ρ=>.ok fl ρ
 | .thr x ρ=>.thr x ρ
 | .no=>.no
def E6(g g':PSt->XO Fb):XO Bool->XO Fb
 | .ok true ρ=>g ρ
 | .ok false ρ=>g' ρ
 | .thr x ρ=>.thr x ρ
 | .no=>.no
def yP{α β:Type}(f:α->β):XO α->XO β
 | .ok a ρ=>.ok (f a) ρ
 | .thr x ρ=>.thr x ρ
 | .no=>.no
def BA:XO PV->XO Bool
 | .ok (.bl b) ρ=>.ok b ρ
 | .ok _ _=>.no
 | .thr x ρ=>.thr x ρ
 | .no=>.no
section
variable{α β : Type}{ρ ρ' : PSt}{g g' : PSt → XO Fb}{t : PSt → XO Bool}{f : PSt → XO PV}{i : Nat}
@[simp] theorem CJ:xc ρ (.ok (.next ρ'))=.ok .next ρ':=by unfold xc;exact Lr _
@[simp] theorem DV(p:PV):xc ρ (.ok (.ret p))=.ok (.ret p) ρ:=by unfold xc;exact Lr _
@[simp] theorem vp{h:PSt->R Fl}:bS h ρ=xc ρ (h ρ):=by
 unfold bS;cases h ρ with
 | ok fl=>cases fl <;> rfl
 | er x=>rfl
 | no=>rfl
@[simp] theorem Lj(a:α):XO.rd ρ (.ok a)=.ok a ρ:=by unfold XO.rd;exact Lr _
@[simp] theorem Ha{h:PSt->R α}:uD h ρ=XO.rd ρ (h ρ):=by unfold uD;exact Lr _
@[simp] theorem CH:vm g' (.ok .next ρ)=g' ρ:=by unfold vm;exact Lr _
@[simp] theorem DT(p:PV):vm g' (.ok (.ret p) ρ)=.ok (.ret p) ρ:=by unfold vm;exact Lr _
@[simp] theorem AI:fV g g' ρ=vm g' (g ρ):=by
 unfold fV;cases g ρ with
 | ok fl ρ=>cases fl <;> rfl
 | thr x ρ=>rfl
 | no=>rfl
@[simp] theorem GY:o4 ρ=.ok .next ρ:=by unfold o4;exact Lr _
@[simp] theorem ID:E6 g g' (.ok true ρ)=g ρ:=by unfold E6;exact Lr _
@[simp] theorem IE:E6 g g' (.ok false ρ)=g' ρ:=by unfold E6;exact Lr _
@[simp] theorem Hb:ifB t g g' ρ=E6 g g' (t ρ):=by
 unfold ifB;cases t ρ with
 | ok b ρ=>cases b <;> rfl
 | thr x ρ=>rfl
 | no=>rfl
@[simp] theorem JN(h:α->β)(a:α):yP h (.ok a ρ)=.ok (h a) ρ:=by unfold yP;exact Lr _
@[simp] theorem Jp:DO f ρ=yP Fb.ret (f ρ):=by unfold DO;cases f ρ <;> rfl
@[simp] theorem Ea:GM t ρ=yP not (t ρ):=by unfold GM;cases t ρ <;> rfl
@[simp] theorem JM(b:Bool):BA (.ok (.bl b) ρ)=.ok b ρ:=by unfold BA;exact Lr _
@[simp] theorem E8:GJ f ρ=BA (f ρ):=by
 unfold GJ;cases f ρ with
 | ok p ρ=>cases p <;> rfl
 | thr x ρ=>rfl
 | no=>rfl
@[simp] theorem JA:GR i g ρ=g (rC i ρ):=by unfold GR;exact Lr _
end
end PU
section
namespace PU
open PySem L2
theorem aG{m n:Nat}{g:PSt->R Fl}{ps:List PV}{p:PV}(hl:ps.length=m)(h:g (PU.start n ps)=.ok (.ret p)):iR m n g ps=some p:=by
 unfold iR;rw[if_pos hl,h]
theorem tK{α:Type}{xs:List α}{i:Int}(d:α)(h0:0<=i)(h1:i<xs.length):atI xs i=some (xs.getD i.toNat d):=by
 have h2:i.toNat<xs.length:=by omega
 exact bW (n:=i.toNat) (by omega) (by simp[h2])
def mkS(l:List Nat):Str:=⟨l.toArray⟩
theorem aB(a b:List Nat):mkS a++mkS b=mkS (a++b):=by
 show Str.mk (a.toArray++b.toArray)=_;simp[mkS]
@[simp] theorem Iq(a:List Nat):(mkS a).length=a.length:=by simp[mkS,Nm]
@[simp] theorem aD(a:List Nat):(mkS a).cps.toList=a:=by simp[mkS]
theorem wV(c:Nat):(⟨#[c]⟩:Str)=mkS [c]:=rfl
theorem jB:("":Str)=mkS []:=by decide +kernel
theorem A9{l:List Nat}{i:Nat}(h:i<l.length):l.getD i 0∈l:=by
 rw[MN,LU h];exact MV h
theorem nh(xs:List Str):iG (xs.map .str)=some xs:=by
 induction xs with
 | nil=>rfl
 | cons x r ih=>simp[iG,ih]
theorem vA{s:Str}{xs:List Str}(h:(xs.map (·.length)).sum+xs.length * s.length<=16777216):lP (.str s) (.lst (xs.map .str))=some (.str (NY s xs)):=by
 show (iG (xs.map PV.str)).bind (fun ys=>if (ys.map (·.length)).sum+ys.length * s.length<=16777216 then some (PV.str (Txt.join s ys)) else none)=_;rw[nh,PL,if_pos h,zU]
theorem AM{α:Type}{l:List α}{f:α->Nat}{b:Nat}(h:∀x∈l,f x<=b):(l.map f).sum<=l.length * b:=by
 induction l with
 | nil=>simp
 | cons x r ih=>
  have h1:=h x (Lp ..);have h2:=ih fun y hy=>h y (Lq _ hy);simp only[LQ,Rg,LS,Nat.succ_mul];omega
end PU
namespace MT
open PySem L2 PU
inductive Room where
 | menu (text:Str) (keys:List (Str×Str)) (wrong waits:Int×Str)
 | names (text:Str) (words:List (Str×Str)) (wrong waits:Int×Str)
 | hours (spans:List (Int×Int×Str)) (last:Str)
 | hand (text:Str)
 | fin (text:Str)
structure House where
 first:Str
 letters:List (Str×Str)
 rooms:List (Str×Room)
def pv2(p:Str×Str):PV:=.tup [.str p.1,.str p.2]
def pvI(p:Int×Str):PV:=.tup [.int p.1,.str p.2]
def pv3(p:Int×Int×Str):PV:=.tup [.int p.1,.int p.2.1,.str p.2.2]
def Room.pv:Room->PV
 | .menu t ks wr wa=>.tup [.str "menu",.str t,.tup (ks.map pv2),pvI wr,pvI wa]
 | .names t ks wr wa=>.tup [.str "names",.str t,.tup (ks.map pv2),pvI wr,pvI wa]
 | .hours sp l=>.tup [.str "hours",.tup (sp.map pv3),.str l]
 | .hand t=>.tup [.str "hand",.str t]
 | .fin t=>.tup [.str "end",.str t]
def ag(rs:List (Str×Room)):PV:=.dct (rs.map fun r=>.inr r.1) (rs.map fun r=>r.2.pv)
def House.pv (h:House):PV:=.dct [.inr "first",.inr "letters",.inr "rooms"] [.str h.first,.lst (h.letters.map pv2),ag h.rooms]
def num(i:Int):Str:=Pz i
abbrev sp:Str:=" "
def B9(kind name:Str)(wr wa:Int×Str)(t:Str):Str:=kind++(sp++(name++(sp++(num wr.1++(sp++(wr.2++(sp++(num wa.1++(sp++(wa.2++(sp++t)))))))))))
def DN(a b c:Str):Str:=a++(sp++(b++(sp++c)))
def Kt(a b c d:Str):Str:=a++(sp++(b++(sp++(c++(sp++d)))))
def ze(name:Str):Room->List Str
 | .menu t ks wr wa=>B9 "menu" name wr wa t::ks.map fun k=>DN "key" k.1 k.2
 | .names t ks wr wa=>B9 "names" name wr wa t::ks.map fun k=>DN "name" k.1 k.2
 | .hours sp l=>DN "hours" name l::sp.map fun s=>Kt "from" (num s.1) (num s.2.1) s.2.2
 | .hand t=>[DN "hand" name t]
 | .fin t=>[DN "end" name t]
def House.rows (h:House):List Str:=("first"++(sp++h.first):Str)::(h.letters.map (fun l=>DN "letters" l.1 l.2)++h.rooms.flatMap fun r=>ze r.1 r.2)
def House.text (h:House):Str:=NY "\n" h.rows
theorem nY{i:Int}(h0:0<=i)(h1:i<=24):(num i).length<=2:=by
 have:i=0\/i=1\/i=2\/i=3\/i=4\/i=5\/i=6\/i=7\/i=8\/i=9\/i=10\/i=11\/i=12\/i=13\/i=14\/i=15\/i=16\/i=17\/i=18\/i=19\/i=20\/i=21\/i=22\/i=23\/i=24:=by omega
 rcases this with h | h | h | h | h | h | h | h | h | h | h | h | h | h | h | h | h | h | h | h | h | h | h | h | h <;> (subst h;decide +kernel)
end MT
end
namespace PU
open PySem L2
def chZ(fc:PSt->R PV)(g':PV->PV->Option PV)(ρ:PSt)(q:PV):PV->R PV
 | .bl true=>gP (opP g' q) (fc ρ)
 | .bl false=>.ok (.bl false)
 | _=>.no
def chQ(fc:PSt->R PV)(g g':PV->PV->Option PV)(ρ:PSt)(p q:PV):R PV:=gP (chZ fc g' ρ q) (R.ofO (g p q))
@[simp] theorem IM(fc:PSt->R PV)(g':PV->PV->Option PV)(ρ:PSt)(q:PV):chZ fc g' ρ q (.bl true)=gP (opP g' q) (fc ρ):=by unfold chZ;exact Lr _
@[simp] theorem KO(fc:PSt->R PV)(g':PV->PV->Option PV)(ρ:PSt)(q:PV):chZ fc g' ρ q (.bl false)=.ok (.bl false):=by unfold chZ;exact Lr _
@[simp] theorem IQ(fc:PSt->R PV)(g g':PV->PV->Option PV)(ρ:PSt)(p q:PV):chQ fc g g' ρ p q=gP (chZ fc g' ρ q) (R.ofO (g p q)):=by unfold chQ;exact Lr _
@[simp] theorem Gu{fa fb fc:PSt->R PV}{g g':PV->PV->Option PV}{ρ:PSt}:kf fa fb fc g g' ρ=rT (chQ fc g g' ρ) (fa ρ) (fb ρ):=by
 unfold kf;cases fa ρ with
 | ok p=>
  cases fb ρ with
  | ok q=>
   simp only[R.ok_bind,CI,IQ];cases g p q with
   | none=>rfl
   | some z=>
    simp only[R.ofO_some,R.ok_bind,ml];cases z with
    | bl b=>
     cases b with
     | true=>
      rw[IM];cases fc ρ <;> rfl
     | false=>rfl
    | _=>rfl
  | _=>rfl
 | _=>cases fb ρ <;> rfl
theorem sD(ps:List PV)(i:Nat):(mN ps)[i]?=ps[i]?.map fun p=>[.int i,p]:=by
 unfold mN;rw[Ob]
 by_cases h:i<ps.length
 ·rw[OB h,LU h]
  rfl
 ·rw[MQ (by simpa using h),MQ (l:=ps) (by omega)]
  rfl
theorem ig{α:Type}{enc:α->PV}{h:Tgt}{t:PSt->R Bool}{fe:PSt->R PV}{ρ:PSt}(P:α->Bool)(F:α->PV):∀(xs:List α),
  (∀x∈xs,∃ρ1,h (enc x) ρ=some ρ1/\t ρ1=.ok (P x)/\(P x=true->fe ρ1=.ok (F x)))->bz h t fe ρ (xs.map enc)=.ok ((xs.filter P).map F)
 | [],_=>rfl
 | x::xs,hs=>by
  obtain⟨ρ1,e1,e2,e3⟩:=hs x (Lp ..);have ih:=ig P F xs fun y hy=>hs y (Lq _ hy);rw[LQ];unfold bz;rw[e1];simp only[R.ofO_some,R.ok_bind,e2];cases hp:P x with
  | true=>
   rw[if_pos rfl,e3 hp,List.filter_cons_of_pos hp,LQ];simp only[R.ok_bind,ih]
  | false=>
   rw[if_neg LX,List.filter_cons_of_neg (by rw[hp];exact LX)];exact ih
def mdK(fe:PSt->R PV)(g:PV->PV->Option PV)(ρ:PSt)(p:PV):R PV:=if A4 p=true then gP (opP g p) (fe ρ) else .no
@[simp] theorem KJ(fe:PSt->R PV)(g:PV->PV->Option PV)(ρ:PSt)(ks:List Key)(ps:List PV):mdK fe g ρ (.dct ks ps)=gP (opP g (.dct ks ps)) (fe ρ):=by unfold mdK;exact if_pos rfl
@[simp] theorem H8{fo fe:PSt->R PV}{g:PV->PV->Option PV}{ρ:PSt}:zJ fo fe g ρ=gP (mdK fe g ρ) (fo ρ):=by
 unfold zJ;cases fo ρ with
 | ok p=>
  rw[R.ok_bind,ml];unfold mdK
  split
  ·cases fe ρ <;> rfl
  ·rfl
 | _=>rfl
end PU
namespace WO
open PySem L2 PU MT
def sg(c:Nat):PV:=.str ⟨#[c]⟩
theorem signs_mk(l:List Nat):fA (mkS l)=l.map sg:=by unfold fA sg;rw[aD]
theorem it_mk(l:List Nat):jm (.str (mkS l))=some (l.map sg):=by rw[← signs_mk];unfold jm;exact Lr _
theorem in_one(c:Nat)(l:List Nat):gIn (sg c) (.str (mkS l))=some (.bl (decide (c∈l))):=by
 show some (PV.bl (inS ⟨#[c]⟩ (mkS l)))=_;have e:=PySem.StrLaws.found_one (mkS l) c;rw[aD] at e;unfold inS;rw[e]
theorem in_list_comp{α:Type}{enc:α->PV}{h:Tgt}{fe:PSt->R PV}{ρ:PSt}(F:α->PV)(xs:List α)
  (hs:∀x∈xs,∃ρ1,h (enc x) ρ=some ρ1/\fe ρ1=.ok (F x)):bz h gN fe ρ (xs.map enc)=.ok (xs.map F):=by
 have e:=ig (t:=gN) (fun _=>true) F xs fun x hx=>by
  obtain⟨ρ1,a,b⟩:=hs x hx;exact⟨ρ1,a,E7,fun _=>b⟩
 rw[List.filter_eq_self.mpr (fun _ _=>rfl)] at e;exact e
end WO
namespace FA
open PySem L2 PU MT
@[simp] theorem zm:(LB "names"=LB "menu")=False:=by decide +kernel
@[simp] theorem zp:(LB "hours"=LB "menu")=False:=by decide +kernel
@[simp] theorem yA:(LB "hours"=LB "names")=False:=by decide +kernel
@[simp] theorem vh:(LB "first"=LB "letters")=False:=by decide +kernel
@[simp] theorem yB:(LB "first"=LB "rooms")=False:=by decide +kernel
@[simp] theorem vg:(LB "letters"=LB "rooms")=False:=by decide +kernel
def holds(hour:Int)(s:Int×Int×Str):Bool:=decide (s.1<=hour) && decide (hour<s.2.1)
abbrev rR:=List (Str×Room)
def lookR(rs:rR)(n:Str):Option Room:=(rs.find? fun r=>decide (r.1=n)).map (·.2)
def names(rs:rR):List Str:=rs.map (·.1)
theorem mO(n:Str):∀rs:rR,eU (rs.map fun r=>.inr r.1) (rs.map fun r=>r.2.pv) (.inr n)=(lookR rs n).map Room.pv
 | []=>rfl
 | r::rs=>by
  have ih:=mO n rs;unfold lookR at ih ⊢
  by_cases h:r.1=n
  ·simp[h]
  ·simp only[LQ,mz]
   rw[if_neg (by simpa using h),List.find?_cons_of_neg (by simpa using h)];exact ih
theorem ix_rooms(rs:rR)(n:Str):gIx (ag rs) (.str n)=(lookR rs n).map Room.pv:=mO n rs
theorem qE(n:Str):∀rs:rR,((rs.map fun r=>(MU r.1:Key)).any fun j=>decide (j=.inr n))=decide (n∈names rs)
 | []=>by simp[names]
 | r::rs=>by
  have ih:=qE n rs;simp only[LQ,Nh,ih];have e:names (r::rs)=r.1::names rs:=rfl;rw[e]
  by_cases h:r.1=n
  ·have a:decide (n∈r.1::names rs)=true:=decide_eq_true (by rw[h];exact Lp ..)
   rw[a,decide_eq_true (by rw[h]),Bool.true_or]
  ·have a:decide (n∈r.1::names rs)=decide (n∈names rs):=decide_eq_decide.mpr ⟨fun m=>(LJ.mp m).resolve_left fun e=>h e.symm,fun m=>Lq _ m⟩
   rw[a,decide_eq_false (by simpa using h),Ri]
theorem in_rooms(rs:rR)(n:Str):gIn (.str n) (ag rs)=some (.bl (decide (n∈names rs))):=by
 have e:gIn (.str n) (ag rs)=some (.bl ((rs.map fun r=>(MU r.1:Key)).any fun j=>decide (j=.inr n))):=rfl;rw[e,qE]
theorem len_rooms(rs:rR):iC (ag rs)=some (.int rs.length):=by
 have e:iC (ag rs)=some (.int (rs.map fun r=>(MU r.1:Key)).length):=rfl;rw[e,LI]
end FA
namespace FA
open PySem L2 PU MT
theorem join_le (xs:List Str) (b:Nat) (h:∀x∈xs,x.length<=b) (hb:xs.length * b<=16777216):lP (.str "") (.lst (xs.map .str))=some (.str (NY "" xs)):=by
 apply vA;have e:("":Str).length=0:=by decide +kernel
 rw[e,Nat.mul_zero,SH];exact MR (AM h) hb
end FA
namespace MT
open PySem L2 PU
mutual
def flat:PV->Bool
 | .tup ps=>mq ps
 | .lst ps=>mq ps
 | .dct _ _=>false
 | .dtt _ _=>false
 | .fn _ _=>false
 | _=>true
def mq:List PV->Bool
 | []=>true
 | p::ps=>flat p && mq ps
end
mutual
theorem nV:∀(p:PV),flat p=true->bE p p=some true
 | .non,_=>by simp[bE]
 | .bl _,_=>by simp[bE]
 | .int _,_=>by simp[bE]
 | .str _,_=>by simp[bE]
 | .tup ps,h=>by
  simp only[bE];exact l9 ps (by simpa [flat] using h)
 | .lst ps,h=>by
  simp only[bE];exact l9 ps (by simpa [flat] using h)
 | .dct _ _,h=>by simp[flat] at h
 | .dtt _ _,h=>by simp[flat] at h
 | .fn _ _,h=>by simp[flat] at h
theorem l9:∀(ps:List PV),mq ps=true->dC ps ps=some true
 | [],_=>by simp[dC]
 | p::ps,h=>by
  simp only[mq,M6] at h;simp only[dC,nV p h.1,l9 ps h.2,PL,Rl]
end
theorem jv{α:Type}(f:α->PV)(h:∀x,flat (f x)=true):∀(xs:List α),mq (xs.map f)=true
 | []=>rfl
 | x::xs=>by
  rw[LQ];simp only[mq,h x,jv f h xs,Rl]
theorem sV(p:Str×Str):flat (pv2 p)=true:=by simp[pv2,flat,mq]
theorem Af(p:Int×Int×Str):flat (pv3 p)=true:=by simp[pv3,flat,mq]
theorem xQ(r:Room):flat r.pv=true:=by
 cases r <;> simp[Room.pv,flat,mq,pvI,jv pv2 sV,jv pv3 Af]
theorem i5{α:Type}(f:α->PV)(n:Nat)(h:∀x,mi (f x)<=n):∀(xs:List α),bL (xs.map f)<=n
 | []=>by simp[bL]
 | x::xs=>by
  rw[LQ];simp only[bL];have:=h x;have:=i5 f n h xs;omega
theorem sx(p:Str×Str):mi (pv2 p)<=1:=by simp[pv2,mi,bL]
theorem zB(p:Int×Int×Str):mi (pv3 p)<=1:=by simp[pv3,mi,bL]
theorem wI(r:Room):mi r.pv<=3:=by
 have h2:=fun ks=>i5 pv2 1 sx ks;have h3:=fun ks=>i5 pv3 1 zB ks;cases r with
 | menu t ks wr wa=>have:=h2 ks;simp[Room.pv,mi,bL,pvI];omega
 | names t ks wr wa=>have:=h2 ks;simp[Room.pv,mi,bL,pvI];omega
 | hours spans l=>have:=h3 spans;simp[Room.pv,mi,bL];omega
 | hand t=>simp[Room.pv,mi,bL]
 | fin t=>simp[Room.pv,mi,bL]
theorem sM{k:Key}{r:PV}:∀(ks:List Key)(ps:List PV),ks.length=ps.length->k ∉ ks->∀(ls:List Key)(qs:List PV),eU (ks++k::ls) (ps++r::qs) k=some r
 | [],[],_,_,ls,qs=>by simp
 | j::ks,p::ps,hl,hn,ls,qs=>by
  simp only[PZ,mz];rw[if_neg (fun e=>hn (by rw[e];exact Lp))];exact sM ks ps (by simpa using hl) (fun h=>hn (Lq _ h)) ls qs
 | [],_::_,h,_,_,_=>by simp at h
 | _::_,[],h,_,_,_=>by simp at h
theorem lM(e:PV->PV->Option Bool):∀(ks₀ ks:List Key)(ps₀ ps:List PV),ks₀.length=ps₀.length->ks.length=ps.length->(ks₀++ks).Nodup->(∀p∈ps,e p p=some true)->iZ e ks ps (ks₀++ks) (ps₀++ps)=some true
 | _,[],_,[],_,_,_,_=>by simp[iZ]
 | ks₀,k::ks,ps₀,p::ps,h0,hl,hn,he=>by
  have hk:k ∉ ks₀:=fun h=>by
   rw[NK] at hn;exact hn.2.2 k h k Lp rfl
  have:=lM e (ks₀++[k]) ks (ps₀++[p]) ps (by simp[h0]) (by simpa using hl) (by simpa using hn) fun q hq=>he q (Lq _ hq);simp only[Nd,PZ,Ol] at this;unfold iZ;rw[sM ks₀ ps₀ h0 hk ks ps];simp only[he p Lp,PL,this,Rl]
 | _,[],_,_::_,_,h,_,_=>by simp at h
 | _,_::_,_,[],_,h,_,_=>by simp at h
theorem ux{rs:List (Str×Room)}(h:(rs.map (·.1)).Nodup):(rs.map fun r=>(MU r.1:Key)).Nodup:=by
 have:(rs.map fun r=>(MU r.1:Key))=(rs.map (·.1)).map MU:=by simp
 rw[this];exact RB _ (fun a b hab e=>hab (Rm e)) h
theorem uo(rs:List (Str×Room))(h:(rs.map (·.1)).Nodup):lb 2 (ag rs) (ag rs)=some true:=by
 unfold ag lb;rw[if_pos rfl];refine lM (lb 1) [] _ [] _ rfl (by simp) (ux h) fun p hp=>?_;obtain⟨r,_,rfl⟩:=M8.mp hp;have h1:=xQ r.2;cases e:r.2.pv with
 | dct ks ps=>rw[e] at h1;simp[flat] at h1
 | _=>rw[← e];rw[show lb 1 r.2.pv r.2.pv=bE r.2.pv r.2.pv by rw[e];rfl];exact nV _ h1
theorem uK(h:House)(nd:(h.rooms.map (·.1)).Nodup):gEq h.pv h.pv=some (.bl true):=by
 have hd:bL [.str h.first,.lst (h.letters.map pv2),ag h.rooms]<=60:=by
  have:=i5 pv2 1 sx h.letters;have:=i5 (fun r:Str×Room=>r.2.pv) 3 (fun r=>wI r.2) h.rooms;simp only[bL,mi,ag];omega
 show (if bL [.str h.first,.lst (h.letters.map pv2),ag h.rooms]<=60 then (lb 3 h.pv h.pv).map PV.bl else none)=_;rw[if_pos hd]
 have:lb 3 h.pv h.pv=some true:=by
  unfold House.pv lb;rw[if_pos rfl];refine lM (lb 2) [] _ [] _ rfl rfl (by simp) fun p hp=>?_;simp only[LJ,Ln,or_false] at hp;rcases hp with rfl | rfl | rfl
  ·show bE _ _=_
   simp[bE]
  ·show bE _ _=_
   exact nV _ (by simp[flat,jv pv2 sV])
  ·exact uo _ nd
 rw[this];rfl
def DP(rs:List (Str×Room))(k:Str)(r:Room):List (Str×Room):=if k∈rs.map (·.1) then rs.map (fun x=>if x.1=k then (x.1,r) else x) else rs++[(k,r)]
theorem qR(rs:List (Str×Room))(k:Str)(r:Room):ur (rs.map fun r=>.inr r.1) (rs.map fun r=>r.2.pv) (.inr k) r.pv=ag (DP rs k r):=by
 unfold ur DP
 by_cases h:k∈rs.map (·.1)
 ·rw[if_pos h,if_pos (by
   obtain⟨x,hx,e⟩:=M8.mp h;rw[Pa];exact⟨.inr x.1,M8.mpr ⟨x,hx,rfl⟩,by simp[e]⟩)]
  have e1:(rs.map fun x=>if x.1=k then (x.1,r) else x).map (fun r=>(MU r.1:Key))=rs.map fun r=>.inr r.1:=by
   rw[M4];apply Ni;intro x _;simp only[TV]
   split <;> rfl
  have e2:wb (rs.map fun r=>.inr r.1) (rs.map fun r=>r.2.pv) (.inr k) r.pv=(rs.map fun x=>if x.1=k then (x.1,r) else x).map fun r=>r.2.pv:=by
   unfold wb;clear h e1
   induction rs with
   | nil=>rfl
   | cons x rs ih=>
    simp only[LQ,Pk,ih,Sum.inr.injEq]
    congr 1
    split <;> rfl
  unfold ag;rw[e1,e2]
 ·rw[if_neg h,if_neg (by
   rw[Pa];rintro⟨j,hj,e⟩;obtain⟨x,hx,rfl⟩:=M8.mp hj;exact h (M8.mpr ⟨x,hx,by simpa using e⟩))]
  unfold ag;simp
end MT
namespace NM
open PySem L2 PU MT
def c24:List Nat:=[97,99,100,101,102,103,104,105,106,108,109,110,111,112,113,114,115,116,117,118,119,120,121,122]
theorem Gb:("acdefghijlmnopqrstuvwxyz":Str)=mkS c24:=by decide +kernel
def dD(n:Int):Nat:=(1+n % 8).toNat
def vi(n:Int):Int:=n / 8 % (1+n % 8)
def k7(n:Int)(t k:Nat):Nat:=c24.getD ((n / ((k:Int)+2)+(t:Int) * (if (k:Int)=vi n then 1 else 0)) % 24).toNat 0
def bR(n:Int)(t i:Nat):List Nat:=(M9 i).map (k7 n t)
def nm(n:Int)(t:Nat):Str:=mkS (bR n t (dD n))
theorem pP(n:Int):1<=dD n/\dD n<=8:=by unfold dD;omega
theorem pQ(n:Int)(t i:Nat):bR n t (i+1)=bR n t i++[k7 n t i]:=by simp[bR,List.range_succ]
theorem Ax:∀i:Fin 24,∀j:Fin 24,c24.getD i.1 0=c24.getD j.1 0->i.1=j.1:=by decide +kernel
theorem DA(i j:Nat)(hi:i<24)(hj:j<24)(e:c24.getD i 0=c24.getD j 0):i=j:=Ax ⟨i,hi⟩ ⟨j,hj⟩ e
theorem Fo(n:Int)(i j:Nat)(hi:i<24)(hj:j<24)(e:nm n i=nm n j):i=j:=by
 unfold nm at e
 have e:bR n i (dD n)=bR n j (dD n):=by
  have:=congrArg (fun s:Str=>s.cps.toList) e;simpa using this
 have ha:0<=vi n/\vi n<1+n % 8:=by
  unfold vi;exact⟨Int.emod_nonneg _ (by omega),TU _ (by omega)⟩
 have hs:(vi n).toNat<dD n:=by unfold dD;omega
 have e2:=congrArg (fun l:List Nat=>l[(vi n).toNat]?) e;simp only[bR,LR,OB hs,Option.map_some] at e2;have e3:k7 n i (vi n).toNat=k7 n j (vi n).toNat:=MK e2;unfold k7 at e3;have hc:((vi n).toNat:Int)=vi n:=by omega
 rw[if_pos hc] at e3;have e4:=DA _ _ (by omega) (by omega) e3;omega
end NM
section
namespace PU
open PySem L2
@[simp] theorem Ej(ps:List PV)(lo hi:Option Int):KQ (.lst ps) lo hi=some (.lst (yi ps lo hi)):=rfl
end PU
namespace NM
open PySem L2 PU MT
theorem Dz:∀c∈c24,c≠98/\c≠107:=by decide +kernel
theorem Fn (n:Int) (t:Nat):nm n t≠"back"/\nm n t≠"bk":=by
 have h:∀c∈bR n t (dD n),c≠98:=fun c hc=>by
  unfold bR at hc;obtain⟨k,_,rfl⟩:=M8.mp hc;unfold k7;refine(Dz _ (A9 ?_)).1;show _<24;omega
 have e1:("back":Str)=mkS [98,97,99,107]:=by decide +kernel
 have e2:("bk":Str)=mkS [98,107]:=by decide +kernel
 constructor
 ·intro e
  rw[e1] at e;have e:=congrArg (fun s:Str=>s.cps.toList) e;simp only[nm,aD] at e;exact h 98 (by rw[e];simp) rfl
 ·intro e
  rw[e2] at e;have e:=congrArg (fun s:Str=>s.cps.toList) e;simp only[nm,aD] at e;exact h 98 (by rw[e];simp) rfl
end NM
end
section
namespace PU
open PySem L2 MT
@[simp] theorem qm{α:Type}(f:α->Str)(l:List α):(l.map fun x=>PV.str (f x)).all ia=true:=by induction l <;> simp_all [ia]
end PU
namespace BG
open PySem L2 PU MT
abbrev W:=List Nat
def pre(p c:W):Bool:=p.isPrefixOf c
def many(cs:List W)(p:W):Nat:=(cs.filter (pre p)).length
def own(cs:List W)(c:W):W:=match (M9 (c.length-1)).find? (fun i=>decide (many cs (c.take (i+1))=1)) with
 | some i=>c.take (i+1)
 | none=>c
def Code(c:W):Prop:=∃x:W,c=x++[35]/\35 ∉ x
end BG
end
namespace NW
open PySem L2 PU MT BG
structure Tells(ks:List Key)(ps:List PV)(F:W->Option PV):Prop where
 len:ks.length=ps.length
 at_:∀p,eU ks ps (.inr (mkS p))=F p
 nf:∀x∈ps,noFn x=true
end NW
namespace PU
open PySem L2 MT
def Bz:PV->PV->R (List PV)
 | .tup ps,.lst qs=>if (ps.all ia || qs.all ia)=true then .ok ((ve ps qs).map .tup) else .no
 | _,_=>.no
@[simp] theorem CG(ps qs:List PV)(h:(ps.all ia || qs.all ia)=true):Bz (.tup ps) (.lst qs)=.ok ((ve ps qs).map .tup):=by unfold Bz;exact if_pos h
@[simp] theorem GW{f g:PSt->R PV}{ρ:PSt}:yO f g ρ=rT Bz (f ρ) (g ρ):=by
 unfold yO;cases f ρ with
 | ok p=>
  cases g ρ with
  | ok q=>rw[R.ok_bind,R.ok_bind,CI];cases p <;> cases q <;> rfl
  | er x=>rfl
  | no=>rfl
 | er x=>rfl
 | no=>rfl
def Fs(fe fd:PSt->R PV)(g:PV->PV->PV->Option PV)(ρ:PSt)(p:PV):R PV:=if ri p=true then rT (fun q y=>R.ofO (g p q y)) (fe ρ) (fd ρ) else .no
@[simp] theorem JT(fe fd:PSt->R PV)(g:PV->PV->PV->Option PV)(ρ:PSt)(x:Str):Fs fe fd g ρ (.str x)=rT (fun q y=>R.ofO (g (.str x) q y)) (fe ρ) (fd ρ):=by unfold Fs;exact if_pos rfl
@[simp] theorem H9{fo fe fd:PSt->R PV}{g:PV->PV->PV->Option PV}{ρ:PSt}:zK fo fe fd g ρ=gP (Fs fe fd g ρ) (fo ρ):=by
 unfold zK;cases fo ρ with
 | ok p=>
  show (if ri p=true then _ else _)=Fs fe fd g ρ p;unfold Fs
  split
  ·cases fe ρ with
   | ok a=>cases fd ρ <;> rfl
   | er x=>rfl
   | no=>rfl
  ·rfl
 | er x=>rfl
 | no=>rfl
def Ft(fe:PSt->R PV)(g:PV->PV->Option PV)(ρ:PSt)(p:PV):R PV:=if ri p=true then gP (opP g p) (fe ρ) else .no
@[simp] theorem JU(fe:PSt->R PV)(g:PV->PV->Option PV)(ρ:PSt)(x:Str):Ft fe g ρ (.str x)=gP (opP g (.str x)) (fe ρ):=by unfold Ft;exact if_pos rfl
@[simp] theorem Gr{fo fe:PSt->R PV}{g:PV->PV->Option PV}{ρ:PSt}:jh fo fe g ρ=gP (Ft fe g ρ) (fo ρ):=by
 unfold jh;cases fo ρ with
 | ok p=>
  show (if ri p=true then _ else _)=Ft fe g ρ p;unfold Ft
  split
  ·cases fe ρ <;> rfl
  ·rfl
 | er x=>rfl
 | no=>rfl
end PU
namespace TX
open PySem PySem.Builtin PySem.Builtin.Str
def pos(c:Nat):Nat->List Nat->List Nat
 | _,[]=>[]
 | i,y::r=>if y=c then i::pos c (i+1) r else pos c (i+1) r
def spl(c:Nat):Nat->List Nat->List (List Nat)
 | 0,x=>[x]
 | k+1,x=>match x.dropWhile (· != c) with
  | []=>[x]
  | _::r=>x.takeWhile (· != c)::spl c k r
theorem wM(x:Str)(c i:Nat):(i+(⟨#[c]⟩:Str).length<=x.length/\subAt x ⟨#[c]⟩ i=true) ↔ x.cps.toList[i]?=some c:=StrLaws.subAt_one x c i
theorem nR(x:Str)(c limit:Nat):∀(l:List Nat)(i:Nat)(f:Array Nat)(free:Nat),free<=i->(∀j,x.cps.toList[i+j]?=l[j]?)->f.size<=limit->
  (forIn (SW i (l.length+1)) (f,free) (Of x ⟨#[c]⟩ x.length limit)).run.fst.toList=f.toList++(pos c i l).take (limit-f.size)
 | [],i,f,free,hf,hl,hs=>by
  have h0:x.cps.toList[i]?=none:=by simpa using hl 0
  have hn:¬ (((f.size<limit/\free<=i)/\i+(⟨#[c]⟩:Str).length<=x.length)/\subAt x ⟨#[c]⟩ i=true):=fun z=>by
   rw[(wM x c i).mp ⟨z.1.2,z.2⟩] at h0;cases h0
  simp[Of,pos,hn,Oc]
 | y::r,i,f,free,hf,hl,hs=>by
  have h0:x.cps.toList[i]?=some y:=by simpa using hl 0
  have hr:∀j,x.cps.toList[i+1+j]?=r[j]?:=fun j=>by
   have:=hl (j+1);rw[Lu] at this;rw[← this]
   congr 1
   omega
  rw[LS,Oc,Pw]
  by_cases hy:y=c
  ·subst hy
   obtain⟨h1,h2⟩:=(wM x y i).mpr h0
   by_cases hz:f.size<limit
   ·have e:Of x ⟨#[y]⟩ x.length limit i (f,free)=pure (.yield (f.push i,i+1)):=if_pos ⟨⟨⟨hz,hf⟩,h1⟩,h2⟩
    have ih:=nR x y limit r (i+1) (f.push i) (i+1) (LZ _) hr (by rw[Array.size_push];omega);rw[e];simp only[pure_bind];rw[ih,pos,if_pos rfl,Array.size_push,QW];have:limit-f.size=(limit-(f.size+1))+1:=by omega
    rw[this,List.take_succ_cons];simp
   ·have hn:¬ (((f.size<limit/\free<=i)/\i+(⟨#[y]⟩:Str).length<=x.length)/\subAt x ⟨#[y]⟩ i=true):=fun z=>hz z.1.1.1
    have e:Of x ⟨#[y]⟩ x.length limit i (f,free)=pure (.yield (f,free)):=if_neg hn;have ih:=nR x y limit r (i+1) f free (by omega) hr hs;rw[e];simp only[pure_bind];rw[ih];have:limit-f.size=0:=by omega
    rw[this];simp
  ·have hn:¬ (((f.size<limit/\free<=i)/\i+(⟨#[c]⟩:Str).length<=x.length)/\subAt x ⟨#[c]⟩ i=true):=fun z=>by
    rw[(wM x c i).mp ⟨z.1.2,z.2⟩] at h0;cases h0;exact hy rfl
   have e:Of x ⟨#[c]⟩ x.length limit i (f,free)=pure (.yield (f,free)):=if_neg hn;have ih:=nR x c limit r (i+1) f free (by omega) hr hs;rw[e];simp only[pure_bind];rw[ih,pos,if_neg hy]
theorem occ_pos(x:Str)(c limit:Nat):occurrences x ⟨#[c]⟩ 0 x.length limit=(pos c 0 x.cps.toList).take limit:=by
 rw[StrLaws.occ_eq];have:=nR x c limit x.cps.toList 0 #[] 0 (LZ _) (fun j=>by rw[Pq]) (Mr _);have hl:x.cps.toList.length=x.length:=by simp[Nm]
 rw[hl] at this;simpa using this
abbrev mk(l:List Nat):Str:=⟨l.toArray⟩
theorem wz(c:Nat):∀(l:List Nat)(a:Nat),pos c a l=match l.dropWhile (· != c) with
  | []=>[]
  | _::r=>(a+(l.takeWhile (· != c)).length)::pos c (a+(l.takeWhile (· != c)).length+1) r
 | [],_=>rfl
 | y::l,a=>by
  by_cases h:y=c
  ·subst h
   simp[pos]
  ·have ih:=wz c l (a+1)
   have hb:(y != c)=true:=by simpa using h
   rw[pos,if_neg h,ih,List.dropWhile_cons_of_pos (p:=fun x=>x != c) hb,List.takeWhile_cons_of_pos (p:=fun x=>x != c) hb];cases l.dropWhile (· != c) with
   | nil=>rfl
   | cons z r=>
    show (a+1+_)::pos c (a+1+_+1) r=(a+_)::pos c (a+_+1) r;rw[LS,show a+1+(List.takeWhile (· != c) l).length=a+((List.takeWhile (· != c) l).length+1) by omega]
theorem oS(x:Str)(a b:Nat)(l:List Nat)(h:(x.cps.toList.drop a).take (b-a)=l):strSub x a b=mk l:=by
 have:=StrLaws.strSub_toList x a b;rw[h] at this;exact Str.ext' (by rw[← this])
theorem jf(x:Str)(c:Nat):∀(k a:Nat)(l:List Nat),x.cps.toList.drop a=l->SN x 1 a ((pos c a l).take k)=(spl c k l).map mk
 | 0,a,l,h=>by
  show [strSub x a x.length]=[mk l];rw[oS x a x.length l];rw[h,OU];have:=congrArg NS h;rw[O9] at this;have e:x.cps.toList.length=x.length:=by simp[Nm]
  omega
 | k+1,a,l,h=>by
  rw[wz];have e:x.cps.toList.length=x.length:=by simp[Nm]
  have hl:=congrArg NS h;rw[O9] at hl;have ht:=Qe (p:=(· != c)) (l:=l);unfold spl;cases hd:l.dropWhile (· != c) with
  | nil=>
   show [strSub x a x.length]=[mk l];rw[oS x a x.length l];rw[h,OU (by omega)]
  | cons z r=>
   rw[hd] at ht;show strSub x a (a+_)::SN x 1 (a+_+1) ((pos c (a+_+1) r).take k)=mk _::(spl c k r).map mk;clear hd;generalize l.takeWhile (· != c)=tw at ht ⊢
   have h2:x.cps.toList.drop (a+tw.length+1)=r:=by
    rw[OM,← List.drop_drop,h,← ht,List.drop_append];simp
   rw[jf x c k _ r h2]
   congr 1
   refine oS x a _ _ ?_;rw[h,Pe,← ht];simp
theorem sO{c:Nat}(h:c<256)(x:Str):decide (Mq x<Mq (⟨#[c]⟩:Str))=false:=by
 have h1:Mq (⟨#[c]⟩:Str)=1:=by
  unfold Mq;rw[if_pos (by simpa using h)]
 rw[h1];unfold Mq;refine decide_eq_false ?_
 split
 ·omega
 ·split <;> omega
theorem mk_list(x:Str):mk x.cps.toList=x:=Str.ext' (by simp)
theorem nJ{c:Nat}{x:Str}{k:Nat}(h:(pos c 0 x.cps.toList).take k=[]):(spl c k x.cps.toList).map mk=[x]:=by
 have:=jf x c k 0 x.cps.toList rfl;rw[h] at this;rw[← this];show [strSub x 0 x.length]=[x];rw[StrLaws.sub_whole]
theorem splitMax_eq{c:Nat}(h:c<256)(x:Str)(k:Nat):Txt.splitMax x ⟨#[c]⟩ (k:Int)=(spl c k x.cps.toList).map mk:=by
 have e:Ru x (k:Int)=k:=by
  unfold Ru;rw[if_neg (by omega)];simp
 unfold Txt.splitMax;rw[sO h,OJ,e,occ_pos]
 split
 ·rename_i hl
  have hl:x.length<1:=of_decide_eq_true hl;have hx:x.cps.toList=[]:=Mc (by simp[Nm] at hl ⊢;omega);exact(nJ (by rw[hx];simp[pos])).symm
 ·split
  ·rename_i he
   exact(nJ (by simpa using he)).symm
  ·rw[R5]
   exact jf x c k 0 x.cps.toList rfl
theorem split_eq{c:Nat}(h:c<256)(x:Str):Txt.split x ⟨#[c]⟩=(spl c (x.length+1) x.cps.toList).map mk:=by
 unfold Txt.split;rw[sO h,OJ,occ_pos]
 split
 ·rename_i hl
  have hl:x.length<1:=of_decide_eq_true hl;have hx:x.cps.toList=[]:=Mc (by simp[Nm] at hl ⊢;omega);exact(nJ (by rw[hx];simp[pos])).symm
 ·split
  ·rename_i he
   exact(nJ (by simpa using he)).symm
  ·rw[R5]
   exact jf x c _ 0 x.cps.toList rfl
theorem part_eq(c:Nat)(x:Str):(Txt.partition x ⟨#[c]⟩).1=mk (x.cps.toList.takeWhile (· != c))/\(Txt.partition x ⟨#[c]⟩).2.2=mk ((x.cps.toList.dropWhile (· != c)).drop 1):=by
 have e:x.cps.toList.length=x.length:=by simp[Nm]
 have ht:=Qe (p:=(· != c)) (l:=x.cps.toList);unfold Txt.partition;rw[occ_pos,wz];cases hd:x.cps.toList.dropWhile (· != c) with
 | nil=>
  rw[hd,Mh] at ht;exact⟨by rw[ht];exact(mk_list x).symm,rfl⟩
 | cons z r=>
  rw[hd] at ht;have hl:=congrArg NS ht;generalize x.cps.toList.takeWhile (· != c)=tw at ht hl ⊢;rw[M1,LS] at hl;refine⟨oS x 0 _ _ ?_,oS x _ _ _ ?_⟩
  ·rw[← ht];simp
  ·rw[← ht,List.drop_append]
   show List.take _ _=r;simp only[Pq];rw[List.drop_eq_nil_of_le (by show tw.length<=tw.length+1;omega),Ol,show tw.length+(⟨#[c]⟩:Str).length-tw.length=1 by show tw.length+1-tw.length=1;omega,List.drop_succ_cons,List.drop_zero];refine OU ?_;show r.length<=x.length-(tw.length+1);omega
def glue(c:Nat):List (List Nat)->List Nat->List Nat
 | [],t=>t
 | w::ws,t=>w++c::glue c ws t
theorem drop_free{c:Nat}{w:List Nat}(h:c ∉ w)(r:List Nat):(w++c::r).dropWhile (· != c)=c::r/\(w++c::r).takeWhile (· != c)=w:=by
 have hw:∀y∈w,(y != c)=true:=fun y hy=>by
  have:y≠c:=fun z=>h (z▸hy);simpa using this
 constructor
 ·rw[Qw hw];simp
 ·rw[List.takeWhile_append_of_pos hw];simp
theorem spl_glue{c:Nat}(t:List Nat):∀ws:List (List Nat),(∀w∈ws,c ∉ w)->spl c ws.length (glue c ws t)=ws++[t]
 | [],_=>rfl
 | w::ws,h=>by
  obtain⟨h1,h2⟩:=drop_free (h w (by simp)) (glue c ws t);show spl c (ws.length+1) (w++c::glue c ws t)=_;unfold spl;rw[h1,h2];show w::spl c ws.length (glue c ws t)=w::(ws++[t]);rw[spl_glue t ws fun w' hw=>h w' (by simp[hw])]
theorem spl_more{c:Nat}{t:List Nat}(ht:c ∉ t):∀(ws:List (List Nat))(k:Nat),ws.length<=k->(∀w∈ws,c ∉ w)->spl c k (glue c ws t)=ws++[t]
 | [],0,_,_=>rfl
 | [],k+1,_,_=>by
  show spl c (k+1) t=[t];unfold spl
  have hw:∀y∈t,(y != c)=true:=fun y hy=>by
   have:y≠c:=fun z=>ht (z▸hy);simpa using this
  have:=Qw (l₂:=[]) hw;rw[Mh] at this;rw[this];rfl
 | w::ws,0,hk,_=>by simp at hk
 | w::ws,k+1,hk,h=>by
  obtain⟨h1,h2⟩:=drop_free (h w (by simp)) (glue c ws t);show spl c (k+1) (w++c::glue c ws t)=_;unfold spl;rw[h1,h2];show w::spl c k (glue c ws t)=w::(ws++[t]);rw[spl_more ht ws k (by simpa using hk) fun w' hw=>h w' (by simp[hw])]
end TX
namespace K02
open PySem L2 PU MT
abbrev sgn(c:Nat):PV:=.str ⟨#[c]⟩
def cE(m:Nat)(x:List Nat):Bool:=decide (1<=x.length) && decide (x.length<=m) && x.all fun c=>decide (97<=c) && decide (c<=122)
theorem cj(x:List Nat):(mkS x).length=x.length:=by simp[mkS,Nm]
theorem fw{x:List Nat}(h:x.length<=16777216):iC (.str (mkS x))=some (.int x.length):=by rw[gR (by rw[cj];exact h),cj]
theorem yt{α:Type}(p:α->Bool):∀xs:List α,CW (.lst (xs.map fun x=>.bl (p x)))=some (.bl (xs.all p)):=fun xs=>by
 have:∀l:List α,m7 (l.map fun x=>.bl (p x))=some (l.map p):=by
  intro l
  induction l with
  | nil=>rfl
  | cons a l ih=>show ((m7 (l.map fun x=>.bl (p x))).map (p a::·))=_;rw[ih];rfl
 show ((m7 _).bind fun bs=>some (PV.bl (bs.all id)))=_;rw[this];simp[S5,Ox]
theorem Gg{α:Type}(p:α->Bool):∀xs:List α,FZ (.lst (xs.map fun x=>.bl (p x)))=some (.bl (xs.any p)):=fun xs=>by
 have:∀l:List α,m7 (l.map fun x=>.bl (p x))=some (l.map p):=by
  intro l
  induction l with
  | nil=>rfl
  | cons a l ih=>show ((m7 (l.map fun x=>.bl (p x))).map (p a::·))=_;rw[ih];rfl
 show ((m7 _).bind fun bs=>some (PV.bl (bs.any id)))=_;rw[this];simp[Ou,Ox]
def oK:List Nat:=[97,98,99,100,101,102,103,104,105,106,107,108,109,110,111,112,113,114,115,116,117,118,119,120,121,122]
theorem sa:(LB "abcdefghijklmnopqrstuvwxyz")=mkS oK:=by decide +kernel
theorem Fv(c:Nat):decide (c∈oK)=(decide (97<=c) && decide (c<=122)):=by
 by_cases h:97<=c/\c<=122
 ·have:c∈oK:=by
   obtain⟨h1,h2⟩:=h;have:c=97\/c=98\/c=99\/c=100\/c=101\/c=102\/c=103\/c=104\/c=105\/c=106\/c=107\/c=108\/c=109\/c=110\/c=111\/c=112\/c=113\/c=114\/c=115\/c=116\/c=117\/c=118\/c=119\/c=120\/c=121\/c=122:=by omega
   simp only[oK,LJ,Ln,or_false];exact this
  rw[decide_eq_true this,decide_eq_true h.1,decide_eq_true h.2];rfl
 ·have:c ∉ oK:=fun m=>h (by
   have:∀d∈oK,97<=d/\d<=122:=by decide
   exact this c m)
  rw[decide_eq_false this]
  symm
  rw[Bool.and_eq_false_iff]
  by_cases h1:97<=c
  ·exact .inr (decide_eq_false fun z=>h ⟨h1,z⟩)
  ·exact .inl (decide_eq_false h1)
theorem lG(x:List Nat)(m:Nat)(hx:x.length<=16777216):aX [.str (mkS x),.int m]=some (.bl (cE m x)):=by
 refine aG rfl ?_;have e1:jm (.str (mkS x))=some (x.map sgn):=WO.it_mk x
 have e2:∀ρ:PSt,bz (ak 0) gN fS (.no::ρ) (x.map sgn)=.ok (x.map fun c=>.bl (decide (c∈oK))):=fun ρ=>WO.in_list_comp _ x fun c _=>⟨.val (sgn c)::ρ,rfl,by
  have:=WO.in_one c oK;simp[fS,c_SMALL_LETTERS,sa];rw[show gIn (.str ⟨#[c]⟩) (.str (mkS oK))=_ from this];rfl⟩
 have e3:=yt (fun c=>decide (c∈oK)) x;have e4:(x.map fun c=>PV.bl (decide (c∈oK))).length<=16777216:=by simpa using hx
 have e5:(x.all fun c=>decide (c∈oK))=x.all fun c=>decide (97<=c) && decide (c<=122):=by congr 1;funext c;exact Fv c
 unfold cE
 by_cases h1:1<=x.length
 ·have i1:decide ((1:Int)<=(x.length:Int))=true:=decide_eq_true (by omega)
  by_cases h2:x.length<=m
  ·have i2:decide ((x.length:Int)<=(m:Int))=true:=decide_eq_true (by omega)
   simp only[decide_eq_true h1,decide_eq_true h2,Nt];simp[dF,PU.start,fw hx,i1,h2,e1,e2,e3,e5,hx,d8]
  ·have i2:decide ((x.length:Int)<=(m:Int))=false:=decide_eq_false (by omega)
   simp only[decide_eq_true h1,decide_eq_false h2,Nt,O4];simp[dF,PU.start,fw hx,i1,h2]
 ·have i1:decide ((1:Int)<=(x.length:Int))=false:=decide_eq_false (by omega)
  simp only[decide_eq_false h1,O4];simp[dF,PU.start,fw hx,i1]
theorem lC{x y:List Nat}:(mkS x=mkS y)=(x=y):=by
 refine propext ⟨fun h=>?_,fun h=>by rw[h]⟩;have:=congrArg (fun s:Str=>s.cps.toList) h;simpa using this
def eV(x:List Nat):Bool:=cE 8 x && !decide (x=[98,97,99,107])
theorem oG:LB "back"=mkS [98,97,99,107]:=by decide +kernel
theorem FU(x:List Nat)(hx:x.length<=16777216):ib [.str (mkS x)]=some (.bl (eV x)):=by
 refine aG rfl ?_;have e:aX [.str (mkS x),.int 8]=_:=lG x 8 hx;unfold eV;cases h:cE 8 x with
 | true=>rw[h] at e;simp[jq,PU.start,e,oG,lC]
 | false=>rw[h] at e;simp[jq,PU.start,e]
theorem FT(x:List Nat)(hx:x.length<=16777216):jw [.str (mkS x)]=some (.bl (cE 12 x)):=by
 refine aG rfl ?_;have e:aX [.str (mkS x),.int 12]=_:=lG x 12 hx;simp[lO,PU.start,e]
def bp:List Nat:=[48,49,50,51,52,53,54,55,56,57,42,35]
theorem o9:LB "0123456789*#"=mkS bp:=by decide +kernel
def lH:List Nat->Bool
 | [c]=>decide (c∈bp)
 | _=>false
theorem IT(x:List Nat)(hx:x.length<=16777216):jx [.str (mkS x)]=some (.bl (lH x)):=by
 refine aG rfl ?_
 match x,hx with
 | [],hx=>simp[jr,PU.start,fw hx,lH]
 | [c],hx=>
  have e:gIn (.str (mkS [c])) (.str (mkS bp))=_:=WO.in_one c bp;simp[jr,PU.start,fw hx,lH,c_KEYS,o9,e]
 | c::d::r,hx=>
  have h:¬ ((r.length:Int)+1+1=1):=by omega
  simp[jr,PU.start,fw hx,lH,h]
def CP(c:Nat):Bool:=decide (32<=c) && decide (c<=126) && !decide (c=37)
theorem B4(a b:Nat):decide (([a]:List Nat)<[b])=decide (a<b):=by rw[StrLaws.lt_cons_cons,StrLaws.lt_nil_nil,O5,OJ]
theorem rj(c:Nat):cZ [sgn c]=some (.bl (CP c)):=by
 refine aG rfl ?_
 have b1:gLe (.str " ") (sgn c)=some (.bl (decide (32<=c))):=by
  show some (PV.bl (!decide (([c]:List Nat)<(LB " ").cps.toList)))=_;rw[show (LB " ").cps.toList=[32] by decide +kernel];rw[B4]
  congr 2
  by_cases h:32<=c
  ·rw[decide_eq_true h,decide_eq_false (by omega)];rfl
  ·rw[decide_eq_false h,decide_eq_true (by omega)];rfl
 have b2:gLe (sgn c) (.str "~")=some (.bl (decide (c<=126))):=by
  show some (PV.bl (!decide ((LB "~").cps.toList<([c]:List Nat))))=_;rw[show (LB "~").cps.toList=[126] by decide +kernel];rw[B4]
  congr 2
  by_cases h:c<=126
  ·rw[decide_eq_true h,decide_eq_false (by omega)];rfl
  ·rw[decide_eq_false h,decide_eq_true (by omega)];rfl
 have b3:GP (sgn c)=some (.int c):=rfl;have b4:((c:Int)=37)=(c=37):=propext ⟨fun h=>by omega,fun h=>by omega⟩;unfold CP;cases h1:decide (32<=c) with
 | false=>rw[h1] at b1;simp[cm,PU.start,b1]
 | true=>
  rw[h1] at b1;cases h2:decide (c<=126) with
  | false=>rw[h2] at b2;simp[cm,PU.start,b1,b2]
  | true=>rw[h2] at b2;simp[cm,PU.start,b1,b2,b3,c_PER_CENT,b4]
def k8(x:List Nat):Bool:=decide (1<=x.length) && decide (x.length<=80) && x.all CP
theorem CQ(x:List Nat)(hx:x.length<=16777216):iu [.str (mkS x)]=some (.bl (k8 x)):=by
 refine aG rfl ?_;have e1:jm (.str (mkS x))=some (x.map sgn):=WO.it_mk x;have e2:∀ρ:PSt,bz (ak 0) gN ie (.no::ρ) (x.map sgn)=.ok (x.map fun c=>.bl (CP c)):=fun ρ=>WO.in_list_comp _ x fun c _=>⟨.val (sgn c)::ρ,rfl,by simp[ie,rj c]⟩;have e3:=yt CP x;unfold k8
 by_cases h1:1<=x.length
 ·have i1:decide ((1:Int)<=(x.length:Int))=true:=decide_eq_true (by omega)
  by_cases h2:x.length<=80
  ·have i2:decide ((x.length:Int)<=80)=true:=decide_eq_true (by omega)
   simp only[decide_eq_true h1,decide_eq_true h2,Nt];simp[fZ,PU.start,fw hx,i1,i2,e1,e2,e3,hx,d8]
  ·have i2:decide ((x.length:Int)<=80)=false:=decide_eq_false (by omega)
   simp only[decide_eq_true h1,decide_eq_false h2,Nt,O4];simp[fZ,PU.start,fw hx,i1,i2]
 ·have i1:decide ((1:Int)<=(x.length:Int))=false:=decide_eq_false (by omega)
  simp only[decide_eq_false h1,O4];simp[fZ,PU.start,fw hx,i1]
def lW:List Nat:=[48,49,50,51,52,53,54,55,56,57]
theorem D8:LB "0123456789"=mkS lW:=by decide +kernel
theorem Cy{c:Nat}:c∈lW ↔ 48<=c/\c<=57:=by
 constructor
 ·intro h
  have:∀d∈lW,48<=d/\d<=57:=by decide
  exact this c h
 ·intro ⟨h1,h2⟩
  have:c=48\/c=49\/c=50\/c=51\/c=52\/c=53\/c=54\/c=55\/c=56\/c=57:=by omega
  simp only[lW,LJ,Ln,or_false];exact this
def rl(x:List Nat):Bool:=!x.isEmpty && (x.all fun c=>decide (c∈lW)) && (decide (x=[48]) || !decide (x.head?=some 48))
theorem jA:LB ""=mkS []:=by decide +kernel
theorem pO:LB "0"=mkS [48]:=by decide +kernel
theorem xy(x:List Nat)(hx:x.length<=16777216):fF [.str (mkS x)]=some (.bl (rl x)):=by
 refine aG rfl ?_;have e1:jm (.str (mkS x))=some (x.map sgn):=WO.it_mk x
 have e2:∀ρ:PSt,bz (ak 0) gN dv (.no::ρ) (x.map sgn)=.ok (x.map fun c=>.bl (decide (c∈lW))):=fun ρ=>WO.in_list_comp _ x fun c _=>⟨.val (sgn c)::ρ,rfl,by
  have:=WO.in_one c lW;simp[dv,c_FIGURES,D8];rw[show gIn (.str ⟨#[c]⟩) (.str (mkS lW))=_ from this];rfl⟩
 have e3:=yt (fun c=>decide (c∈lW)) x
 have ec:∀ρ:PSt,un1 (dI (itF (a8 0)) (ak 0) gN dv 1 []) CW (.val (.str (mkS x))::ρ)=.ok (.bl (x.all fun c=>decide (c∈lW))):=fun ρ=>by
  simp[e1,e2,e3,d8,hx]
 clear e1 e2 e3;unfold rl;cases x with
 | nil=>simp[cM,PU.start,jA,lC]
 | cons c r=>
  have e4:gIx (.str (mkS (c::r))) (.int 0)=some (sgn c):=nv (by rw[cj];exact hx) (by rw[aD];exact bW (i:=0) rfl rfl);have e5:(⟨#[c]⟩:Str)=mkS [c]:=rfl;cases ha:((c::r).all fun c=>decide (c∈lW)) with
  | false=>
   rw[ha] at ec;simp[-vn,cM,PU.start,jA,lC,ec]
  | true=>
   rw[ha] at ec;cases h0:decide (c::r=[48]) with
   | true=>
    have h1:c=48/\r=[]:=by simpa using of_decide_eq_true h0
    obtain⟨rfl,rfl⟩:=h1;simp[-vn,cM,PU.start,jA,pO,lC,ec]
   | false=>
    have h1:¬ (c=48/\r=[]):=by simpa using of_decide_eq_false h0
    simp[-vn,cM,PU.start,jA,pO,lC,ec,e4,e5,h1]
open PySem.NumText in
def nw(lo hi L:Nat)(x:List Nat):PV:=if rl x=true/\x.length<=L then (if lo<=digitsVal x/\digitsVal x<=hi then .int (digitsVal x) else .non) else .non
open PySem.NumText in
theorem i6(x:List Nat)(lo hi L:Nat)(t:Str)(hx:x.length<=16777216)(h1:xG (.int hi)=some (.str t))(h2:iC (.str t)=some (.int L))(h3:L<=600):aO [.str (mkS x),.int lo,.int hi]=some (nw lo hi L x):=by
 refine aG rfl ?_;have e:=xy x hx;unfold nw;cases hf:rl x with
 | false=>
  rw[hf] at e;simp[bj,PU.start,e]
 | true=>
  rw[hf] at e
  by_cases hl:x.length<=L
  ·have g1:¬ ((L:Int)<(x.length:Int)):=by omega
   have hd:AllDigits x:=by
    have hf:=hf;unfold rl at hf;simp only[M6] at hf;intro c hc;exact Cy.mp (of_decide_eq_true (MY.mp hf.1.2 c hc))
   have hne:x≠[]:=fun z=>by subst z;cases hf
   have ei:CV (.str (mkS x))=some (.int (digitsVal x:Nat)):=by
    show (if (mkS x).length<=640 then (Qz (mkS x)).map PV.int else none)=_;rw[if_pos (by rw[cj];omega),intText_digits (x:=mkS x) (by rw[aD];exact hd) (by rw[aD];exact hne) (by rw[cj];omega),aD];rfl
   rw[if_pos ⟨rfl,hl⟩]
   by_cases a1:lo<=digitsVal x
   ·have i1:decide ((lo:Int)<=(digitsVal x:Int))=true:=decide_eq_true (by omega)
    by_cases a2:digitsVal x<=hi
    ·have i2:decide ((digitsVal x:Int)<=(hi:Int))=true:=decide_eq_true (by omega)
     simp[bj,PU.start,e,fw hx,h1,h2,Oi.mpr hl,ei,a1,a2]
    ·simp[bj,PU.start,e,fw hx,h1,h2,Oi.mpr hl,ei,a1,a2]
   ·simp[bj,PU.start,e,fw hx,h1,h2,Oi.mpr hl,ei,a1]
  ·rw[if_neg fun z=>hl z.2]
   simp[bj,PU.start,e,fw hx,h1,h2,Nat.lt_of_not_le hl]
inductive Fd where
 | name | target | word | key | lkey | letters | text | many | from_ | till
deriving DecidableEq
def Fd.s:Fd->Str
 | .name=>"name" | .target=>"target" | .word=>"word" | .key=>"key" | .lkey=>"letters key" | .letters=>"letters" | .text=>"text" | .many=>"many" | .from_=>"from" | .till=>"till"
def okB(b:Bool)(x:List Nat):PV:=if b=true then .str (mkS x) else .non
def fv:Fd->List Nat->PV
 | .name,x=>okB (eV x) x
 | .target,x=>okB (eV x || decide (x=[98,97,99,107])) x
 | .word,x=>okB (cE 12 x) x
 | .key,x=>okB (lH x) x
 | .lkey,x=>okB (lH x && !decide (x=[35])) x
 | .letters,x=>okB (cE 26 x) x
 | .text,x=>okB (k8 x) x
 | .many,x=>nw 1 9 1 x
 | .from_,x=>nw 0 23 2 x
 | .till,x=>nw 1 24 2 x
theorem Ag(f t:Fd):(f.s=t.s)=(f=t):=by
 refine propext ⟨fun h=>?_,fun h=>by rw[h]⟩;have:∀f t:Fd,decide (f.s=t.s)=true->f=t:=by intro f t;cases f <;> cases t <;> decide +kernel
 exact this f t (decide_eq_true h)
theorem oq (f:Fd):(f.s=LB "many")=(f=.many):=Ag f .many
theorem ow (f:Fd):(f.s=LB "from")=(f=.from_):=Ag f .from_
theorem xR (f:Fd):(f.s=LB "till")=(f=.till):=Ag f .till
theorem gz (f:Fd):(f.s=LB "name")=(f=.name):=Ag f .name
theorem dG (f:Fd):(f.s=LB "target")=(f=.target):=Ag f .target
theorem jW (f:Fd):(f.s=LB "word")=(f=.word):=Ag f .word
theorem qo (f:Fd):(f.s=LB "key")=(f=.key):=Ag f .key
theorem ou (f:Fd):(f.s=LB "letters key")=(f=.lkey):=Ag f .lkey
theorem n0 (f:Fd):(f.s=LB "letters")=(f=.letters):=Ag f .letters
def fB(f:Fd)(x:List Nat):Bool:=match f with
 | .name=>eV x
 | .target=>eV x || decide (x=[98,97,99,107])
 | .word=>cE 12 x
 | .key=>lH x
 | .lkey=>lH x && !decide (x=[35])
 | .letters=>cE 26 x
 | _=>k8 x
theorem fits(f:Fd)(x:List Nat)(hx:x.length<=16777216)(h:f≠.many/\f≠.from_/\f≠.till):sW [.str f.s,.str (mkS x)]=some (.bl (fB f x)):=by
 refine aG rfl ?_;have hb:LB "#"=mkS [35]:=by decide +kernel
 have e26:aX [.str (mkS x),.int 26]=_:=lG x 26 hx;have e1:=FU x hx;have e2:=FT x hx;have e3:=IT x hx;have e4:=CQ x hx;cases f with
 | many=>exact absurd rfl h.1
 | from_=>exact absurd rfl h.2.1
 | till=>exact absurd rfl h.2.2
 | name=>simp[i8,fB,PU.start,gz,e1]
 | target=>
  cases hn:eV x with
  | true=>rw[hn] at e1;simp[i8,fB,PU.start,gz,dG,e1,hn]
  | false=>rw[hn] at e1;simp[i8,fB,PU.start,gz,dG,e1,oG,lC,hn]
 | word=>simp[i8,fB,PU.start,gz,dG,jW,e2]
 | key=>simp[i8,fB,PU.start,gz,dG,jW,qo,e3]
 | lkey=>
  cases hn:lH x with
  | true=>rw[hn] at e3;simp[i8,fB,PU.start,gz,dG,jW,qo,ou,e3,hb,lC,hn]
  | false=>rw[hn] at e3;simp[i8,fB,PU.start,gz,dG,jW,qo,ou,e3,hn]
 | letters=>simp[i8,fB,PU.start,gz,dG,jW,qo,ou,n0,e26]
 | text=>simp[i8,fB,PU.start,gz,dG,jW,qo,ou,n0,e4]
theorem uN(f:Fd)(x:List Nat)(hx:x.length<=16777216):eB [.str f.s,.str (mkS x)]=some (fv f x):=by
 refine aG rfl ?_;have e1:aO [.str (mkS x),.int 1,.int 9]=_:=i6 x 1 9 1 (Pz (9:Int)) hx rfl (by rw[gR (by decide +kernel)];exact congrArg (fun n:Nat=>some (PV.int n)) (by decide +kernel)) (by decide);have e2:aO [.str (mkS x),.int 0,.int 23]=_:=i6 x 0 23 2 (Pz (23:Int)) hx rfl (by rw[gR (by decide +kernel)];exact congrArg (fun n:Nat=>some (PV.int n)) (by decide +kernel)) (by decide);have e3:aO [.str (mkS x),.int 1,.int 24]=_:=i6 x 1 24 2 (Pz (24:Int)) hx rfl (by rw[gR (by decide +kernel)];exact congrArg (fun n:Nat=>some (PV.int n)) (by decide +kernel)) (by decide)
 by_cases a1:f=.many
 ·subst a1;simp[cx,PU.start,oq,e1,fv]
 by_cases a2:f=.from_
 ·subst a2;simp[cx,PU.start,oq,ow,e2,fv]
 by_cases a3:f=.till
 ·subst a3;simp[cx,PU.start,oq,ow,xR,e3,fv]
 have ef:=fits f x hx ⟨a1,a2,a3⟩;generalize hb:fB f x=b at ef
 have hv:fv f x=okB b x:=by
  cases f <;> first | (rw[← hb];rfl) | exact absurd rfl a1 | exact absurd rfl a2 | exact absurd rfl a3
 rw[hv];cases b <;> simp[cx,PU.start,oq,ow,xR,a1,a2,a3,ef,okB]
inductive Kd where
 | first | letters | menu | key | names | name | hours | from_ | hand | fin
deriving DecidableEq
def Kd.c:Kd->List Nat
 | .first=>[102,105,114,115,116] | .letters=>[108,101,116,116,101,114,115] | .menu=>[109,101,110,117] | .key=>[107,101,121] | .names=>[110,97,109,101,115]
 | .name=>[110,97,109,101] | .hours=>[104,111,117,114,115] | .from_=>[102,114,111,109] | .hand=>[104,97,110,100] | .fin=>[101,110,100]
def Kd.s:Kd->Str
 | .first=>"first" | .letters=>"letters" | .menu=>"menu" | .key=>"key" | .names=>"names" | .name=>"name" | .hours=>"hours" | .from_=>"from" | .hand=>"hand" | .fin=>"end"
def Kd.fs:Kd->List Fd
 | .first=>[.name] | .letters=>[.lkey,.letters] | .menu=>[.name,.many,.name,.many,.name,.text] | .key=>[.key,.target] | .names=>[.name,.many,.name,.many,.name,.text]
 | .name=>[.word,.name] | .hours=>[.name,.name] | .from_=>[.from_,.till,.name] | .hand=>[.name,.text] | .fin=>[.name,.text]
theorem FH(k:Kd):k.s=mkS k.c:=by cases k <;> decide +kernel
theorem xr(k:Kd):32 ∉ k.c:=by cases k <;> decide
def fvs(fs:List Fd)(xs:List (List Nat)):List PV:=List.zipWith fv fs xs
def lF:PV->Bool
 | .non=>true
 | _=>false
def rv(k:Kd)(x:List Nat):PV:=if ((TX.spl 32 k.fs.length x).drop 1).length<k.fs.length then .non else if (fvs k.fs ((TX.spl 32 k.fs.length x).drop 1)).any lF=true then .non else .lst (fvs k.fs ((TX.spl 32 k.fs.length x).drop 1))
theorem IZ(f:Fd)(x:List Nat):lE (fv f x)=true:=by
 have h1:∀b,lE (okB b x)=true:=fun b=>by unfold okB;split <;> rfl
 have h2:∀a b c,lE (nw a b c x)=true:=fun a b c=>by unfold nw;split <;> (try split) <;> rfl
 cases f <;> first | exact h1 _ | exact h2 _ _ _
theorem Fm:∀vs:List PV,(∀v∈vs,lE v=true)->gIn .non (.lst vs)=some (.bl (vs.any lF)):=fun vs h=>by
 show (if lE PV.non=true/\vs.all lE=true then some (PV.bl (inV (scV .non) (vs.map scV))) else none)=_;rw[if_pos ⟨rfl,MY.mpr h⟩]
 congr 2
 induction vs with
 | nil=>rfl
 | cons v vs ih=>
  have:=ih fun v hv=>h v (Lq _ hv);have hv:=h v Lp
  have go:∀v:PV,inV (scV .non) [scV v]=lF v->inV (scV .non) ((v::vs).map scV)=(v::vs).any lF:=fun v e=>by
   rw[Nh,← this,← e,LQ];simp[inV]
  cases v with
  | non=>exact go _ rfl
  | bl b=>exact go _ rfl
  | int i=>exact go _ rfl
  | str x=>exact go _ rfl
  | _=>cases hv
theorem qN(c:Nat):∀(k:Nat)(l:List Nat),(TX.spl c k l).length<=k+1
 | 0,l=>by simp[TX.spl]
 | k+1,l=>by
  unfold TX.spl
  split
  ·simp
  ·have:=qN c k ‹_›
   simp;omega
theorem rY(c:Nat):∀(k:Nat)(l:List Nat),∀y∈TX.spl c k l,y.length<=l.length
 | 0,l=>by simp[TX.spl]
 | k+1,l=>by
  unfold TX.spl
  split
  ·simp
  ·rename_i d r e
   intro y hy;rcases LJ.mp hy with rfl | hy
   ·exact(List.takeWhile_sublist _).length_le
   ·have h1:=rY c k r y hy
    have h2:(l.dropWhile (· != c)).length<=l.length:=(List.dropWhile_sublist _).length_le;rw[e] at h2;simp at h2;omega
theorem kT:LB " "=(⟨#[32]⟩:Str):=by decide +kernel
theorem Ey (x:List Nat) (n:Nat) (hx:x.length<=16777216) (hn:n<=100):oo (.str (mkS x)) (.str " ") (.int n)=some (.lst ((TX.spl 32 n x).map fun y=>.str (mkS y))):=by
 have e:=TX.splitMax_eq (c:=32) (by decide) (mkS x) n;rw[aD] at e;show (if _/\_/\_/\(Txt.splitMax (mkS x) (LB " ") n).length<=16777216 then some (PV.lst ((Txt.splitMax (mkS x) (LB " ") n).map .str)) else none)=_;rw[kT,e];have hl:=qN 32 n x;rw[if_pos ⟨by decide +kernel,by rw[cj];exact hx,by omega,by rw[LI];omega⟩,M4];rfl
theorem IC(k:Kd):ka (.str k.s) c_FIELDS=some (.bl false):=by cases k <;> rfl
theorem IA(k:Kd):gIx c_FIELDS (.str k.s)=some (.tup (k.fs.map fun f=>.str f.s)):=by cases k <;> rfl
theorem E3(fs:List Fd)(ps:List (List Nat)):(ve (fs.map fun f=>.str f.s) (ps.map fun y=>.str (mkS y))).map PV.tup=(fs.zip ps).map fun q=>.tup [.str q.1.s,.str (mkS q.2)]:=by
 unfold ve;rw[List.zipWith_map,List.zip,PR,PR]
theorem D6(fs:List Fd)(q:Bool):((fs.map fun f=>PV.str f.s).all ia || q)=true:=by rw[qm];rfl
theorem vY(k:Kd)(x:List Nat)(hx:x.length<=16777216):fE [.str k.s,.str (mkS x)]=some (rv k x):=by
 refine aG rfl ?_;have hf:k.fs.length<=6:=by cases k <;> decide
 have e1:=IC k;have e2:=IA k;have e3:=Ey x k.fs.length hx (by omega);have e4:iC (.tup (k.fs.map fun f=>.str f.s))=some (.int k.fs.length):=by show some (PV.int (k.fs.map fun f=>PV.str f.s).length)=_;rw[LI]
 have hs:=rY 32 k.fs.length x;have hl:=qN 32 k.fs.length x
 have e5:yi ((TX.spl 32 k.fs.length x).map fun y=>PV.str (mkS y)) (some 1) none=((TX.spl 32 k.fs.length x).drop 1).map fun y=>.str (mkS y):=by
  unfold yi;generalize TX.spl 32 k.fs.length x=l;cases l with
  | nil=>rfl
  | cons a l=>simp[HT.sIx];exact OU (by simp)
 unfold rv;generalize hps:(TX.spl 32 k.fs.length x).drop 1=ps at *;have hs:∀y∈ps,y.length<=16777216:=fun y hy=>MR (hs y (List.mem_of_mem_drop (hps▸hy))) hx;have hl:ps.length<=k.fs.length:=by rw[← hps,O9];omega
 have e6:bz (gF 2 (aE (ak 0) (aE (ak 1) gJ))) gN du [.no,.no] ((ve (k.fs.map fun f=>.str f.s) (ps.map fun y=>.str (mkS y))).map PV.tup)=.ok (fvs k.fs ps):=by
  rw[E3]
  have:=WO.in_list_comp (enc:=fun q:Fd×List Nat=>PV.tup [.str q.1.s,.str (mkS q.2)]) (h:=gF 2 (aE (ak 0) (aE (ak 1) gJ))) (fe:=du) (ρ:=[.no,.no]) (fun q=>fv q.1 q.2) (k.fs.zip ps) fun q hq=>⟨[.val (.str q.1.s),.val (.str (mkS q.2))],rfl,by
   have:=uN q.1 q.2 (hs _ (Pr hq).2);simp[du,this]⟩
  rw[this];unfold fvs;rw[List.zip,PR]
 have e7:=Fm (fvs k.fs ps) fun v hv=>by
  unfold fvs at hv;rw[show List.zipWith fv k.fs ps=(k.fs.zip ps).map fun q=>fv q.1 q.2 by rw[List.zip,PR]] at hv;obtain⟨q,_,rfl⟩:=M8.mp hv;exact IZ _ _
 have e8:(fvs k.fs ps).length<=16777216:=by unfold fvs;rw[QC];omega
 have e9:=D6 k.fs ((ps.map fun y=>PV.str (mkS y)).all ia);have eb:=CG _ _ e9;have ea:(ve (k.fs.map fun f=>.str f.s) (ps.map fun y=>.str (mkS y))).length<=16777216:=by unfold ve;rw[QC,LI];omega
 by_cases h1:ps.length<k.fs.length
 ·rw[if_pos h1]
  simp[dE,PU.start,e1,e2,e3,e4,e5,h1]
 ·rw[if_neg h1]
  cases h2:(fvs k.fs ps).any lF with
  | true=>rw[h2] at e7;simp[dE,PU.start,e1,e2,e3,e4,e5,h1,e6,e7,e8,eb,ea,d8]
  | false=>rw[h2] at e7;simp[dE,PU.start,e1,e2,e3,e4,e5,h1,e6,e7,e8,eb,ea,d8]
def KyS(s:Str):Prop:=∃c∈bp,s=mkS [c]
def kix(s:Str):Nat:=(TX.pos (s.cps.toList.headD 0) 0 bp).headD 0
theorem xv{s:Str}(h:KyS s):mX c_KEYS (.str s)=some (.int (kix s)):=by
 obtain⟨c,hc,rfl⟩:=h;have e:=TX.occ_pos (mkS bp) c 1
 show (match Lx (LB "0123456789*#") (mkS [c]) 0 (LB "0123456789*#").length 1 with
  | i::_=>some (PV.int i)
  | []=>none)=_
 rw[o9,show mkS [c]=(⟨#[c]⟩:Str) from rfl,e,aD];unfold kix;have:(⟨#[c]⟩:Str).cps.toList.headD 0=c:=rfl;rw[this];have:∀c∈bp,TX.pos c 0 bp≠[]:=by decide
 have h:=this c hc;generalize TX.pos c 0 bp=l at h;cases l with
 | nil=>exact absurd rfl h
 | cons a l=>rfl
def vf(xs:List (Str×Str))(k:Str):Bool:=match xs.getLast? with
 | none=>true
 | some z=>decide (kix z.1<kix k)
def zj(xs:List (Str×Str))(w:Str):Bool:=match xs.getLast? with
 | none=>true
 | some z=>decide (z.1.cps.toList<w.cps.toList)
theorem Cu:FX (.int 1)=some (.int (-1)):=rfl
theorem iY{α:Type}(xs:List α):xs=[]\/∃ys z,xs=ys++[z]:=by
 rcases List.eq_nil_or_concat xs with h | ⟨ys,z,h⟩
 ·exact .inl h
 ·exact .inr ⟨ys,z,by simpa using h⟩
theorem sh (kd:Str) (hkd:kd="letters"\/kd="key") (xs:List (Str×Str)) (H:PV) (hH:H=.lst (xs.map pv2)\/H=.tup (xs.map pv2)) (k:Str) (v:PV) (hx:∀z∈xs,KyS z.1) (hk:KyS k):aU [.str kd,H,.lst [.str k,v]]=some (.bl (vf xs k)):=by
 refine aG rfl ?_;have a1:kd≠LB "from":=by rcases hkd with rfl | rfl <;> decide +kernel
 have a2:kd≠LB "name":=by rcases hkd with rfl | rfl <;> decide +kernel
 have b0:∀a b:PV,atI [a,b] 0=some a:=fun a b=>bW (n:=0) rfl rfl;rcases iY xs with rfl | ⟨ys,z,rfl⟩
 ·rcases hH with rfl | rfl <;> simp[ck,PU.start,a1,vf,kj]
 ·have e1:atI ((ys++[z]).map pv2) (-1)=some (pv2 z):=by rw[MD];exact oI _ _
  have e2:=xv (hx z (by simp));have e3:=xv hk;have e4:vf (ys++[z]) k=decide (kix z.1<kix k):=by unfold vf;rw[NH]
  have e5:((kix z.1:Int)<(kix k:Int))=(kix z.1<kix k):=propext ⟨fun h=>by omega,fun h=>by omega⟩;have e6:kj (.lst ((ys++[z]).map pv2))=some true:=by simp[kj]
  have e7:kj (.tup ((ys++[z]).map pv2))=some true:=by simp[kj]
  have e8:c_KEYS=.str (LB "0123456789*#"):=rfl;rw[e8] at e2 e3;rw[e4];generalize (ys++[z]).map pv2=l at *;rcases hH with rfl | rfl
  ·simp[ck,PU.start,a1,a2,e1,e2,e3,e5,e6,Cu,pv2,e8]
  ·simp[ck,PU.start,a1,a2,e1,e2,e3,e5,e7,Cu,pv2,e8]
theorem zg (xs:List (Str×Str)) (w:Str) (v:PV):aU [.str "name",.tup (xs.map pv2),.lst [.str w,v]]=some (.bl (zj xs w)):=by
 refine aG rfl ?_;have a1:LB "name"≠LB "from":=by decide +kernel
 rcases iY xs with rfl | ⟨ys,z,rfl⟩
 ·simp[ck,PU.start,a1,zj,kj]
 ·have e1:atI ((ys++[z]).map pv2) (-1)=some (pv2 z):=by rw[MD];exact oI _ _
  have e4:zj (ys++[z]) w=decide (z.1.cps.toList<w.cps.toList):=by unfold zj;rw[NH]
  have e7:kj (.tup ((ys++[z]).map pv2))=some true:=by simp[kj]
  have e9:gLt (.str z.1) (.str w)=some (.bl (decide (z.1.cps.toList<w.cps.toList))):=rfl;rw[e4];generalize (ys++[z]).map pv2=l at *;simp[ck,PU.start,a1,e1,e7,Cu,pv2,e9]
theorem zh (H v:PV) (a b:Int):aU [.str "from",H,.lst [.int a,.int b,v]]=some (.bl (decide (a<b))):=by
 refine aG rfl ?_;simp[ck,PU.start]
def Room.kd:Room->Kd
 | .menu ..=>.menu | .names ..=>.names | .hours ..=>.hours | .hand _=>.hand | .fin _=>.fin
def aH:Room->List PV
 | .menu _ ks _ _=>ks.map pv2 | .names _ ks _ _=>ks.map pv2 | .hours sp _=>sp.map pv3 | _=>[]
theorem CS(r:Room):dr [r.pv]=some (.tup (aH r)):=by
 refine aG rfl ?_;have n1:LB "menu"≠LB "hours":=by decide +kernel
 have n2:LB "names"≠LB "hours":=by decide +kernel
 have n3:LB "hand"≠LB "hours":=by decide +kernel
 have n4:LB "end"≠LB "hours":=by decide +kernel
 have i1:gIn (.str "menu") c_BENEATH=some (.bl true):=rfl;have i2:gIn (.str "names") c_BENEATH=some (.bl true):=rfl;have i3:gIn (.str "hand") c_BENEATH=some (.bl false):=rfl;have i4:gIn (.str "end") c_BENEATH=some (.bl false):=rfl;cases r <;> simp[fR,PU.start,Room.pv,aH,n1,n2,n3,n4,i1,i2,i3,i4]
def gj:Room->List PV->PV
 | .menu t _ a b,h=>.tup [.str "menu",.str t,.tup h,pvI a,pvI b]
 | .names t _ a b,h=>.tup [.str "names",.str t,.tup h,pvI a,pvI b]
 | .hours _ l,h=>.tup [.str "hours",.tup h,.str l]
 | _,_=>.non
theorem qJ(r:Room)(h:List PV)(hr:(∀t,r≠.hand t)/\∀t,r≠.fin t):df [r.pv,.tup h]=some (gj r h):=by
 refine aG rfl ?_;have n1:LB "menu"≠LB "hours":=by decide +kernel
 have n2:LB "names"≠LB "hours":=by decide +kernel
 have a3:∀a b c d e:PV,atI [a,b,c,d,e] 3=some d:=fun _ _ _ _ _=>bW (n:=3) rfl rfl;have a4:∀a b c d e:PV,atI [a,b,c,d,e] 4=some e:=fun _ _ _ _ _=>bW (n:=4) rfl rfl;cases r with
 | hand t=>exact absurd rfl (hr.1 t)
 | fin t=>exact absurd rfl (hr.2 t)
 | menu t ks a b=>simp[eW,PU.start,Room.pv,gj,n1,a3,a4]
 | names t ks a b=>simp[eW,PU.start,Room.pv,gj,n2,a3,a4]
 | hours sp l=>simp[eW,PU.start,Room.pv,gj]
theorem tH(k:Kd)(hk:k=.menu\/k=.names)(n an bn t:Str)(a b:Int):bJ [.str k.s,.lst [.str n,.int a,.str an,.int b,.str bn,.str t]]=some (.tup [.str k.s,.str t,.tup [],pvI (a,an),pvI (b,bn)]):=by
 refine aG rfl ?_;have n1:LB "menu"≠LB "hours":=by decide +kernel
 have n2:LB "names"≠LB "hours":=by decide +kernel
 have i1:gIn (.str "menu") c_BENEATH=some (.bl true):=rfl;have i2:gIn (.str "names") c_BENEATH=some (.bl true):=rfl;have a3:∀a b c d e f:PV,atI [a,b,c,d,e,f] 3=some d:=fun _ _ _ _ _ _=>bW (n:=3) rfl rfl;have a4:∀a b c d e f:PV,atI [a,b,c,d,e,f] 4=some e:=fun _ _ _ _ _ _=>bW (n:=4) rfl rfl;have a5:∀a b c d e f:PV,atI [a,b,c,d,e,f] 5=some f:=fun _ _ _ _ _ _=>bW (n:=5) rfl rfl;rcases hk with rfl | rfl <;> simp[eZ,PU.start,Kd.s,n1,n2,i1,i2,a3,a4,a5,pvI]
theorem uY(n t:Str):bJ [.str Kd.hours.s,.lst [.str n,.str t]]=some (Room.pv (.hours [] t)):=by
 refine aG rfl ?_;simp[eZ,PU.start,Kd.s,Room.pv]
theorem tJ(k:Kd)(hk:k=.hand\/k=.fin)(n t:Str):bJ [.str k.s,.lst [.str n,.str t]]=some (.tup [.str k.s,.str t]):=by
 refine aG rfl ?_;have n3:LB "hand"≠LB "hours":=by decide +kernel
 have n4:LB "end"≠LB "hours":=by decide +kernel
 have i3:gIn (.str "hand") c_BENEATH=some (.bl false):=rfl;have i4:gIn (.str "end") c_BENEATH=some (.bl false):=rfl;rcases hk with rfl | rfl <;> simp[eZ,PU.start,Kd.s,n3,n4,i3,i4]
theorem b5{m n:Nat}{g:PSt->XO Fb}{t t':Tr}{qs:List PV}{p:PV}{ρ:PSt}(hm:qs.length+1=m)(e:g (.tree t::PU.start (n-1) qs)=.ok (.ret p) (.tree t'::ρ)):yz m n g t qs=some (p,t'):=by
 unfold yz;rw[if_pos hm,e];rfl
@[simp] theorem Hc{p:PV}{ρ:PSt}:lN 0 (.tree (.leaf p)::ρ)=.ok p:=by unfold lN;exact Lr _
theorem vo{ks:List Key}{ps:List PV}{ρ:PSt}{fk fv:PSt->R PV}{p x:PV}{k:Key}(e1:fv (.tree (.leaf (.dct ks ps))::ρ)=.ok p)(e2:fk (.tree (.leaf (.dct ks ps))::ρ)=.ok x)(e3:gm x=some k)(hl:ks.length<16777216) :
  vE (.whole 0) fk fv (.tree (.leaf (.dct ks ps))::ρ)=.ok .next (.tree (.leaf (ur ks ps k p))::ρ):=by
 show (XO.rd _ (fv _)).bind _=_;rw[e1];show (XO.rd _ (fk _)).bind _=_;rw[e2]
 show (match gm x with
  | none=>_
  | some k=>_)=_
 rw[e3];show (if ks.length<16777216 then _ else _)=_;rw[if_pos hl];rfl
def aq (h:House):Tr:=.node [.inr "first",.inr "letters",.inr "rooms"] [.val (.str h.first),.own (.lst (h.letters.map pv2)),.own (ag h.rooms)]
theorem sk(rs:List (Str×Room))(n:Str)(r:Room)(h:n ∉ FA.names rs):DP rs n r=rs++[(n,r)]:=by unfold DP;exact if_neg h
theorem wm(ys:List (Str×Room))(n:Str)(r r':Room)(h:n ∉ FA.names ys):DP (ys++[(n,r)]) n r'=ys++[(n,r')]:=by
 unfold DP;rw[if_pos (by simp),MD]
 congr 1
 ·conv=>rhs;rw[← Qq ys]
  apply Ni;intro x hx;rw[if_neg fun e=>h (by rw[← e];exact NO hx)];rfl
 ·simp
theorem wZ(ys:List (Str×Room))(n:Str)(r:Room)(h:n ∉ FA.names ys):FA.lookR (ys++[(n,r)]) n=some r:=by
 unfold FA.lookR;rw[TQ]
 have:ys.find? (fun r=>decide (r.1=n))=none:=Sx.mpr fun x hx=>by
  have:x.1≠n:=fun e=>h (by rw[← e];exact NO hx);simpa using this
 rw[this];simp
theorem take_room(rs:List (Str×Room))(k:Kd)(n:Str)(vs:List PV)(room:Room)(hv:atI vs 0=some (.str n))(hb:bJ [.str k.s,.lst vs]=some room.pv)(hl:rs.length<=1000000) :
  dh (.leaf (ag rs)) [.str k.s,.lst vs]=some (if rs.length=12\/n∈FA.names rs then (.bl false,.leaf (ag rs)) else (.bl true,.leaf (ag (rs++[(n,room)])))):=by
 have e1:iC (ag rs)=some (.int rs.length):=FA.len_rooms rs;have e2:=FA.in_rooms rs n;have e3:((rs.length:Int)=12)=(rs.length=12):=propext ⟨fun h=>by omega,fun h=>by omega⟩
 by_cases h1:rs.length=12
 ·rw[if_pos (.inl h1)]
  refine b5 rfl (ρ:=[.val (.str k.s),.val (.lst vs)]) ?_;simp[eX,PU.start,e1,c_MOST_ROOMS,e3,h1]
 ·by_cases h2:n∈FA.names rs
  ·rw[if_pos (.inr h2)]
   rw[decide_eq_true h2] at e2;refine b5 rfl (ρ:=[.val (.str k.s),.val (.lst vs)]) ?_;simp[eX,PU.start,e1,c_MOST_ROOMS,e3,h1,hv,e2]
  ·rw[if_neg fun z=>z.elim h1 h2]
   rw[decide_eq_false h2] at e2;refine b5 rfl (ρ:=[.val (.str k.s),.val (.lst vs)]) ?_
   have e4:=vo (ks:=rs.map fun r=>.inr r.1) (ps:=rs.map fun r=>r.2.pv) (ρ:=[.val (.str k.s),.val (.lst vs)]) (fk:=ai (a8 2) (kI 0) gIx) (fv:=bg (a7 (a8 1) (a7 (a8 2) aQ)) bJ) (p:=room.pv) (x:=.str n) (k:=.inr n)
    (by simp[hb]) (by simp[hv]) rfl (by rw[LI];omega)
   rw[qR,sk rs n room h2] at e4;have e5:ag rs=.dct (rs.map fun r=>.inr r.1) (rs.map fun r=>r.2.pv):=rfl;rw[← e5] at e4;simp[eX,PU.start,e1,c_MOST_ROOMS,e3,h1,hv,e2,e4]
inductive Bn where
 | key (k t:Str) | name (w t:Str) | span (a b:Int) (t:Str)
def Bn.kd:Bn->Kd
 | .key ..=>.key | .name ..=>.name | .span ..=>.from_
def Bn.vals:Bn->List PV
 | .key k t=>[.str k,.str t] | .name w t=>[.str w,.str t] | .span a b t=>[.int a,.int b,.str t]
def ma:Room->Bn->Option Room
 | .menu t ks a b,.key k g=>if ks.length≠12/\vf ks k=true then some (.menu t (ks++[(k,g)]) a b) else none
 | .names t ks a b,.name w g=>if ks.length≠12/\zj ks w=true then some (.names t (ks++[(w,g)]) a b) else none
 | .hours sp l,.span a b g=>if sp.length≠12/\a<b then some (.hours (sp++[(a,b,g)]) l) else none
 | _,_=>none
def vd:Room->Prop
 | .menu _ ks _ _=>ks.length<=1000000/\∀k∈ks,KyS k.1
 | .names _ ks _ _=>ks.length<=1000000
 | .hours sp _=>sp.length<=1000000
 | _=>True
def BnI:Bn->Prop
 | .key k _=>KyS k
 | _=>True
def ben:Room->Option Kd
 | .menu ..=>some .key | .names ..=>some .name | .hours ..=>some .from_ | _=>none
def JJ:Option Kd->PV
 | some k=>.str k.s
 | none=>.non
theorem Iz(f t:Kd):(f.s=t.s)=(f=t):=by
 refine propext ⟨fun h=>?_,fun h=>by rw[h]⟩;have:∀f t:Kd,decide (f.s=t.s)=true->f=t:=by intro f t;cases f <;> cases t <;> decide +kernel
 exact this f t (decide_eq_true h)
theorem DB(r:Room):∃s,r.pv=.tup (.str s::(match r.pv with | .tup l=>l.drop 1 | _=>[]))/\DY c_BENEATH (.str s)=some (JJ (ben r)):=by
 cases r <;> exact⟨_,rfl,rfl⟩
theorem Fq(o:Option Kd)(k:Kd):gNe (JJ o) (.str k.s)=some (.bl (!decide (o=some k))):=by
 cases o with
 | none=>rfl
 | some j=>
  show gNe (.str j.s) (.str k.s)=_;rw[yR]
  congr 3
  have e:=Iz j k
  by_cases h:j=k
  ·subst h;simp
  ·rw[decide_eq_false (by rw[e];exact h),decide_eq_false (by simpa using h)]
theorem A8(r:Room):iC (.tup (aH r))=some (.int (aH r).length):=rfl
theorem AA(r:Room)(x:Bn)(h:ben r≠some x.kd):ma r x=none:=by
 cases r <;> cases x <;> first | rfl | exact absurd rfl h
theorem Ay(r:Room){s:Str}{l:List PV}(h:r.pv=.tup (.str s::l)):gIx r.pv (.int 0)=some (.str s):=by
 rw[h];exact bW (n:=0) rfl rfl
theorem zi(r:Room)(x:Bn)(hr:vd r)(hx:BnI x)(h:ben r=some x.kd)(hl:(aH r).length≠12) :
  (aU [.str x.kd.s,.tup (aH r),.lst x.vals]=some (.bl true)/\∃r',ma r x=some r'/\df [r.pv,.tup (aH r++[.tup x.vals])]=some r'.pv/\(aH r).length+1<=16777216) ∨
  (aU [.str x.kd.s,.tup (aH r),.lst x.vals]=some (.bl false)/\ma r x=none):=by
 cases r with
 | hand t=>cases x <;> cases h
 | fin t=>cases x <;> cases h
 | menu t ks a b=>
  cases x with
  | name w g=>cases h
  | span c d g=>cases h
  | key k g=>
   have e:=sh "key" (.inr rfl) ks (.tup (ks.map pv2)) (.inr rfl) k (.str g) hr.2 hx;have hl:ks.length≠12:=by simpa [aH] using hl
   cases hk:vf ks k with
   | true=>
    rw[hk] at e;refine .inl ⟨e,_,if_pos ⟨hl,hk⟩,?_,by have:=hr.1;simp[aH];omega⟩;rw[qJ (.menu t ks a b) _ ⟨fun _ z=>(by cases z),fun _ z=>(by cases z)⟩];simp[gj,aH,Room.pv,pv2,Bn.vals]
   | false=>
    rw[hk] at e;exact .inr ⟨e,if_neg fun z=>by rw[hk] at z;cases z.2⟩
 | names t ks a b=>
  cases x with
  | key w g=>cases h
  | span c d g=>cases h
  | name k g=>
   have e:=zg ks k (.str g);have hl:ks.length≠12:=by simpa [aH] using hl
   cases hk:zj ks k with
   | true=>
    rw[hk] at e;refine .inl ⟨e,_,if_pos ⟨hl,hk⟩,?_,by have:ks.length<=1000000:=hr;simp[aH];omega⟩;rw[qJ (.names t ks a b) _ ⟨fun _ z=>(by cases z),fun _ z=>(by cases z)⟩];simp[gj,aH,Room.pv,pv2,Bn.vals]
   | false=>
    rw[hk] at e;exact .inr ⟨e,if_neg fun z=>by rw[hk] at z;cases z.2⟩
 | hours sp l=>
  cases x with
  | key w g=>cases h
  | name c g=>cases h
  | span c d g=>
   have e:=zh (.tup (sp.map pv3)) (.str g) c d;have hl:sp.length≠12:=by simpa [aH] using hl
   by_cases hk:c<d
   ·rw[decide_eq_true hk] at e
    refine .inl ⟨e,_,if_pos ⟨hl,hk⟩,?_,by have:sp.length<=1000000:=hr;simp[aH];omega⟩;rw[qJ (.hours sp l) _ ⟨fun _ z=>(by cases z),fun _ z=>(by cases z)⟩];simp[gj,aH,Room.pv,pv3,Bn.vals]
   ·rw[decide_eq_false hk] at e
    exact .inr ⟨e,if_neg fun z=>hk z.2⟩
theorem yu(r:Room)(x:Bn)(h:(aH r).length=12):ma r x=none:=by
 have hm:∀{α β:Type}{f:α->β}{l:List α},(l.map f).length=12->l.length=12:=fun h=>by rwa [LI] at h
 cases r <;> cases x <;> first | rfl | exact if_neg fun z=>z.1 (hm h)
theorem vF(x:Bn):bw (.leaf (ag [])) [.str x.kd.s,.lst x.vals]=some (.bl false,.leaf (ag [])):=by
 refine b5 rfl (ρ:=[.val (.str x.kd.s),.val (.lst x.vals),.no,.no,.no]) ?_;have e1:kj (ag [])=some false:=rfl;simp[bu,PU.start,e1]
theorem take_beneath(ys:List (Str×Room))(n:Str)(r:Room)(x:Bn)(hn:n ∉ FA.names ys)(hy:ys.length<=1000000)(hr:vd r)(hx:BnI x) :
  bw (.leaf (ag (ys++[(n,r)]))) [.str x.kd.s,.lst x.vals]=some (match ma r x with
   | some r'=>(.bl true,.leaf (ag (ys++[(n,r')])))
   | none=>(.bl false,.leaf (ag (ys++[(n,r)])))):=by
 have e1:kj (ag (ys++[(n,r)]))=some true:=by simp[ag,kj]
 have e2:ju (ag (ys++[(n,r)]))=some (.lst ((ys.map fun r=>PV.str r.1)++[.str n])):=by
  show some (PV.lst (((ys++[(n,r)]).map fun r=>(MU r.1:Key)).map xo))=_;simp[xo,Ox]
 have e3:atI ((ys.map fun r=>PV.str r.1)++[PV.str n]) (-1)=some (.str n):=oI _ _;have e4:gIx (ag (ys++[(n,r)])) (.str n)=some r.pv:=by rw[FA.ix_rooms,wZ ys n r hn];rfl
 obtain⟨s,es,e5⟩:=DB r;have e6:=Ay r es;have e7:=Fq (ben r) x.kd;have e8:=CS r;have e9:A4 c_BENEATH=true:=rfl;have ea:∀fe (g:PV->PV->Option PV) ρ,mdK fe g ρ c_BENEATH=gP (opP g c_BENEATH) (fe ρ):=fun fe g ρ=>by unfold c_BENEATH;simp
 have eb:=A8 r;have ec:(((aH r).length:Int)=12)=((aH r).length=12):=propext ⟨fun h=>by omega,fun h=>by omega⟩;have ed:k9 (.lst x.vals)=some (.tup x.vals):=rfl;have hz:x.vals.length<=3:=by cases x <;> simp[Bn.vals]
 generalize hR:ag (ys++[(n,r)])=R at *
 by_cases h1:ben r=some x.kd
 ·rw[decide_eq_true h1] at e7
  by_cases h2:(aH r).length=12
  ·rw[yu r x h2]
   refine b5 rfl (ρ:=[.val (.str x.kd.s),.val (.lst x.vals),.val (.str n),.val r.pv,.val (.tup (aH r))]) ?_;simp[bu,PU.start,e1,e2,e3,e4,Cu,e5,e6,e7,e8,ea,eb,ec,h2,c_MOST_BENEATH]
  ·rcases zi r x hr hx h1 h2 with⟨f1,r',f2,f3,f4⟩|⟨f1,f2⟩
   ·rw[f2]
    refine b5 rfl (ρ:=[.val (.str x.kd.s),.val (.lst x.vals),.val (.str n),.val r.pv,.val (.tup (aH r))]) ?_
    have g1:=vo (ks:=(ys++[(n,r)]).map fun r=>.inr r.1) (ps:=(ys++[(n,r)]).map fun r=>r.2.pv) (ρ:=[.val (.str x.kd.s),.val (.lst x.vals),.val (.str n),.val r.pv,.val (.tup (aH r))]) (fk:=a8 3)
     (fv:=bg (a7 (a8 4) (a7 (ai (a8 5) (gQ (a7 (un1 (a8 2) k9) aQ)) bD) aQ)) df) (p:=r'.pv) (x:=.str n) (k:=.inr n) (by simp[ed,f3,f4]) (by simp) rfl (by rw[LI,M1];simp;omega)
    rw[qR,wm ys n r r' hn] at g1;have g2:R=.dct ((ys++[(n,r)]).map fun r=>.inr r.1) ((ys++[(n,r)]).map fun r=>r.2.pv):=hR.symm;rw[← g2] at g1;simp[bu,PU.start,e1,e2,e3,e4,Cu,e5,e6,e7,e8,ea,eb,ec,h2,c_MOST_BENEATH,f1,g1]
   ·rw[f2]
    refine b5 rfl (ρ:=[.val (.str x.kd.s),.val (.lst x.vals),.val (.str n),.val r.pv,.val (.tup (aH r))]) ?_;simp[bu,PU.start,e1,e2,e3,e4,Cu,e5,e6,e7,e8,ea,eb,ec,h2,c_MOST_BENEATH,f1]
 ·rw[decide_eq_false h1] at e7
  rw[AA r x h1];refine b5 rfl (ρ:=[.val (.str x.kd.s),.val (.lst x.vals),.val (.str n),.val r.pv,.no]) ?_;simp[bu,PU.start,e1,e2,e3,e4,Cu,e5,e6,e7,ea]
theorem qU(c:Nat):∀(l:List Nat)(i:Nat),(TX.pos c i l).length=l.count c
 | [],_=>rfl
 | y::r,i=>by
  unfold TX.pos;rw[List.count_cons]
  by_cases h:y=c
  ·rw[if_pos h,LS,qU c r,if_pos (by simp[h])]
  ·rw[if_neg h,qU c r,if_neg (by simpa using h),SH]
theorem As(l:List Nat)(c:Nat):qi (.str (mkS l)) (sgn c)=some (.int (l.count c)):=by
 show some (PV.int (((Lx (mkS l) ⟨#[c]⟩ 0 (mkS l).length ((mkS l).length+1)).length:Nat):Int))=_;rw[TX.occ_pos,aD,MS,qU,cj,Nat.min_eq_right (Nat.le_succ_of_le List.count_le_length)]
def bx(ls:List (Str×Str)):List Nat:=ls.flatMap fun l=>l.2.cps.toList
theorem bh(s:Str):s=mkS s.cps.toList:=(TX.mk_list s).symm
theorem mR:∀ls:List (Str×Str),NY "" (ls.map (·.2))=mkS (bx ls)
 | []=>by
  show NY "" []=mkS [];rw[← jB];rfl
 | [a]=>by
  show a.2=mkS (a.2.cps.toList++[]);rw[Mh];exact bh _
 | a::b::r=>by
  have ih:=mR (b::r);have e:NY "" ((a::b::r).map (·.2))=a.2++""++NY "" ((b::r).map (·.2)):=rfl;have e2:bx (a::b::r)=a.2.cps.toList++bx (b::r):=rfl;rw[e,ih,e2,bh a.2,jB,aB,aB,Mh,aD]
def dbl(ls:List (Str×Str))(l:List Nat):Bool:=l.any fun c=>decide (1<(bx ls++l).count c)
def vj(h:House)(k:Str)(l:List Nat):Option House:=if h.rooms=[]/\vf h.letters k=true/\dbl h.letters l=false then some { h with letters:=h.letters++[(k,mkS l)] } else none
theorem nz(h:House):trV (aq h)=h.pv:=rfl
theorem D4 (h:House) (ρ:PSt):xP 0 (.inr "letters") (.tree (aq h)::ρ)=.ok (.lst (h.letters.map pv2)):=by
 show (match cO [.inr "first",.inr "letters",.inr "rooms"] [.val (.str h.first),.own (.lst (h.letters.map pv2)),.own (ag h.rooms)] (.inr "letters") with
  | some (.val p)=>R.ok p
  | some (.own p)=>.ok p
  | none=>.no)=_
 simp[cO]
theorem BP (h:House) (ρ:PSt):uh (.fld 0 (.inr "letters")) (.tree (aq h)::ρ)=some (.leaf (.lst (h.letters.map pv2))):=by
 show (match cO [.inr "first",.inr "letters",.inr "rooms"] [.val (.str h.first),.own (.lst (h.letters.map pv2)),.own (ag h.rooms)] (.inr "letters") with
  | some (.own p)=>some (Tr.leaf p)
  | _=>none)=_
 simp[cO]
theorem C6 (h:House) (ρ:PSt) (ls:List (Str×Str)):gH (.fld 0 (.inr "letters")) (.leaf (.lst (ls.map pv2))) (.tree (aq h)::ρ)=some (.tree (aq { h with letters:=ls })::ρ):=by
 show some (List.set (.tree (aq h)::ρ) 0 (.tree (.node [.inr "first",.inr "letters",.inr "rooms"] (jO [.inr "first",.inr "letters",.inr "rooms"] [.val (.str h.first),.own (.lst (h.letters.map pv2)),.own (ag h.rooms)] (.inr "letters") (.own (.lst (ls.map pv2)))))))=_;simp[jO,aq]
theorem Eb{s:Sel}{f:PSt->R PV}{ρ ρ':PSt}{ps:List PV}{p:PV}(e1:uh s ρ=some (.leaf (.lst ps)))(e2:f ρ=.ok p)(e3:ps.length<16777216)(e4:gH s (.leaf (.lst (ps++[p]))) ρ=some ρ'):Bl s f ρ=.ok .next ρ':=by
 unfold Bl;rw[e1];show (XO.rd ρ (f ρ)).bind _=_;rw[e2];show (if ps.length<16777216 then _ else _)=_;rw[if_pos e3,e4]
theorem qI{α:Type}{f:PSt->R α}{t:Tr}{ρ:PSt}{a:α}(e:f (.val (trV t)::ρ)=.ok a):uE 0 f (.tree t::ρ)=.ok a (.tree t::ρ):=by
 show XO.rd _ (yC (f _))=_;rw[show ((Sl.tree t::ρ).set 0 (.val (trV t)))=.val (trV t)::ρ from rfl,e];rfl
theorem take_letters(h:House)(k:Str)(l:List Nat)(hk:KyS k)(hl:l.length<=100)(hL:h.letters.length<=100000)(hc:∀z∈h.letters,KyS z.1/\z.2.length<=100) :
  bP (aq h) [.lst [.str k,.str (mkS l)]]=some (match vj h k l with
   | some h'=>(.bl true,aq h')
   | none=>(.bl false,aq h)):=by
 have b1:∀a b:PV,atI [a,b] 1=some b:=fun a b=>bW (n:=1) rfl rfl;have r1:gIx h.pv (.str "rooms")=some (ag h.rooms):=by simp[House.pv,mz]
 have r2:gIx h.pv (.str "letters")=some (.lst (h.letters.map pv2)):=by simp[House.pv,mz]
 have r3:kj (ag h.rooms)=some (!h.rooms.isEmpty):=by
  show some (!(h.rooms.map fun r=>(MU r.1:Key)).isEmpty)=_;cases h.rooms <;> rfl
 have e1:=sh "letters" (.inl rfl) h.letters (.lst (h.letters.map pv2)) (.inl rfl) k (.str (mkS l)) (fun z hz=>(hc z hz).1) hk
 by_cases h1:h.rooms=[]
 ·have r3:kj (ag h.rooms)=some false:=by rw[r3,h1];rfl
  cases h2:vf h.letters k with
  | false=>
   rw[h2] at e1;have:vj h k l=none:=if_neg fun z=>by rw[h2] at z;cases z.2.1
   rw[this];refine b5 rfl (ρ:=[.val (.lst [.str k,.str (mkS l)]),.no]) ?_;have:=qI (t:=aq h) (ρ:=[.val (.lst [.str k,.str (mkS l)]),.no]) (f:=orB (bU (ai (a8 0) (kS "rooms") gIx)) (nZ (bU (bg (a7 (kS "letters") (a7 (ai (a8 0) (kS "letters") gIx) (a7 (a8 1) aQ))) aU)))) (a:=true) (by rw[nz];simp[r1,r2,r3,e1]);simp[bO,PU.start,this]
  | true=>
   rw[h2] at e1;have c1:=qI (t:=aq h) (ρ:=[.val (.lst [.str k,.str (mkS l)]),.no]) (f:=orB (bU (ai (a8 0) (kS "rooms") gIx)) (nZ (bU (bg (a7 (kS "letters") (a7 (ai (a8 0) (kS "letters") gIx) (a7 (a8 1) aQ))) aU)))) (a:=false) (by rw[nz];simp[r1,r2,r3,e1])
   have c2:∀ρ:PSt,bz (gF 2 (aE (ak 0) (aE (ak 1) gJ))) gN cH (.no::.no::ρ) (h.letters.map pv2)=.ok (h.letters.map fun l=>.str l.2):=fun ρ=>
    WO.in_list_comp (fun l:Str×Str=>PV.str l.2) h.letters fun x _=>⟨.val (.str x.1)::.val (.str x.2)::ρ,rfl,by simp[cH]⟩
   have c3:=FA.join_le (h.letters.map (·.2)) 100 (fun x hx=>by
    obtain⟨z,hz,rfl⟩:=M8.mp hx;exact(hc z hz).2) (by rw[LI];omega)
   rw[mR,M4] at c3;have c3:lP (.str "") (.lst (h.letters.map fun l=>.str l.2))=some (.str (mkS (bx h.letters))):=c3
   have c4:(mkS (bx h.letters)).length<=10000000:=by
    rw[cj];unfold bx;rw[List.length_flatMap]
    have:∀ls:List (Str×Str),(∀z∈ls,z.2.length<=100)->(ls.map fun l=>l.2.cps.toList.length).sum<=ls.length * 100:=fun ls hz=>by
     induction ls with
     | nil=>simp
     | cons a ls ih=>
      have h1:=ih fun z hm=>hz z (Lq _ hm);have h2:a.2.cps.toList.length<=100:=by have:=hz a Lp;simpa [Nm] using this
      simp only[LQ,Rg,LS];omega
    have:=this h.letters fun z hz=>(hc z hz).2;omega
   have c5:bD (.str (mkS (bx h.letters))) (.str (mkS l))=some (.str (mkS (bx h.letters++l))):=by
    rw[bZ (by rw[cj l];omega),aB]
   have c6:jm (.str (mkS l))=some (l.map sgn):=WO.it_mk l
   have c7:∀ρ:PSt,bz (ak 0) gN cG (.no::.val (.str (mkS (bx h.letters++l)))::ρ) (l.map sgn)=.ok (l.map fun c=>.bl (decide (1<(bx h.letters++l).count c))):=fun ρ=>
    WO.in_list_comp (fun c=>PV.bl (decide (1<(bx h.letters++l).count c))) l fun c _=>⟨.val (sgn c)::.val (.str (mkS (bx h.letters++l)))::ρ,rfl,by
     have:=As (bx h.letters++l) c;generalize bx h.letters++l=q at *
     have g:gGt (.int (q.count c:Nat)) (.int 1)=some (.bl (decide (1<q.count c))):=by
      show some (PV.bl (decide ((1:Int)<(q.count c:Nat))))=_
      congr 2
      exact decide_eq_decide.mpr ⟨fun z=>by omega,fun z=>by omega⟩
     simp[cG,this,g]⟩
   have c8:=Gg (fun c=>decide (1<(bx h.letters++l).count c)) l;have c9:h.letters.length<=16777216:=by omega
   have ca:l.length<=16777216:=by omega
   have cb:=D4 h;have cc:xw (.lst (h.letters.map pv2))=some (h.letters.map pv2):=rfl
   have st1:bS (dN 2 (ai (jh (kS "") (dI (itL (xP 0 (.inr "letters"))) (gF 2 (aE (ak 0) (aE (ak 1) gJ))) gN cH 2 []) lP) (ai (a8 1) (kI 1) gIx) bD)) (.tree (aq h)::[.val (.lst [.str k,.str (mkS l)]),.no]) =
     .ok .next (.tree (aq h)::[.val (.lst [.str k,.str (mkS l)]),.val (.str (mkS (bx h.letters++l)))]):=by
    have i1:itL (xP 0 (.inr "letters")) (.tree (aq h)::[.val (.lst [.str k,.str (mkS l)]),.no])=.ok (h.letters.map pv2):=by
     show (xP 0 (.inr "letters") _ >>= _)=_;rw[cb];rfl
    simp[i1,d8,c2,c3,c5,b1,c9]
   have st2:(un1 (dI (itF (ai (a8 1) (kI 1) gIx)) (ak 0) gN cG 1 [2]) FZ) (.tree (aq h)::[.val (.lst [.str k,.str (mkS l)]),.val (.str (mkS (bx h.letters++l)))])=.ok (.bl (dbl h.letters l)):=by
    simp[-List.count_append,b1,c6,d8,c7,c8,ca,dbl]
   cases h3:dbl h.letters l with
   | true=>
    rw[h3] at st2;have:vj h k l=none:=if_neg fun z=>by rw[h3] at z;cases z.2.2
    rw[this];refine b5 rfl (ρ:=[.val (.lst [.str k,.str (mkS l)]),.val (.str (mkS (bx h.letters++l)))]) ?_;simp only[bO,PU.start,AI];simp[-vp,c1,st1];simp[-vn,st2]
   | false=>
    rw[h3] at st2;have:vj h k l=some { h with letters:=h.letters++[(k,mkS l)] }:=if_pos ⟨h1,h2,h3⟩;rw[this];refine b5 rfl (ρ:=[.val (.lst [.str k,.str (mkS l)]),.val (.str (mkS (bx h.letters++l)))]) ?_
    have ap:=Eb (s:=.fld 0 (.inr "letters")) (f:=gQ (a7 (ai (a8 1) (kI 0) gIx) (a7 (ai (a8 1) (kI 1) gIx) aQ))) (ρ:=.tree (aq h)::[.val (.lst [.str k,.str (mkS l)]),.val (.str (mkS (bx h.letters++l)))]) (p:=pv2 (k,mkS l)) (BP h _) (by simp[b1,pv2]) (by rw[LI];omega)
     (by rw[show h.letters.map pv2++[pv2 (k,mkS l)]=(h.letters++[(k,mkS l)]).map pv2 by simp];exact C6 h _ _)
    simp only[bO,PU.start,AI];simp[-vp,c1,st1];simp[-vn,st2,ap]
 ·have:vj h k l=none:=if_neg fun z=>h1 z.1
  rw[this];have r4:h.rooms.isEmpty=false:=by cases hr:h.rooms with | nil=>exact absurd hr h1 | cons a b=>rfl
  rw[r4] at r3;refine b5 rfl (ρ:=[.val (.lst [.str k,.str (mkS l)]),.no]) ?_;have:=qI (t:=aq h) (ρ:=[.val (.lst [.str k,.str (mkS l)]),.no]) (f:=orB (bU (ai (a8 0) (kS "rooms") gIx)) (nZ (bU (bg (a7 (kS "letters") (a7 (ai (a8 0) (kS "letters") gIx) (a7 (a8 1) aQ))) aU)))) (a:=true) (by rw[nz];simp[r1,r3]);simp[bO,PU.start,this]
inductive Rw where
 | first (n:Str) | letters (k:Str) (l:List Nat) | room (n:Str) (r:Room) | ben (x:Bn)
def qD(n:Str):Room->List PV
 | .menu t _ wr wa=>[.str n,.int wr.1,.str wr.2,.int wa.1,.str wa.2,.str t]
 | .names t _ wr wa=>[.str n,.int wr.1,.str wr.2,.int wa.1,.str wa.2,.str t]
 | .hours _ l=>[.str n,.str l]
 | .hand t=>[.str n,.str t]
 | .fin t=>[.str n,.str t]
def qd:Room->Prop
 | .menu _ ks _ _=>ks=[]
 | .names _ ks _ _=>ks=[]
 | .hours sp _=>sp=[]
 | _=>True
def Rw.kd:Rw->Kd
 | .first _=>.first | .letters ..=>.letters | .room _ r=>Room.kd r | .ben x=>x.kd
def Rw.vals:Rw->List PV
 | .first n=>[.str n] | .letters k l=>[.str k,.str (mkS l)] | .room n r=>qD n r | .ben x=>x.vals
def RwI:Rw->Prop
 | .letters k l=>KyS k/\l.length<=100
 | .room _ r=>qd r
 | .ben x=>BnI x
 | _=>True
def m8(h:House)(x:Bn):Option House:=match h.rooms.getLast? with
 | none=>none
 | some (n,r)=>(ma r x).map fun r'=>{ h with rooms:=h.rooms.dropLast++[(n,r')] }
def cA(h:House):Rw->Option House
 | .first n=>if h.first="" then some { h with first:=n } else none
 | .letters k l=>if h.first="" then none else vj h k l
 | .room n r=>if h.first="" then none else if h.rooms.length=12\/n∈FA.names h.rooms then none else some { h with rooms:=h.rooms++[(n,r)] }
 | .ben x=>if h.first="" then none else m8 h x
structure HI(N:Nat)(h:House):Prop where
 nl:h.letters.length<=N
 ls:∀z∈h.letters,KyS z.1/\z.2.length<=100
 nr:h.rooms.length<=12
 rs:∀z∈h.rooms,vd z.2
 nd:(FA.names h.rooms).Nodup
def F8(h:House):Option House->PV×Tr
 | some h'=>(.bl true,aq h')
 | none=>(.bl false,aq h)
theorem nj{s:Sel}{fs:PSt->R (List PV)}{F:Tr->List PV->Option (PV×Tr)}{ρ ρ':PSt}{t t':Tr}{ps:List PV}{p:PV}(e1:uh s ρ=some t)(e2:fs ρ=.ok ps)(e3:F t ps=some (p,t'))(e4:gH s t' ρ=some ρ'):qx s fs F ρ=.ok p ρ':=by
 unfold qx;rw[e1];show (XO.rd ρ (fs ρ)).bind _=_;rw[e2]
 show (match F t ps with
  | none=>_
  | some (p,t')=>_)=_
 rw[e3]
 show (match gH s t' ρ with
  | some ρ'=>_
  | none=>_)=_
 rw[e4]
theorem p9 (h:House) (ρ:PSt):uh (.fld 0 (.inr "rooms")) (.tree (aq h)::ρ)=some (.leaf (ag h.rooms)):=by
 show (match cO [.inr "first",.inr "letters",.inr "rooms"] [.val (.str h.first),.own (.lst (h.letters.map pv2)),.own (ag h.rooms)] (.inr "rooms") with
  | some (.own p)=>some (Tr.leaf p)
  | _=>none)=_
 simp[cO]
theorem pE (h:House) (ρ:PSt) (rs:List (Str×Room)):gH (.fld 0 (.inr "rooms")) (.leaf (ag rs)) (.tree (aq h)::ρ)=some (.tree (aq { h with rooms:=rs })::ρ):=by
 show some (List.set (.tree (aq h)::ρ) 0 (.tree (.node [.inr "first",.inr "letters",.inr "rooms"] (jO [.inr "first",.inr "letters",.inr "rooms"] [.val (.str h.first),.own (.lst (h.letters.map pv2)),.own (ag h.rooms)] (.inr "rooms") (.own (ag rs))))))=_;simp[jO,aq]
theorem xO (h:House) (ρ:PSt):xP 0 (.inr "first") (.tree (aq h)::ρ)=.ok (.str h.first):=by
 show (match cO [.inr "first",.inr "letters",.inr "rooms"] [.val (.str h.first),.own (.lst (h.letters.map pv2)),.own (ag h.rooms)] (.inr "first") with
  | some (.val p)=>R.ok p
  | some (.own p)=>.ok p
  | none=>.no)=_
 simp[cO]
theorem wk (h:House) (ρ:PSt) (f:PSt->R PV) (n:Str) (e:f (.tree (aq h)::ρ)=.ok (.str n)):xM 0 (.inr "first") f (.tree (aq h)::ρ)=.ok .next (.tree (aq { h with first:=n })::ρ):=by
 have l:cO [.inr "first",.inr "letters",.inr "rooms"] [.val (.str h.first),.own (.lst (h.letters.map pv2)),.own (ag h.rooms)] (.inr "first")=some (.val (.str h.first)):=by simp[cO]
 have nd:([.inr "first",.inr "letters",.inr "rooms"]:List Key).Nodup/\([.inr "first",.inr "letters",.inr "rooms"]:List Key).length<16777216:=⟨by decide +kernel,by decide⟩;unfold xM;simp only[MH];rw[e];simp only[aq];simp only[l,if_pos nd];show XO.ok Fb.next _=_;simp[jO]
theorem Ck (x:List Nat) (hx:x.length<=16777216):∃a b,xH (.str (mkS x)) (.str " ")=some (.tup [.str (mkS (x.takeWhile (· != 32))),a,b]):=by
 have e:=(TX.part_eq 32 (mkS x)).1;rw[aD] at e;refine⟨.str (Txt.partition (mkS x) ⟨#[32]⟩).2.1,.str (Txt.partition (mkS x) ⟨#[32]⟩).2.2,?_⟩;show (if _/\_ then some (PV.tup [.str (Txt.partition (mkS x) (LB " ")).1,.str (Txt.partition (mkS x) (LB " ")).2.1,.str (Txt.partition (mkS x) (LB " ")).2.2]) else none)=_;rw[kT,if_pos ⟨by decide +kernel,by rw[cj];exact hx⟩,e];rfl
theorem sN(k:Kd):gIn (.str k.s) c_ROOM_KINDS=some (.bl (decide (k=.menu\/k=.names\/k=.hours\/k=.hand\/k=.fin))):=by cases k <;> rfl
theorem fD (k:Kd):(k.s=LB "first")=(k=.first):=Iz k .first
theorem jR (k:Kd):(k.s=LB "letters")=(k=.letters):=Iz k .letters
theorem Ip(a b:Bool):gNe (.bl a) (.bl b)=some (.bl (a != b)):=by cases a <;> cases b <;> rfl
theorem DD(n:Str)(r:Room)(h:qd r):bJ [.str (Room.kd r).s,.lst (qD n r)]=some r.pv:=by
 cases r with
 | menu t ks wr wa=>cases (show ks=[] from h);exact tH .menu (.inl rfl) n wr.2 wa.2 t wr.1 wa.1
 | names t ks wr wa=>cases (show ks=[] from h);exact tH .names (.inr rfl) n wr.2 wa.2 t wr.1 wa.1
 | hours sp l=>cases (show sp=[] from h);exact uY n l
 | hand t=>exact tJ .hand (.inl rfl) n t
 | fin t=>exact tJ .fin (.inr rfl) n t
theorem yq(n:Str)(r:Room):atI (qD n r) 0=some (.str n):=by cases r <;> exact bW (n:=0) rfl rfl
theorem C0(r:Room):Room.kd r=.menu\/Room.kd r=.names\/Room.kd r=.hours\/Room.kd r=.hand\/Room.kd r=.fin:=by cases r <;> simp[Room.kd]
theorem yp(h:House)(N:Nat)(hi:HI N h)(x:Bn)(hx:BnI x):∃b rs,bw (.leaf (ag h.rooms)) [.str x.kd.s,.lst x.vals]=some (.bl b,.leaf (ag rs))/\F8 h (m8 h x)=(.bl b,aq { h with rooms:=rs }):=by
 rcases iY h.rooms with e | ⟨ys,⟨n,r⟩,e⟩
 ·refine⟨false,[],?_,?_⟩
  ·rw[e];exact vF x
  ·unfold m8
   rw[e];show (PV.bl false,aq h)=_;rw[← e]
 ·have nd:=hi.nd
  rw[e] at nd;unfold FA.names at nd;rw[MD,NK] at nd;have hn:n ∉ FA.names ys:=fun z=>nd.2.2 n z n (by simp) rfl;have nr:=hi.nr;rw[e,M1] at nr;have t:=take_beneath ys n r x hn (by omega) (hi.rs (n,r) (by rw[e];simp)) hx;unfold m8;rw[e,t,NH];dsimp only;cases ha:ma r x with
  | none=>
   refine⟨false,ys++[(n,r)],rfl,?_⟩;show (PV.bl false,aq h)=_;rw[← e]
  | some r'=>
   refine⟨true,ys++[(n,r')],rfl,?_⟩;show (PV.bl true,aq { h with rooms:=(ys++[(n,r)]).dropLast++[(n,r')] })=_;rw[Q6]
theorem take_row(h:House)(N:Nat)(hN:N<=100000)(hi:HI N h)(r:Rw)(hr:RwI r)(x:List Nat)(hx:x.length<=16777216)(hk:x.takeWhile (· != 32)=r.kd.c)(hv:rv r.kd x=.lst r.vals) :
  g9 (aq h) [.str (mkS x)]=some (F8 h (cA h r)):=by
 obtain⟨a,b,e1⟩:=Ck x hx;rw[hk,← FH] at e1;have e2:=vY r.kd x hx;rw[hv] at e2;have e3:=xO h;have b0:∀a b c:PV,atI [a,b,c] 0=some a:=fun a b c=>bW (n:=0) rfl rfl;have em:h.first=LB "" ↔ decide (h.first=LB "")=true:=by simp
 have en:DX (.lst r.vals) .non=some (.bl false):=rfl;have ne:=fun a b=>Ip a b;cases r with
 | first n=>
  by_cases h1:h.first=LB ""
  ·have:cA h (.first n)=some { h with first:=n }:=if_pos h1
   rw[this];refine b5 rfl (ρ:=[.val (.str (mkS x)),.val (.str Kd.first.s),.val (.lst [.str n])]) ?_;have p:=wk h [.val (.str (mkS x)),.val (.str Kd.first.s),.val (.lst [.str n])] (ai (a8 3) (kI 0) gIx) n (by simp);simp only[Rw.kd,Rw.vals] at *;simp[bN,PU.start,e1,b0,e2,en,e3,fD,h1,ne,p]
  ·have:cA h (.first n)=none:=if_neg h1
   rw[this];refine b5 rfl (ρ:=[.val (.str (mkS x)),.val (.str Kd.first.s),.val (.lst [.str n])]) ?_;simp only[Rw.kd,Rw.vals] at *;simp[bN,PU.start,e1,b0,e2,en,e3,fD,h1,ne]
 | letters k l=>
  by_cases h1:h.first=LB ""
  ·have:cA h (.letters k l)=none:=if_pos h1
   rw[this];refine b5 rfl (ρ:=[.val (.str (mkS x)),.val (.str Kd.letters.s),.val (.lst [.str k,.str (mkS l)])]) ?_;simp only[Rw.kd,Rw.vals] at *;simp[bN,PU.start,e1,b0,e2,en,e3,fD,h1,ne]
  ·have:cA h (.letters k l)=vj h k l:=if_neg h1
   rw[this];have t:=take_letters h k l hr.1 hr.2 (by have:=hi.nl;omega) hi.ls;have t:bP (aq h) [.lst [.str k,.str (mkS l)]]=some (F8 h (vj h k l)):=by rw[t];cases vj h k l <;> rfl
   generalize F8 h (vj h k l)=o at *;obtain⟨p,t'⟩:=o;refine b5 rfl (ρ:=[.val (.str (mkS x)),.val (.str Kd.letters.s),.val (.lst [.str k,.str (mkS l)])]) ?_;have c:=nj (s:=.whole 0) (fs:=a7 (a8 3) aQ) (F:=bP) (ρ:=.tree (aq h)::[.val (.str (mkS x)),.val (.str Kd.letters.s),.val (.lst [.str k,.str (mkS l)])]) rfl (by simp) t rfl;simp only[Rw.kd,Rw.vals] at *;simp[bN,PU.start,e1,b0,e2,en,e3,fD,jR,h1,ne,c]
 | room n r=>
  have kk:=C0 r;have k1:Room.kd r≠.first:=by rcases kk with h | h | h | h | h <;> rw[h] <;> decide
  have k2:Room.kd r≠.letters:=by rcases kk with h | h | h | h | h <;> rw[h] <;> decide
  have k3:=sN (Room.kd r);rw[decide_eq_true kk] at k3
  by_cases h1:h.first=LB ""
  ·have:cA h (.room n r)=none:=if_pos h1
   rw[this];refine b5 rfl (ρ:=[.val (.str (mkS x)),.val (.str (Room.kd r).s),.val (.lst (qD n r))]) ?_;simp only[Rw.kd,Rw.vals] at *;simp[bN,PU.start,e1,b0,e2,en,e3,fD,h1,ne,k1]
  ·have t:=take_room h.rooms (Room.kd r) n (qD n r) r (yq n r) (DD n r hr) (by have:=hi.nr;omega)
   obtain⟨b,rs,t1,t2⟩:∃b rs,dh (.leaf (ag h.rooms)) [.str (Room.kd r).s,.lst (qD n r)]=some (.bl b,.leaf (ag rs))/\F8 h (cA h (.room n r))=(.bl b,aq { h with rooms:=rs }):=by
    have s1:cA h (.room n r)=if h.rooms.length=12\/n∈FA.names h.rooms then none else some { h with rooms:=h.rooms++[(n,r)] }:=if_neg h1
    rw[s1,t]
    by_cases h2:h.rooms.length=12\/n∈FA.names h.rooms
    ·rw[if_pos h2,if_pos h2]
     exact⟨false,h.rooms,rfl,rfl⟩
    ·rw[if_neg h2,if_neg h2]
     exact⟨true,_,rfl,rfl⟩
   rw[t2];refine b5 rfl (ρ:=[.val (.str (mkS x)),.val (.str (Room.kd r).s),.val (.lst (qD n r))]) ?_;have c:=nj (s:=.fld 0 (.inr "rooms")) (fs:=a7 (a8 2) (a7 (a8 3) aQ)) (F:=dh) (ρ:=.tree (aq h)::[.val (.str (mkS x)),.val (.str (Room.kd r).s),.val (.lst (qD n r))]) (p9 h _) (by simp) t1 (pE h _ _);simp only[Rw.kd,Rw.vals] at *;simp[bN,PU.start,e1,b0,e2,en,e3,fD,jR,h1,ne,k1,k2,k3,c]
 | ben y=>
  have kk:y.kd=.key\/y.kd=.name\/y.kd=.from_:=by cases y <;> simp[Bn.kd]
  have k1:y.kd≠.first:=by rcases kk with h | h | h <;> rw[h] <;> decide
  have k2:y.kd≠.letters:=by rcases kk with h | h | h <;> rw[h] <;> decide
  have k3:=sN y.kd;rw[decide_eq_false (by rcases kk with h | h | h <;> rw[h] <;> decide)] at k3
  by_cases h1:h.first=LB ""
  ·have:cA h (.ben y)=none:=if_pos h1
   rw[this];refine b5 rfl (ρ:=[.val (.str (mkS x)),.val (.str y.kd.s),.val (.lst y.vals)]) ?_;simp only[Rw.kd,Rw.vals] at *;simp[bN,PU.start,e1,b0,e2,en,e3,fD,h1,ne,k1]
  ·have:cA h (.ben y)=m8 h y:=if_neg h1
   rw[this];obtain⟨b,rs,t1,t2⟩:=yp h N hi y hr;rw[t2];refine b5 rfl (ρ:=[.val (.str (mkS x)),.val (.str y.kd.s),.val (.lst y.vals)]) ?_;have c:=nj (s:=.fld 0 (.inr "rooms")) (fs:=a7 (a8 2) (a7 (a8 3) aQ)) (F:=bw) (ρ:=.tree (aq h)::[.val (.str (mkS x)),.val (.str y.kd.s),.val (.lst y.vals)]) (p9 h _) (by simp) t1 (pE h _ _);simp only[Rw.kd,Rw.vals] at *;simp[bN,PU.start,e1,b0,e2,en,e3,fD,jR,h1,ne,k1,k2,k3,c]
theorem Gi{r r':Room}{x:Bn}(hr:vd r)(hx:BnI x)(h:ma r x=some r')(hz:(aH r).length<=12):vd r'/\(aH r').length<=12:=by
 cases r with
 | hand t=>cases x <;> cases h
 | fin t=>cases x <;> cases h
 | menu t ks a b=>
  cases x with
  | name w g=>cases h
  | span c d g=>cases h
  | key k g=>
   have h:(if ks.length≠12/\vf ks k=true then some (Room.menu t (ks++[(k,g)]) a b) else none)=some r':=h
   split  at h
   ·rename_i hc
    cases h;have hz:ks.length<=12:=by simpa [aH] using hz
    have h1:=hc.1;refine⟨⟨by simp;omega,fun z hm=>?_⟩,by simp[aH];omega⟩;rcases MA.mp hm with hm | hm
    ·exact hr.2 z hm
    ·have:z=(k,g):=by simpa using hm
     subst this;exact hx
   ·cases h
 | names t ks a b=>
  cases x with
  | key w g=>cases h
  | span c d g=>cases h
  | name k g=>
   have h:(if ks.length≠12/\zj ks k=true then some (Room.names t (ks++[(k,g)]) a b) else none)=some r':=h
   split  at h
   ·rename_i hc
    cases h;have hz:ks.length<=12:=by simpa [aH] using hz
    have h1:=hc.1;exact⟨by show (ks++[(k,g)]).length<=1000000;simp;omega,by simp[aH];omega⟩
   ·cases h
 | hours sp l=>
  cases x with
  | key w g=>cases h
  | name c g=>cases h
  | span c d g=>
   have h:(if sp.length≠12/\c<d then some (Room.hours (sp++[(c,d,g)]) l) else none)=some r':=h
   split  at h
   ·rename_i hc
    cases h;have hz:sp.length<=12:=by simpa [aH] using hz
    have h1:=hc.1;exact⟨by show (sp++[(c,d,g)]).length<=1000000;simp;omega,by simp[aH];omega⟩
   ·cases h
structure HJ(N:Nat)(h:House):Prop extends HI N h where
 hz:∀z∈h.rooms,(aH z.2).length<=12
theorem Ge(r:Room)(h:qd r):vd r/\(aH r).length<=12:=by
 cases r with
 | menu t ks a b=>cases (show ks=[] from h);exact⟨⟨by simp,by simp⟩,by simp[aH]⟩
 | names t ks a b=>cases (show ks=[] from h);exact⟨by show ([]:List (Str×Str)).length<=_;simp,by simp[aH]⟩
 | hours sp l=>cases (show sp=[] from h);exact⟨by show ([]:List (Int×Int×Str)).length<=_;simp,by simp[aH]⟩
 | hand t=>exact⟨trivial,by simp[aH]⟩
 | fin t=>exact⟨trivial,by simp[aH]⟩
theorem Ex{N:Nat}{h h':House}{r:Rw}(hi:HJ N h)(hr:RwI r)(e:cA h r=some h'):HJ (N+1) h':=by
 have nl:=hi.nl;cases r with
 | first n=>
  simp only[cA] at e;split at e
  ·cases e
   exact⟨⟨by show h.letters.length<=_;omega,hi.ls,hi.nr,hi.rs,hi.nd⟩,hi.hz⟩
  ·cases e
 | letters k l=>
  simp only[cA] at e;split at e
  ·cases e
  ·simp only[vj] at e
   split at e
   ·cases e
    refine⟨⟨by simp;omega,fun z hm=>?_,hi.nr,hi.rs,hi.nd⟩,hi.hz⟩;rcases MA.mp hm with hm | hm
    ·exact hi.ls z hm
    ·have:z=(k,mkS l):=by simpa using hm
     subst this;exact⟨hr.1,by rw[cj];exact hr.2⟩
   ·cases e
 | room n r=>
  simp only[cA] at e;split at e
  ·cases e
  ·split at e
   ·cases e
   ·rename_i hc
    cases e;have hb:=Ge r hr;have hn:n ∉ FA.names h.rooms:=fun z=>hc (.inr z);have hl:h.rooms.length≠12:=fun z=>hc (.inl z);have nr:=hi.nr;refine⟨⟨by show h.letters.length<=_;omega,hi.ls,by simp;omega,fun z hm=>?_,?_⟩,fun z hm=>?_⟩
    ·rcases MA.mp hm with hm | hm
     ·exact hi.rs z hm
     ·have:z=(n,r):=by simpa using hm
      subst this;exact hb.1
    ·have nd:=hi.nd
     unfold FA.names at nd hn ⊢;rw[MD,NK];refine⟨nd,by simp,fun a ha b hb'=>?_⟩;have:b=n:=by simpa using hb'
     subst this;exact fun z=>hn (z▸ha)
    ·rcases MA.mp hm with hm | hm
     ·exact hi.hz z hm
     ·have:z=(n,r):=by simpa using hm
      subst this;exact hb.2
 | ben x=>
  simp only[cA] at e;split at e
  ·cases e
  ·unfold m8 at e
   rcases iY h.rooms with e2 | ⟨ys,⟨n,r⟩,e2⟩
   ·rw[e2] at e;cases e
   ·rw[e2,NH] at e
    have e:(ma r x).map (fun r'=>{ h with rooms:=(ys++[(n,r)]).dropLast++[(n,r')] })=some h':=e;cases ha:ma r x with
    | none=>rw[ha] at e;cases e
    | some r'=>
     rw[ha,Q6] at e;cases e;have hm:(n,r)∈h.rooms:=by rw[e2];simp
     obtain⟨i1,i2⟩:=Gi (hi.rs _ hm) hr ha (hi.hz _ hm);have nr:=hi.nr;rw[e2,M1] at nr;refine⟨⟨by show h.letters.length<=_;omega,hi.ls,by simpa using nr,fun z hm=>?_,?_⟩,fun z hm=>?_⟩
     ·rcases MA.mp hm with hm | hm
      ·exact hi.rs z (by rw[e2];exact Oj _ hm)
      ·have:z=(n,r'):=by simpa using hm
       subst this;exact i1
     ·have nd:=hi.nd
      rw[e2] at nd;unfold FA.names at nd ⊢;simpa using nd
     ·rcases MA.mp hm with hm | hm
      ·exact hi.hz z (by rw[e2];exact Oj _ hm)
      ·have:z=(n,r'):=by simpa using hm
       subst this;exact i2
structure RTx(r:Rw)(x:List Nat):Prop where
 ok:RwI r
 sz:x.length<=16777216
 kd:x.takeWhile (· != 32)=r.kd.c
 vs:rv r.kd x=.lst r.vals
def gy:House->List Rw->Option House
 | h,[]=>some h
 | h,r::rs=>(cA h r).bind fun h'=>gy h' rs
def cY(k:Nat):List (List Nat)->List PV
 | []=>[]
 | x::xs=>.tup [.int ((k+1:Nat):Int),.str (mkS x)]::cY (k+1) xs
theorem wQ(xs:List (List Nat)):(pM (xs.map fun x=>.str (mkS x))).map PV.tup=cY 0 xs:=by
 have:∀(xs:List (List Nat))(k:Nat),((SW k xs.length).zipWith (fun (i:Nat) p=>[PV.int ((i+1:Nat):Int),p]) (xs.map fun x=>.str (mkS x))).map PV.tup=cY k xs:=by
  intro xs
  induction xs with
  | nil=>intro k;rfl
  | cons x xs ih=>
   intro k;rw[LS,Oc,LQ,Pk,LQ,ih];rfl
 unfold pM;rw[LI,List.range_eq_range'];exact this xs 0
theorem pB(v0 v1:Sl):∀(rs:List Rw)(xs:List (List Nat))(k N:Nat)(h h':House)(a b:Sl),rs.length=xs.length->(∀(i:Nat)(r:Rw)(x:List Nat),rs[i]?=some r->xs[i]?=some x->RTx r x)->gy h rs=some h'->HJ N h->N+rs.length<=100000->
  ∃a' b',D3 (gF 2 (aE (ak 3) (aE (ak 4) gJ))) bQ (cY k xs) [v0,v1,.tree (aq h),a,b,.no]=.ok .next [v0,v1,.tree (aq h'),a',b',.no]
 | [],[],k,N,h,h',a,b,_,_,e,_,_=>by cases e;exact⟨a,b,rfl⟩
 | [],_::_,_,_,_,_,_,_,hl,_,_,_,_=>by cases hl
 | _::_,[],_,_,_,_,_,_,hl,_,_,_,_=>by cases hl
 | r::rs,x::xs,k,N,h,h',a,b,hl,hx,e,hi,hN=>by
  have t:=hx 0 r x rfl rfl;rw[LS] at hN;have e1:=take_row h N (by omega) hi.toHI r t.ok x t.sz t.kd t.vs;unfold gy at e;cases hs:cA h r with
  | none=>rw[hs] at e;cases e
  | some h1=>
   rw[hs] at e1 e;have c:=nj (s:=.whole 2) (fs:=a7 (a8 4) aQ) (F:=g9) (ρ:=[v0,v1,.tree (aq h),.val (.int ((k+1:Nat):Int)),.val (.str (mkS x)),.no]) (t:=aq h) (t':=aq h1) (p:=.bl true) (ρ':=[v0,v1,.tree (aq h1),.val (.int ((k+1:Nat):Int)),.val (.str (mkS x)),.no]) rfl (by simp) e1 rfl;obtain⟨a',b',e2⟩:=pB v0 v1 rs xs (k+1) (N+1) h1 h' (.val (.int ((k+1:Nat):Int))) (.val (.str (mkS x))) (by simpa using hl) (fun i r x h1 h2=>hx (i+1) r x (by simpa using h1) (by simpa using h2)) e (Ex hi t.ok hs) (by omega);refine⟨a',b',?_⟩
   have e3:bQ [v0,v1,.tree (aq h),.val (.int ((k+1:Nat):Int)),.val (.str (mkS x)),.no]=.ok .next [v0,v1,.tree (aq h1),.val (.int ((k+1:Nat):Int)),.val (.str (mkS x)),.no]:=by
    unfold bQ;simp only[Hb,Ea,E8];rw[c];simp
   show ((bQ [v0,v1,.tree (aq h),.val (.int ((k+1:Nat):Int)),.val (.str (mkS x)),.no]).bind _)=_;rw[e3];exact e2
def stw(p x:List Nat):Bool:=decide (x.take p.length=p)
theorem oV(p x:List Nat):jV (.str (mkS x)) (.str (mkS p))=some (.bl (stw p x)):=by
 show some (PV.bl (decide (0+(mkS p).length<=(mkS x).length) && Builtin.Str.subAt (mkS x) (mkS p) 0))=_;rw[StrLaws.subAt_eq,aD,aD,cj,cj,List.drop_zero,Pq];unfold stw
 by_cases h:x.take p.length=p
 ·have:p.length<=x.length:=by
   have:=congrArg NS h;rw[MS] at this;omega
  rw[decide_eq_true h,decide_eq_true this,h];simp
 ·rw[decide_eq_false h]
  have:(x.take p.length == p)=false:=by simpa using h
  rw[this,O5]
def kh:List Nat:=[110,97,109,101,115,32]
def uX:List Nat:=[110,97,109,101,32]
theorem sJ:LB "names "=mkS kh:=by decide +kernel
theorem Cv:LB "name "=mkS uX:=by decide +kernel
theorem zE(xs:List (List Nat)):∀(k i:Nat)(p:PV),(cY k xs)[i]?=some p->∃x,xs[i]?=some x/\p=.tup [.int ((k+i+1:Nat):Int),.str (mkS x)]:=by
 induction xs with
 | nil=>intro k i p h;simp[cY] at h
 | cons x xs ih=>
  intro k i p h;cases i with
  | zero=>exact⟨x,rfl,by simpa [cY] using h.symm⟩
  | succ i=>
   obtain⟨y,e1,e2⟩:=ih (k+1) i p (by simpa [cY] using h);exact⟨y,by simpa using e1,by rw[e2,show k+1+i+1=k+(i+1)+1 by omega]⟩
theorem wordless(xs:List (List Nat))(hl:xs.length<=1000000)(hw:∀(i:Nat)(x:List Nat),xs[i]?=some x->stw kh x=true->∃y,xs[i+1]?=some y/\stw uX y=true):dq [.lst (xs.map fun x=>.str (mkS x))]=some (.int 0):=by
 refine aG rfl ?_
 have hE:∀ρ:PSt,jz (a8 0) (.val (.lst (xs.map fun x=>.str (mkS x)))::ρ)=.ok (cY 0 xs):=fun ρ=>by
  show (a8 0 _ >>= fun p=>R.ofO (sY p))=_;rw[vq];show R.ofO (some ((pM (xs.map fun x=>PV.str (mkS x))).map PV.tup))=_;rw[wQ];rfl
 have hG:iC (.lst (xs.map fun x=>PV.str (mkS x)))=some (.int xs.length):=by show some (PV.int (xs.map fun x=>PV.str (mkS x)).length)=_;rw[LI]
 obtain⟨ρ',e,a,b,c,rfl⟩:=ir (ps:=cY 0 xs) (h:=gF 2 (aE (ak 1) (aE (ak 2) gJ))) (g:=bM) (ρ:=[.val (.lst (xs.map fun x=>.str (mkS x))),.no,.no,.no])
  (I:=fun i ρ=>∃a b c,ρ=[.val (.lst (xs.map fun x=>.str (mkS x))),a,b,c]) ⟨_,_,_,rfl⟩ (by
   rintro i p ρ hp ⟨a,b,c,rfl⟩;obtain⟨x,hx,rfl⟩:=zE xs 0 i p hp;rw[Pq]
   obtain⟨bel,hb,hs⟩:∃bel:List Nat,ifV (bU (ai (a8 1) (un1 (a8 0) iC) gLt)) (ai (a8 0) (a8 1) gIx) (kS "") [.val (.lst (xs.map fun x=>.str (mkS x))),.val (.int ((i+1:Nat):Int)),.val (.str (mkS x)),c]=.ok (.str (mkS bel))/\(stw kh x=true->stw uX bel=true):=by
    by_cases hi:i+1<xs.length
    ·have e1:xs[i+1]?=some xs[i+1]:=by simp[hi]
     refine⟨xs[i+1],?_,fun h=>?_⟩
     ·have e2:atI (xs.map fun x=>PV.str (mkS x)) ((i+1:Nat):Int)=some (.str (mkS xs[i+1])):=bW (n:=i+1) rfl (by rw[LR,e1];rfl)
      have e3:gLt (.int ((i+1:Nat):Int)) (.int xs.length)=some (.bl true):=by show some (PV.bl (decide (((i+1:Nat):Int)<(xs.length:Int))))=_;rw[decide_eq_true (by omega)]
      generalize ((i+1:Nat):Int)=j at *;simp[hG,e2,e3]
     ·obtain⟨y,e3,e4⟩:=hw i x hx h
      rw[e1] at e3;cases e3;exact e4
    ·refine⟨[],?_,fun h=>?_⟩
     ·have e3:gLt (.int ((i+1:Nat):Int)) (.int xs.length)=some (.bl false):=by show some (PV.bl (decide (((i+1:Nat):Int)<(xs.length:Int))))=_;rw[decide_eq_false (by omega)]
      generalize ((i+1:Nat):Int)=j at *;simp[hG,e3,jA]
     ·obtain⟨y,e3,e4⟩:=hw i x hx h
      have:=(Lw.mp e3).1;omega
   refine⟨_,_,rfl,.inl ?_,.val (.int ((i+1:Nat):Int)),.val (.str (mkS x)),.val (.str (mkS bel)),rfl⟩;have s1:=oV kh x;have s2:=oV uX bel
   have st:dN 3 (ifV (bU (ai (a8 1) (un1 (a8 0) iC) gLt)) (ai (a8 0) (a8 1) gIx) (kS "")) [.val (.lst (xs.map fun x=>.str (mkS x))),.val (.int ((i+1:Nat):Int)),.val (.str (mkS x)),c]=.ok (.next [.val (.lst (xs.map fun x=>.str (mkS x))),.val (.int ((i+1:Nat):Int)),.val (.str (mkS x)),.val (.str (mkS bel))]):=by
    rw[E9,hb];simp
   show bM [.val (.lst (xs.map fun x=>.str (mkS x))),.val (.int ((i+1:Nat):Int)),.val (.str (mkS x)),c]=_;unfold bM;rw[AH,st];cases hh:stw kh x with
   | false=>rw[hh] at s1;simp[sJ,s1]
   | true=>
    rw[hh] at s1;rw[hs hh] at s2;simp[sJ,Cv,s1,s2])
 simp only[fQ,PU.start,AH]
 have:sR (jz (a8 0)) (gF 2 (aE (ak 1) (aE (ak 2) gJ))) bM [.val (.lst (xs.map fun x=>.str (mkS x))),.no,.no,.no]=.ok (.next [.val (.lst (xs.map fun x=>.str (mkS x))),a,b,c]):=by
  show (jz (a8 0) _ >>= fun ps=>qj _ _ ps _)=_;rw[hE];exact e
 rw[show (List.map Sl.val [PV.lst (xs.map fun x=>.str (mkS x))]++Mg (4 - [PV.lst (xs.map fun x=>PV.str (mkS x))].length) Sl.no)=[.val (.lst (xs.map fun x=>.str (mkS x))),.no,.no,.no] from rfl,this];simp
def cD:List (List Nat)->List Nat
 | []=>[]
 | [x]=>x
 | x::y::r=>x++10::cD (y::r)
theorem mS(t:List Nat):∀ws:List (List Nat),cD (ws++[t])=TX.glue 10 ws t
 | []=>rfl
 | [w]=>rfl
 | w::v::ws=>by
  have ih:=mS t (v::ws);show w++10::cD (v::ws++[t])=w++10::TX.glue 10 (v::ws) t;rw[ih]
theorem Fp:LB "\n"=(⟨#[10]⟩:Str):=by decide +kernel
theorem xu:∀xs:List (List Nat),NY "\n" (xs.map mkS)=mkS (cD xs)
 | []=>rfl
 | [x]=>rfl
 | x::y::r=>by
  have ih:=xu (y::r);have e:NY "\n" ((x::y::r).map mkS)=mkS x++"\n"++NY "\n" ((y::r).map mkS):=rfl;rw[e,ih,Fp,show (⟨#[10]⟩:Str)=mkS [10] from rfl,aB,aB];show mkS _=mkS (x++10::cD (y::r));rw[Nd];rfl
theorem yW(xs:List (List Nat))(hne:xs≠[])(hf:∀x∈xs,10 ∉ x)(k:Nat)(hk:xs.length<=k+1):TX.spl 10 k (cD xs)=xs:=by
 rcases iY xs with rfl | ⟨ws,t,rfl⟩
 ·exact absurd rfl hne
 ·rw[mS]
  exact TX.spl_more (hf t (by simp)) ws k (by simpa using hk) fun w hw=>hf w (by simp[hw])
theorem q9:∀xs:List (List Nat),xs.length<=(cD xs).length+1
 | []=>by simp
 | [x]=>by simp
 | x::y::r=>by
  have:=q9 (y::r);show _<=(x++10::cD (y::r)).length+1;simp only[LS,M1] at this ⊢;omega
theorem yV (xs:List (List Nat)) (hne:xs≠[]) (hf:∀x∈xs,10 ∉ x) (hs:(cD xs).length<=16000000):qh (.str (mkS (cD xs))) (.str "\n")=some (.lst (xs.map fun x=>.str (mkS x))):=by
 have e:=TX.split_eq (c:=10) (by decide) (mkS (cD xs));have hl:=q9 xs;rw[aD,cj,yW xs hne hf _ (by omega)] at e;show (if _/\_/\(Txt.split (mkS (cD xs)) (LB "\n")).length<=16777216 then some (PV.lst ((Txt.split (mkS (cD xs)) (LB "\n")).map .str)) else none)=_;rw[Fp,e,if_pos ⟨by decide +kernel,by rw[cj];omega,by rw[LI];omega⟩,M4];rfl
def gK:House:=⟨"",[],[]⟩
theorem z8{m n:Nat}{g:PSt->XO Fb}{qs:List PV}{t:Tr}{ρ:PSt}(hm:qs.length=m)(e:g (PU.start n qs)=.ok (.retT t) ρ):BW m n g qs=some t:=by
 unfold BW;rw[if_pos hm,e]
theorem BB{a b:Sl}{t:Tr}{ρ:PSt}:vZ 2 (a::b::.tree t::ρ)=.ok (.retT t) (a::b::.tree t::ρ):=by unfold vZ;exact Lr _
theorem read_house(rs:List Rw)(xs:List (List Nat))(h:House)(hl:rs.length=xs.length)(hn:rs.length<=99999)(hne:xs≠[])(hx:∀(i:Nat)(r:Rw)(x:List Nat),rs[i]?=some r->xs[i]?=some x->RTx r x)(hf:∀x∈xs,10 ∉ x)
  (hs:(cD xs).length<=16000000) (he:gy gK rs=some h) (hr:h.rooms≠[]) (hw:∀(i:Nat)(x:List Nat),xs[i]?=some x->stw kh x=true->∃y,xs[i+1]?=some y/\stw uX y=true):bf [.str (mkS (cD xs))]=some (aq h):=by
 have e1:=yV xs hne hf hs;have hj:HJ 0 gK:=⟨⟨LZ _,fun z hz=>(by cases hz),Mr _,fun z hz=>(by cases hz),List.nodup_nil⟩,fun z hz=>(by cases hz)⟩;obtain⟨a,b,e2⟩:=pB (.val (.str (mkS (cD xs)))) (.val (.lst (xs.map fun x=>.str (mkS x)))) rs xs 0 0 gK h .no .no hl hx he hj (by omega);have e3:=wordless xs (by omega) hw;generalize hR:(xs.map fun x=>PV.str (mkS x))=L at *
 have e4:jz (a8 1) [.val (.str (mkS (cD xs))),.val (.lst L),.tree (aq gK),.no,.no,.no]=.ok (cY 0 xs):=by
  show (a8 1 _ >>= fun p=>R.ofO (sY p))=_;rw[BC,vq];show R.ofO (some ((pM L).map PV.tup))=_;rw[← hR,wQ];rfl
 have e5:J3 (jz (a8 1)) (gF 2 (aE (ak 3) (aE (ak 4) gJ))) bQ [.val (.str (mkS (cD xs))),.val (.lst L),.tree (aq gK),.no,.no,.no]=.ok .next [.val (.str (mkS (cD xs))),.val (.lst L),.tree (aq h),a,b,.no]:=by
  show (XO.rd _ (jz (a8 1) _)).bind _=_;rw[e4];exact e2
 have e6:uy (n9 (.inr "first") (kS "") (iE (.inr "letters") (kD aQ) (iE (.inr "rooms") newD DS))) [.val (.str (mkS (cD xs))),.val (.lst L),.no,.no,.no,.no]=.ok (aq gK):=by
  have q:n9 (.inr "first") (kS "") (iE (.inr "letters") (kD aQ) (iE (.inr "rooms") newD DS)) [.val (.str (mkS (cD xs))),.val (.lst L),.no,.no,.no,.no]=.ok [(.inr "first",.val (.str "")),(.inr "letters",.own (.lst [])),(.inr "rooms",.own (.dct [] []))]:=by
   have q1:∀ρ:PSt,kD aQ ρ=.ok (.lst []):=fun ρ=>by simp
   have q2:∀ρ:PSt,newD ρ=.ok (.dct [] []):=fun ρ=>rfl;unfold n9 iE DS;simp only[q1,q2,R.ok_bind];rfl
  unfold uy;rw[q];show (if ([(.inr "first",.val (.str "")),(.inr "letters",.own (.lst [])),(.inr "rooms",.own (.dct [] []))]:List (Key×Fld)).length<=15/\([.inr "first",.inr "letters",.inr "rooms"]:List Key).Nodup then R.ok (aq gK) else .no)=_;rw[if_pos ⟨by decide,by decide +kernel⟩]
 have e7:xP 2 (.inr "rooms") [.val (.str (mkS (cD xs))),.val (.lst L),.tree (aq h),a,b,.no]=.ok (ag h.rooms):=by
  show (match cO [.inr "first",.inr "letters",.inr "rooms"] [.val (.str h.first),.own (.lst (h.letters.map pv2)),.own (ag h.rooms)] (.inr "rooms") with
   | some (.val p)=>R.ok p
   | some (.own p)=>.ok p
   | none=>.no)=_
  simp[cO]
 have e8:kj (ag h.rooms)=some true:=by
  show some (!(h.rooms.map fun r=>(MU r.1:Key)).isEmpty)=_;cases hq:h.rooms with
  | nil=>exact absurd hq hr
  | cons a b=>rfl
 have e9:kJ "str" (.str (mkS (cD xs)))=some (.bl true):=rfl
 have ts:vD 2 (uy (n9 (.inr "first") (kS "") (iE (.inr "letters") (kD aQ) (iE (.inr "rooms") newD DS)))) [.val (.str (mkS (cD xs))),.val (.lst L),.no,.no,.no,.no]=.ok .next [.val (.str (mkS (cD xs))),.val (.lst L),.tree (aq gK),.no,.no,.no]:=by
  show (XO.rd _ (uy _ _)).bind _=_;rw[e6];rfl
 refine z8 rfl (ρ:=[.val (.str (mkS (cD xs))),.val (.lst L),.tree (aq h),a,b,.val (.int 0)]) ?_;generalize mkS (cD xs)=T at *;simp[i7,PU.start,e9,e1,ts,e5,e7,e8,e3,BB]
abbrev cd(s:Str):List Nat:=s.cps.toList
def dg(i:Int):List Nat:=cd (num i)
def pH:Bn->List (List Nat)×List Nat
 | .key k t=>([cd k],cd t)
 | .name w t=>([cd w],cd t)
 | .span a b t=>([dg a,dg b],cd t)
def sy(n:Str):Room->List (List Nat)×List Nat
 | .menu t _ wr wa=>([cd n,dg wr.1,cd wr.2,dg wa.1,cd wa.2],cd t)
 | .names t _ wr wa=>([cd n,dg wr.1,cd wr.2,dg wa.1,cd wa.2],cd t)
 | .hours _ l=>([cd n],cd l)
 | .hand t=>([cd n],cd t)
 | .fin t=>([cd n],cd t)
def Rw.parts:Rw->List (List Nat)×List Nat
 | .first n=>([],cd n)
 | .letters k l=>([cd k],l)
 | .room n r=>sy n r
 | .ben x=>pH x
def cQ(r:Rw):List Nat:=TX.glue 32 (r.kd.c::r.parts.1) r.parts.2
theorem BV(k:Kd)(ws:List (List Nat))(t:List Nat)(hl:ws.length+1=k.fs.length)(hf:∀w∈ws,32 ∉ w)(vs:List PV)(hv:fvs k.fs (ws++[t])=vs)(hn:vs.any lF=false):rv k (TX.glue 32 (k.c::ws) t)=.lst vs:=by
 have e:TX.spl 32 k.fs.length (TX.glue 32 (k.c::ws) t)=k.c::ws++[t]:=by
  rw[← hl,show ws.length+1=(k.c::ws).length from rfl]
  exact TX.spl_glue t (k.c::ws) fun w hw=>by
   rcases LJ.mp hw with rfl | hw
   ·exact xr k
   ·exact hf w hw
 unfold rv;rw[e];show (if (ws++[t]).length<k.fs.length then _ else _)=_;rw[if_neg (by rw[M1,SI,hl];omega)];show (if (fvs k.fs (ws++[t])).any lF=true then _ else PV.lst (fvs k.fs (ws++[t])))=_;rw[hv,hn];rfl
theorem CF(k:Kd)(ws:List (List Nat))(t:List Nat):(TX.glue 32 (k.c::ws) t).takeWhile (· != 32)=k.c:=(TX.drop_free (xr k) _).2
theorem kE{m:Nat}{x:List Nat}{c:Nat}(h:cE m x=true)(hc:c<97):c ∉ x:=fun z=>by
 unfold cE at h;simp only[M6] at h;have:=MY.mp h.2 c z;simp at this;omega
theorem jS{m:Nat}{x:List Nat}(h:cE m x=true):x.length<=m:=by
 unfold cE at h;simp only[M6,decide_eq_true_eq] at h;exact h.1.2
theorem sI{x:List Nat}(h:eV x=true):cE 8 x=true:=by
 unfold eV at h;simp only[M6] at h;exact h.1
theorem xj{x:List Nat}(h:lH x=true):∃c∈bp,x=[c]:=by
 match x,h with
 | [c],h=>exact⟨c,of_decide_eq_true h,rfl⟩
theorem zR:∀c∈bp,c≠32/\c≠10:=by decide
theorem Cb{x:List Nat}(h:k8 x=true):10 ∉ x:=fun z=>by
 unfold k8 at h;simp only[M6] at h;have:=MY.mp h.2 10 z;simp[CP] at this
theorem wA{x:List Nat}(h:k8 x=true):x.length<=80:=by
 unfold k8 at h;simp only[M6,decide_eq_true_eq] at h;exact h.1.2
open PySem.NumText in
theorem G6:∀n:Nat,n<25->rl (dg (n:Int))=true/\(dg (n:Int)).length<=2/\digitsVal (dg (n:Int))=n/\(n<10->(dg (n:Int)).length<=1)/\32 ∉ dg (n:Int)/\10 ∉ dg (n:Int):=by decide +kernel
open PySem.NumText in
theorem j5{i:Int}(h0:0<=i)(h1:i<=24):rl (dg i)=true/\(dg i).length<=2/\digitsVal (dg i)=i.toNat/\(i<10->(dg i).length<=1)/\32 ∉ dg i/\10 ∉ dg i:=by
 obtain⟨n,rfl⟩:=Int.eq_ofNat_of_zero_le h0;obtain⟨a,b,c,d,e⟩:=G6 n (by omega);exact⟨a,b,c,fun h=>d (by omega),e⟩
theorem Cr{i:Int}{lo hi L:Nat}(h0:0<=i)(h1:i<=24)(ha:(lo:Int)<=i)(hb:i<=(hi:Int))(hL:(dg i).length<=L):nw lo hi L (dg i)=.int i:=by
 obtain⟨a,b,c,d,e⟩:=j5 h0 h1;unfold nw;rw[if_pos ⟨a,hL⟩,c,if_pos ⟨by omega,by omega⟩]
 congr 1
 omega
def Bt(p:Int×Str):Prop:=1<=p.1/\p.1<=9/\eV (cd p.2)=true
def GBn:Bn->Prop
 | .key k t=>lH (cd k)=true/\(eV (cd t)=true\/cd t=[98,97,99,107])
 | .name w t=>cE 12 (cd w)=true/\eV (cd t)=true
 | .span a b t=>0<=a/\a<=23/\1<=b/\b<=24/\eV (cd t)=true
def AF:Room->Prop
 | .menu t _ wr wa=>k8 (cd t)=true/\Bt wr/\Bt wa
 | .names t _ wr wa=>k8 (cd t)=true/\Bt wr/\Bt wa
 | .hours _ l=>eV (cd l)=true
 | .hand t=>k8 (cd t)=true
 | .fin t=>k8 (cd t)=true
def GRw:Rw->Prop
 | .first n=>eV (cd n)=true
 | .letters k l=>lH (cd k)=true/\cd k≠[35]/\cE 26 l=true
 | .room n r=>eV (cd n)=true/\AF r/\qd r
 | .ben x=>GBn x
theorem mn{x:List Nat}(h:eV x=true):fv .name x=.str (mkS x):=by show okB (eV x) x=_;rw[h];rfl
theorem CY{x:List Nat}(h:k8 x=true):fv .text x=.str (mkS x):=by show okB (k8 x) x=_;rw[h];rfl
theorem IX{x:List Nat}(h:cE 12 x=true):fv .word x=.str (mkS x):=by show okB (cE 12 x) x=_;rw[h];rfl
theorem J2{x:List Nat}(h:lH x=true):fv .key x=.str (mkS x):=by show okB (lH x) x=_;rw[h];rfl
theorem J1{x:List Nat}(h:lH x=true)(h2:x≠[35]):fv .lkey x=.str (mkS x):=by show okB (lH x && !decide (x=[35])) x=_;rw[h,decide_eq_false h2];rfl
theorem J0{x:List Nat}(h:cE 26 x=true):fv .letters x=.str (mkS x):=by show okB (cE 26 x) x=_;rw[h];rfl
theorem IY{x:List Nat}(h:eV x=true\/x=[98,97,99,107]):fv .target x=.str (mkS x):=by
 show okB (eV x || decide (x=[98,97,99,107])) x=_;rcases h with h | h
 ·rw[h];rfl
 ·rw[decide_eq_true h,Bool.or_true];rfl
theorem gi(s:Str):mkS (cd s)=s:=TX.mk_list s
theorem xI{i:Int}(h0:1<=i)(h1:i<=9):fv .many (dg i)=.int i:=Cr (by omega) (by omega) (by omega) (by omega) ((j5 (by omega) (by omega)).2.2.2.1 (by omega))
theorem D0{i:Int}(h0:0<=i)(h1:i<=23):fv .from_ (dg i)=.int i:=Cr (by omega) (by omega) (by omega) (by omega) (j5 (by omega) (by omega)).2.1
theorem CZ{i:Int}(h0:1<=i)(h1:i<=24):fv .till (dg i)=.int i:=Cr (by omega) (by omega) (by omega) (by omega) (j5 (by omega) (by omega)).2.1
structure PartsOk(r:Rw):Prop where
 len:r.parts.1.length+1=r.kd.fs.length
 free:∀w∈r.parts.1,32 ∉ w/\10 ∉ w/\w.length<=100
 last:10 ∉ r.parts.2/\r.parts.2.length<=100
 vals:fvs r.kd.fs (r.parts.1++[r.parts.2])=r.vals
theorem lx{x:List Nat}(h:eV x=true):32 ∉ x/\10 ∉ x/\x.length<=100:=⟨kE (sI h) (by decide),kE (sI h) (by decide),MR (jS (sI h)) (by decide)⟩
theorem Ec{m:Nat}{x:List Nat}(h:cE m x=true)(hm:m<=100):32 ∉ x/\10 ∉ x/\x.length<=100:=⟨kE h (by decide),kE h (by decide),MR (jS h) hm⟩
theorem Fz{x:List Nat}(h:lH x=true):32 ∉ x/\10 ∉ x/\x.length<=100:=by
 obtain⟨c,hc,rfl⟩:=xj h;have:=zR c hc;exact⟨by simpa using fun z=>this.1 z.symm,by simpa using fun z=>this.2 z.symm,by simp⟩
theorem Aq{i:Int}(h0:0<=i)(h1:i<=24):32 ∉ dg i/\10 ∉ dg i/\(dg i).length<=100:=⟨(j5 h0 h1).2.2.2.2.1,(j5 h0 h1).2.2.2.2.2,MR (j5 h0 h1).2.1 (by decide)⟩
theorem Hv{x:List Nat}(h:eV x=true\/x=[98,97,99,107]):32 ∉ x/\10 ∉ x/\x.length<=100:=by
 rcases h with h | h
 ·exact lx h
 ·subst h;exact⟨by decide,by decide,by decide⟩
theorem zr{x:List Nat}(h:k8 x=true):10 ∉ x/\x.length<=100:=⟨Cb h,MR (wA h) (by decide)⟩
theorem all1{P:List Nat->Prop}{a:List Nat}(h:P a):∀w∈[a],P w:=fun w hw=>by rw[NA.mp hw];exact h
theorem zC(r:Rw)(g:GRw r):PartsOk r:=by
 cases r with
 | first n=>exact⟨rfl,fun w hw=>(by cases hw),(lx g).2,by show [fv .name (cd n)]=[PV.str n];rw[mn g,gi]⟩
 | letters k l=>
  exact⟨rfl,all1 (Fz g.1),(Ec g.2.2 (by decide)).2,by show [fv .lkey (cd k),fv .letters l]=[PV.str k,PV.str (mkS l)];rw[J1 g.1 g.2.1,J0 g.2.2,gi]⟩
 | ben x=>
  cases x with
  | key k t=>exact⟨rfl,all1 (Fz g.1),(Hv g.2).2,by show [fv .key (cd k),fv .target (cd t)]=[PV.str k,PV.str t];rw[J2 g.1,IY g.2,gi,gi]⟩
  | name w t=>exact⟨rfl,all1 (Ec g.1 (by decide)),(lx g.2).2,by show [fv .word (cd w),fv .name (cd t)]=[PV.str w,PV.str t];rw[IX g.1,mn g.2,gi,gi]⟩
  | span a b t=>
   obtain⟨a0,a1,b0,b1,ht⟩:=g;refine⟨rfl,fun w hw=>?_,(lx ht).2,by show [fv .from_ (dg a),fv .till (dg b),fv .name (cd t)]=[PV.int a,PV.int b,PV.str t];rw[D0 a0 a1,CZ b0 b1,mn ht,gi]⟩;have hw:w=dg a\/w=dg b:=by simpa [Rw.parts,pH] using hw
   rcases hw with rfl | rfl
   ·exact Aq (by omega) (by omega)
   ·exact Aq (by omega) (by omega)
 | room n r=>
  obtain⟨hn,hr,hb⟩:=g
  have lim:∀(t:Str)(wr wa:Int×Str),k8 (cd t)=true->Bt wr->Bt wa->(∀w∈[cd n,dg wr.1,cd wr.2,dg wa.1,cd wa.2],32 ∉ w/\10 ∉ w/\w.length<=100)/\[fv .name (cd n),fv .many (dg wr.1),fv .name (cd wr.2),fv .many (dg wa.1),fv .name (cd wa.2),fv .text (cd t)]=[PV.str n,.int wr.1,.str wr.2,.int wa.1,.str wa.2,.str t]:=fun t wr wa ht h1 h2=>by
   refine⟨fun w hw=>?_,?_⟩
   ·have hw:w=cd n\/w=dg wr.1\/w=cd wr.2\/w=dg wa.1\/w=cd wa.2:=by simpa using hw
    have l1:=h1.1;have l2:=h1.2.1;have l3:=h2.1;have l4:=h2.2.1;rcases hw with rfl | rfl | rfl | rfl | rfl
    ·exact lx hn
    ·exact Aq (by omega) (by omega)
    ·exact lx h1.2.2
    ·exact Aq (by omega) (by omega)
    ·exact lx h2.2.2
   ·rw[mn hn,xI h1.1 h1.2.1,mn h1.2.2,xI h2.1 h2.2.1,mn h2.2.2,CY ht,gi,gi,gi,gi]
  cases r with
  | menu t ks wr wa=>exact⟨rfl,(lim t wr wa hr.1 hr.2.1 hr.2.2).1,zr hr.1,(lim t wr wa hr.1 hr.2.1 hr.2.2).2⟩
  | names t ks wr wa=>exact⟨rfl,(lim t wr wa hr.1 hr.2.1 hr.2.2).1,zr hr.1,(lim t wr wa hr.1 hr.2.1 hr.2.2).2⟩
  | hours sp l=>exact⟨rfl,all1 (lx hn),(lx hr).2,by show [fv .name (cd n),fv .name (cd l)]=[PV.str n,PV.str l];rw[mn hn,mn hr,gi,gi]⟩
  | hand t=>exact⟨rfl,all1 (lx hn),zr hr,by show [fv .name (cd n),fv .text (cd t)]=[PV.str n,PV.str t];rw[mn hn,CY hr,gi,gi]⟩
  | fin t=>exact⟨rfl,all1 (lx hn),zr hr,by show [fv .name (cd n),fv .text (cd t)]=[PV.str n,PV.str t];rw[mn hn,CY hr,gi,gi]⟩
theorem sQ(c:Nat)(t:List Nat)(ht:t.length<=100):∀ws:List (List Nat),(∀w∈ws,w.length<=100)->(TX.glue c ws t).length<=ws.length * 101+100
 | [],_=>by simpa [TX.glue] using ht
 | w::ws,h=>by
  have ih:=sQ c t ht ws fun w hw=>h w (Lq _ hw);have hw:=h w Lp;simp only[TX.glue,M1,LS];omega
theorem qg{c d:Nat}(hcd:d≠c)(t:List Nat)(ht:d ∉ t):∀ws:List (List Nat),(∀w∈ws,d ∉ w)->d ∉ TX.glue c ws t
 | [],_=>ht
 | w::ws,h=>by
  have ih:=qg hcd t ht ws fun w hw=>h w (Lq _ hw);have hw:=h w Lp;simp only[TX.glue,MA,LJ,not_or];exact⟨hw,hcd,ih⟩
theorem Bd(k:Kd):10 ∉ k.c/\k.c.length<=100:=by cases k <;> decide
theorem yQ(r:Rw):r.vals.any lF=false:=by
 cases r with
 | first n=>rfl
 | letters k l=>rfl
 | room n r=>cases r <;> rfl
 | ben x=>cases x <;> rfl
theorem JL{s:Str}(h:lH (cd s)=true):KyS s:=by
 obtain⟨c,hc,e⟩:=xj h;exact⟨c,hc,by rw[← e,gi]⟩
theorem sf(r:Rw)(g:GRw r):RTx r (cQ r)/\10 ∉ cQ r/\(cQ r).length<=1000:=by
 have p:=zC r g;have l6:r.kd.fs.length<=6:=by cases r.kd <;> decide
 have hl:(cQ r).length<=1000:=by
  have:=sQ 32 r.parts.2 p.last.2 (r.kd.c::r.parts.1) fun w hw=>by
   rcases LJ.mp hw with rfl | hw
   ·exact(Bd _).2
   ·exact(p.free w hw).2.2
  have q:=p.len;rw[LS] at this;unfold cQ;omega
 refine⟨⟨?_,by omega,CF _ _ _,BV _ _ _ p.len (fun w hw=>(p.free w hw).1) _ p.vals (yQ r)⟩,qg (by decide) _ p.last.1 _ fun w hw=>?_,hl⟩
 ·cases r with
  | first n=>trivial
  | letters k l=>exact⟨JL g.1,MR (jS g.2.2) (by decide)⟩
  | room n r=>exact g.2.2
  | ben x=>
   cases x with
   | key k t=>exact JL g.1
   | name w t=>trivial
   | span a b t=>trivial
 ·rcases LJ.mp hw with rfl | hw
  ·exact(Bd _).1
  ·exact(p.free w hw).2.1
def ki:Room->Room
 | .menu t _ a b=>.menu t [] a b | .names t _ a b=>.names t [] a b | .hours _ l=>.hours [] l | .hand t=>.hand t | .fin t=>.fin t
def aW:Room->List Bn
 | .menu _ ks _ _=>ks.map fun k=>.key k.1 k.2 | .names _ ks _ _=>ks.map fun k=>.name k.1 k.2 | .hours sp _=>sp.map fun s=>.span s.1 s.2.1 s.2.2 | _=>[]
def ku:Room->List Bn->Option Room
 | r,[]=>some r
 | r,x::xs=>(ma r x).bind fun r'=>ku r' xs
def dw(r:Str×Room):List Rw:=.room r.1 (ki r.2)::(aW r.2).map .ben
def gO(h:House):List Rw:=.first h.first::((h.letters.map fun l=>.letters l.1 (cd l.2))++h.rooms.flatMap dw)
def pX:List (Str×Str)->List (Str×Str)->Bool
 | _,[]=>true
 | p,z::s=>vf p z.1 && !dbl p (cd z.2) && pX (p++[z]) s
structure GoodRoom(r:Room):Prop where
 g:AF r
 bs:∀x∈aW r,GBn x
 fb:ku (ki r) (aW r)=some r
 nw:∀t ks a b,r=.names t ks a b->ks≠[]
 nb:(aW r).length<=12
structure GoodH(h:House):Prop where
 fst:eV (cd h.first)=true
 ls:∀l∈h.letters,GRw (.letters l.1 (cd l.2))
 lo:pX [] h.letters=true
 ln:h.letters.length<=100
 rn:h.rooms.length<=12
 re:h.rooms≠[]
 nd:(FA.names h.rooms).Nodup
 rs:∀r∈h.rooms,eV (cd r.1)=true/\GoodRoom r.2
theorem qk(a b:List Rw):∀h:House,gy h (a++b)=(gy h a).bind fun h'=>gy h' b:=by
 induction a with
 | nil=>intro h;rfl
 | cons r a ih=>
  intro h;show ((cA h r).bind fun h'=>gy h' (a++b))=((cA h r).bind fun h'=>gy h' a).bind _;cases cA h r with
  | none=>rfl
  | some h'=>exact ih h'
theorem sS (f:Str) (hf:f≠LB ""):∀(s p:List (Str×Str)),pX p s=true->gy ⟨f,p,[]⟩ (s.map fun l=>.letters l.1 (cd l.2))=some ⟨f,p++s,[]⟩
 | [],p,_=>by rw[Mh];rfl
 | z::s,p,h=>by
  simp only[pX,M6,Qb] at h;have ih:=sS f hf s (p++[z]) h.2
  have e:cA ⟨f,p,[]⟩ (.letters z.1 (cd z.2))=some ⟨f,p++[z],[]⟩:=by
   simp only[cA,vj];rw[if_neg hf,if_pos ⟨trivial,h.1.1,h.1.2⟩];simp only[gi]
  show ((cA ⟨f,p,[]⟩ (.letters z.1 (cd z.2))).bind _)=_;rw[e];show gy ⟨f,p++[z],[]⟩ _=_;rw[ih,Nd];rfl
theorem sT (f:Str) (hf:f≠LB "") (ls:List (Str×Str)) (ys:List (Str×Room)) (n:Str):∀(bs:List Bn) (r r':Room),ku r bs=some r'->gy ⟨f,ls,ys++[(n,r)]⟩ (bs.map .ben)=some ⟨f,ls,ys++[(n,r')]⟩
 | [],r,r',h=>by cases h;rfl
 | x::bs,r,r',h=>by
  unfold ku at h;cases ha:ma r x with
  | none=>rw[ha] at h;cases h
  | some r1=>
   rw[ha] at h;have ih:=sT f hf ls ys n bs r1 r' h
   have e:cA ⟨f,ls,ys++[(n,r)]⟩ (.ben x)=some ⟨f,ls,ys++[(n,r1)]⟩:=by
    simp only[cA,m8];rw[if_neg hf,NH];simp only[ha];show some (House.mk f ls ((ys++[(n,r)]).dropLast++[(n,r1)]))=_;rw[Q6]
   show ((cA ⟨f,ls,ys++[(n,r)]⟩ (.ben x)).bind _)=_;rw[e];exact ih
theorem mY (f:Str) (hf:f≠LB "") (ls:List (Str×Str)):∀(rs ys:List (Str×Room)),(ys++rs).length<=12->(FA.names (ys++rs)).Nodup->(∀r∈rs,GoodRoom r.2)->gy ⟨f,ls,ys⟩ (rs.flatMap dw)=some ⟨f,ls,ys++rs⟩
 | [],ys,_,_,_=>by rw[Mh];rfl
 | (n,r)::rs,ys,hl,nd,hg=>by
  have g:=hg (n,r) Lp
  have hn:n ∉ FA.names ys:=fun z=>by
   unfold FA.names at nd z;rw[MD,NK] at nd;exact nd.2.2 n z n (by simp) rfl
  have hl2:ys.length≠12:=by
   rw[M1,LS] at hl;omega
  have e:cA ⟨f,ls,ys⟩ (.room n (ki r))=some ⟨f,ls,ys++[(n,ki r)]⟩:=by
   simp only[cA];rw[if_neg hf,if_neg fun z=>z.elim hl2 hn]
  have e2:=sT f hf ls ys n (aW r) (ki r) r g.fb;have ih:=mY f hf ls rs (ys++[(n,r)]) (by simpa using hl) (by simpa using nd) fun r hr=>hg r (Lq _ hr);rw[Qa,qk]
  have e3:gy ⟨f,ls,ys⟩ (dw (n,r))=some ⟨f,ls,ys++[(n,r)]⟩:=by
   show ((cA ⟨f,ls,ys⟩ (.room n (ki r))).bind fun h'=>gy h' ((aW r).map .ben))=_;rw[e];exact e2
  rw[e3];show gy ⟨f,ls,ys++[(n,r)]⟩ _=_;rw[ih];simp
theorem Il {s:Str} (h:eV (cd s)=true):s≠LB "":=fun z=>by subst z;revert h;decide +kernel
theorem uM(h:House)(g:GoodH h):gy gK (gO h)=some h:=by
 have hf:=Il g.fst;have e1:cA gK (.first h.first)=some ⟨h.first,[],[]⟩:=by simp only[cA,gK];exact if_pos trivial
 show ((cA gK (.first h.first)).bind _)=_;rw[e1];show gy ⟨h.first,[],[]⟩ _=_;rw[qk,sS h.first hf h.letters [] g.lo];show gy ⟨h.first,[]++h.letters,[]⟩ _=_;rw[mY h.first hf ([]++h.letters) h.rooms [] (by simpa using g.rn) (by simpa using g.nd) fun r hr=>(g.rs r hr).2];rfl
theorem DC(r:Room):qd (ki r):=by cases r <;> first | rfl | trivial
theorem Gc(r:Room)(g:AF r):AF (ki r):=by cases r <;> exact g
theorem pk(h:House)(g:GoodH h):∀r∈gO h,GRw r:=fun r hr=>by
 rcases LJ.mp hr with rfl | hr
 ·exact g.fst
 ·rcases MA.mp hr with hr | hr
  ·obtain⟨l,hl,rfl⟩:=M8.mp hr
   exact g.ls l hl
  ·obtain⟨z,hz,hr⟩:=List.mem_flatMap.mp hr
   obtain⟨hn,gr⟩:=g.rs z hz;rcases LJ.mp hr with rfl | hr
   ·exact⟨hn,Gc _ gr.g,DC _⟩
   ·obtain⟨x,hx,rfl⟩:=M8.mp hr
    exact gr.bs x hx
def NW:List Rw->Prop
 | []=>True
 | r::s=>(r.kd=.names->∃r' s',s=r'::s'/\r'.kd=.name)/\NW s
theorem Bo:∀rs:List Rw,NW rs->∀(i:Nat)(r:Rw),rs[i]?=some r->r.kd=.names->∃r',rs[i+1]?=some r'/\r'.kd=.name
 | [],_,i,r,h,_=>by simp at h
 | q::s,hw,0,r,h,hk=>by
  have h:q=r:=by simpa using h
  subst h;obtain⟨r',s',rfl,h2⟩:=hw.1 hk;exact⟨r',rfl,h2⟩
 | q::s,hw,i+1,r,h,hk=>by
  obtain⟨r',e1,e2⟩:=Bo s hw.2 i r (by simpa using h) hk;exact⟨r',by simpa using e1,e2⟩
theorem Bp(s:List Rw)(hs:NW s):∀bs:List Bn,NW (bs.map .ben++s)
 | []=>hs
 | x::bs=>⟨fun h=>(by cases x <;> cases h),Bp s hs bs⟩
theorem tR:∀rs:List (Str×Room),(∀r∈rs,GoodRoom r.2)->NW (rs.flatMap dw)
 | [],_=>trivial
 | (n,r)::rs,hg=>by
  have ih:=tR rs fun r hr=>hg r (Lq _ hr);have g:=hg (n,r) Lp;rw[Qa];refine⟨fun h=>?_,Bp _ ih _⟩;cases r with
  | names t ks a b=>
   have hk:=g.nw t ks a b rfl;cases ks with
   | nil=>exact absurd rfl hk
   | cons k ks=>exact⟨.ben (.name k.1 k.2),_,rfl,rfl⟩
  | menu t ks a b=>cases h
  | hours sp l=>cases h
  | hand t=>cases h
  | fin t=>cases h
theorem AB(h:House)(g:GoodH h):NW (gO h):=by
 refine⟨fun h=>(by cases h),?_⟩;have hr:=tR h.rooms fun r hr=>(g.rs r hr).2
 have:∀(ls:List (Str×Str))(s:List Rw),NW s->NW ((ls.map fun l=>Rw.letters l.1 (cd l.2))++s):=fun ls s hs=>by
  induction ls with
  | nil=>exact hs
  | cons l ls ih=>exact⟨fun h=>(by cases h),ih⟩
 exact this h.letters _ hr
theorem vI(r:Rw)(h:stw kh (cQ r)=true):r.kd=.names:=by
 have h:=of_decide_eq_true h;have e:cQ r=r.kd.c++32::TX.glue 32 r.parts.1 r.parts.2:=rfl;rw[e] at h;generalize TX.glue 32 r.parts.1 r.parts.2=q at h;generalize r.kd=k at h ⊢;cases k <;> first | rfl | (simp[Kd.c,kh] at h)
theorem yT(r:Rw)(h:r.kd=.name):stw uX (cQ r)=true:=by
 have e:cQ r=r.kd.c++32::TX.glue 32 r.parts.1 r.parts.2:=rfl;unfold stw;rw[e,h];rfl
def rW(h:House):Str:=mkS (cD ((gO h).map cQ))
theorem q8:∀xs:List (List Nat),(∀x∈xs,x.length<=1000)->(cD xs).length<=xs.length * 1001
 | [],_=>by simp[cD]
 | [x],h=>by have:=h x (by simp);simp[cD];omega
 | x::y::r,h=>by
  have ih:=q8 (y::r) fun z hz=>h z (Lq _ hz);have:=h x (by simp);simp only[cD,M1,LS] at ih ⊢;omega
theorem se(h:House)(g:GoodH h):(gO h).length<=300:=by
 have:∀rs:List (Str×Room),(∀r∈rs,GoodRoom r.2)->(rs.flatMap dw).length<=rs.length * 13:=fun rs hg=>by
  induction rs with
  | nil=>simp
  | cons r rs ih=>
   have h1:=ih fun r hr=>hg r (Lq _ hr);have h2:=(hg r Lp).nb;rw[Qa,M1,LS];have:(dw r).length=(aW r.2).length+1:=by simp[dw]
   omega
 have h1:=this h.rooms fun r hr=>(g.rs r hr).2;have h2:=g.rn;have h3:=g.ln;show (_::_).length<=_;rw[LS,M1,LI];omega
theorem wc(h:House)(g:GoodH h):bf [.str (rW h)]=some (aq h):=by
 have hr:=pk h g;have hl:=se h g;refine read_house (gO h) ((gO h).map cQ) h (by rw[LI]) (by omega) (by simp[gO]) (fun i r x h1 h2=>?_) (fun x hx=>?_) ?_ (uM h g) g.re fun i x hx hs=>?_
 ·rw[LR,h1] at h2
  cases h2;exact(sf r (hr r (O3 h1))).1
 ·obtain⟨r,hm,rfl⟩:=M8.mp hx
  exact(sf r (hr r hm)).2.1
 ·have:=q8 ((gO h).map cQ) fun x hx=>by
   obtain⟨r,hm,rfl⟩:=M8.mp hx;exact(sf r (hr r hm)).2.2
  rw[LI] at this;omega
 ·rw[LR] at hx
  cases e:(gO h)[i]? with
  | none=>rw[e] at hx;cases hx
  | some r=>
   rw[e] at hx;cases hx;obtain⟨r',e1,e2⟩:=Bo _ (AB h g) i r e (vI r hs);exact⟨cQ r',by rw[LR,e1];rfl,yT r' e2⟩
theorem rL(ns:List Int)(k:Nat):ba [.lst (ns.map .int),.int k]=some (.int (ns.getD k 0)):=by
 refine aG rfl ?_
 by_cases hk:k<ns.length
 ·have h2:(k:Int)<ns.length:=by omega
  have h3:atI (ns.map PV.int) (k:Int)=some (.int ns[k]):=bW rfl (by simp[hk]);simp[dZ,PU.start,h2,h3,hk]
 ·have h2:¬ (k:Int)<ns.length:=by omega
  simp[dZ,PU.start,h2,hk]
theorem mixed(a b:Int)(hb:0<=b/\b<2 ^ 30):dk [.int a,.int b]=some (.int (a % 2147483647 * b % 2147483647)):=by
 refine aG rfl ?_;have h:-(2 ^ 64)<a % 2147483647/\a % 2147483647<2 ^ 64:=by omega
 simp (disch:=omega) [j4,PU.start,vz,dW]
open NM
abbrev nst(n:Int)(many:Nat)(done:List PV)(a b c d:Sl):PSt:=
 [Sl.val (PV.int n),Sl.val (PV.int many),Sl.val (PV.str (mkS c24)),Sl.val (PV.int (1+n % 8)),Sl.val (PV.int (n / 8 % (1+n % 8))),Sl.own (PV.lst done),a,b,c,d]
theorem zI(n:Int)(many:Nat)(done:List PV)(t k:Nat)(x:List Nat)(d:Sl)(hx:x.length<=1000)(hk:k<1000000) :
  eE (nst n many done (.val (.int t)) (.val (.str (mkS x))) (.val (.int k)) d)=.ok (.next (nst n many done (.val (.int t)) (.val (.str (mkS (x++[k7 n t k])))) (.val (.int k)) (.val (.int ((t:Int) * (if (k:Int)=vi n then 1 else 0)))))):=by
 have h1:(if (k:Int)=n / 8 % (1+n % 8) then (1:Int) else 0).natAbs<18446744073709551616:=by split <;> decide
 have h2:yF (.int t) (.int (if (k:Int)=n / 8 % (1+n % 8) then 1 else 0))=some (.int ((t:Int) * (if (k:Int)=vi n then 1 else 0))):=vz (.inr h1)
 have h3:∀z:Int,gIx (.str (mkS c24)) (.int (z % 24))=some (.str ⟨#[c24.getD (z % 24).toNat 0]⟩):=fun z=>nv (by decide) (by
  rw[aD];refine tK 0 (by omega) ?_;show z % 24<24;omega)
 have h4:∀c:Nat,bD (.str (mkS x)) (.str ⟨#[c]⟩)=some (.str (mkS (x++[c]))):=fun c=>by
  rw[wV,bZ (by simp;omega),aB]
 simp (disch:=omega) [eE,nst,h2,iH,dW,h3,h4,k7]
theorem zG(n:Int)(many:Nat)(done:List PV)(t:Nat)(b c d:Sl)(hd:done.length<1000):∃c' d',
  eD (nst n many done (.val (.int t)) b c d)=.ok (.next (nst n many (done++[.str (nm n t)]) (.val (.int t)) (.val (.str (nm n t))) c' d')):=by
 have hs:=pP n
 obtain⟨ρ',e,c',d',rfl⟩:=forR (n:=dD n) (lo:=0) (h:=ak 8) (g:=eE) (ρ:=nst n many done (.val (.int t)) (.val (.str (mkS []))) c d)
  (I:=fun i ρ=>∃c d,ρ=nst n many done (.val (.int t)) (.val (.str (mkS (bR n t i)))) c d) ⟨_,_,rfl⟩ (by
   rintro i ρ hi ⟨c,d,rfl⟩;have e:=zI n many done t i (bR n t i) d (by simp[bR];omega) (by omega);rw[← pQ] at e;rw[SK];exact⟨_,_,rfl,.inl e,_,_,rfl⟩)
 refine⟨c',d',?_⟩;have e0:(1+n % 8).toNat=dD n:=rfl;have hd':done.length<16777216:=by omega
 simp (disch:=omega) [eD,jB,tW,e0];rw[e];simp[hd',nm]
theorem names(n:Int)(many:Nat)(hm:many<=1000):ff [.int n,.int many]=some (.lst ((M9 many).map fun t=>.str (nm n t))):=by
 refine aG rfl ?_;have hsz:0<1+n % 8:=by omega
 simp (disch:=omega) [j3,PU.start,dW,iH,tW,Gb]
 obtain⟨ρ',e,a,b,c,d,rfl⟩:=forR (n:=many) (lo:=0) (h:=ak 6) (g:=eD) (ρ:=nst n many [] .no .no .no .no)
  (I:=fun i ρ=>∃a b c d,ρ=nst n many ((M9 i).map fun t=>.str (nm n t)) a b c d) ⟨_,_,_,_,rfl⟩ (by
   rintro i ρ hi ⟨a,b,c,d,rfl⟩;obtain⟨c',d',e⟩:=zG n many ((M9 i).map fun t=>.str (nm n t)) i b c d (by simp;omega);rw[SK,List.range_succ,MD];exact⟨_,_,rfl,.inl e,_,_,_,_,rfl⟩)
 rw[e];simp
def c94:List Nat:=[32,33,34,35,36,38,39,40,41,42,43,44,45,46,47,48,49,50,51,52,53,54,55,56,57,58,59,60,61,62,63,64,65,66,67,68,69,70,71,72,73,74,75,76,77,78,79,80,81,82,83,84,85,86,87,88,89,90,91,92,93,94,95,96,97,98,99,100,101,102,103,104,105,106,107,108,109,110,111,112,113,114,115,116,117,118,119,120,121,122,123,124,125,126]
theorem Ga:bD (.str " !\"#$&'()*+,-./0123456789:;<=>?@ABCDEFGHIJKLMNOPQRSTUVWXYZ") (.str "[\\]^_`abcdefghijklmnopqrstuvwxyz{|}~")=some (.str (mkS c94)):=by
 have h1:(" !\"#$&'()*+,-./0123456789:;<=>?@ABCDEFGHIJKLMNOPQRSTUVWXYZ":Str).length+("[\\]^_`abcdefghijklmnopqrstuvwxyz{|}~":Str).length<=16777216:=by decide +kernel
 have h2:(" !\"#$&'()*+,-./0123456789:;<=>?@ABCDEFGHIJKLMNOPQRSTUVWXYZ":Str)++("[\\]^_`abcdefghijklmnopqrstuvwxyz{|}~":Str)=mkS c94:=by decide +kernel
 rw[bZ h1,h2]
theorem G9:∀c∈c94,CP c=true:=by decide +kernel
theorem Iu:∀c∈oK,(decide (97<=c) && decide (c<=122))=true:=by decide +kernel
theorem ixC(l:List Nat)(i:Int)(h0:0<=i)(h1:i<l.length)(hl:l.length<=1000):gIx (.str (mkS l)) (.int i)=some (.str ⟨#[l.getD i.toNat 0]⟩):=nv (by rw[cj];omega) (by rw[aD];exact tK 0 h0 h1)
theorem K3(x:List Nat)(c:Nat)(h:x.length<=1000):bD (.str (mkS x)) (.str ⟨#[c]⟩)=some (.str (mkS (x++[c]))):=by rw[wV,bZ (by simp;omega),aB]
theorem om{l:List Nat}{i:Nat}(h:i<l.length):l.getD i 0∈l:=by rw[MN,LU h];exact MV h
theorem AY(n:Int):∃x:List Nat,k8 x=true/\dj [.int n]=some (.str (mkS x)):=by
 have hsz:∃z:Int,1<=z/\z<=80/\gIx (.lst [.int (1+n % 9),.int 80]) (.int (n / 128 % 6 / 5))=some (.int z):=by
  have h:n / 128 % 6 / 5=0\/n / 128 % 6 / 5=1:=by omega
  rcases h with h | h <;> rw[h]
  ·exact⟨1+n % 9,by omega,by omega,by simp⟩
  ·exact⟨80,by omega,by omega,by simp⟩
 obtain⟨z,z0,z1,hz⟩:=hsz
 obtain⟨ρ',e,a,x,b,rfl,hl,hc⟩:=forR (n:=z.toNat) (lo:=0) (h:=ak 3) (g:=gE) (ρ:=[.val (.int n),.val (.str (mkS c94)),.val (.str (mkS [])),.no])
  (I:=fun i ρ=>∃a x b,ρ=[.val (.int a),.val (.str (mkS c94)),.val (.str (mkS x)),b]/\x.length=i/\∀c∈x,c∈c94) ⟨_,_,_,rfl,rfl,by simp⟩ (by
   rintro i ρ hi ⟨a,x,b,rfl,hl,hc⟩;refine⟨_,_,rfl,.inl ?_,(a * 69621+7) % 2147483629,x++[c94.getD ((a * 69621+7) % 2147483629 % 94).toNat 0],(.val (.int i)),rfl,by simp[hl],?_⟩
   ·have h3:∀y:Int,gIx (.str (mkS c94)) (.int (y % 94))=some (.str ⟨#[c94.getD (y % 94).toNat 0]⟩):=fun y=>ixC _ _ (by omega) (by show y % 94<94;omega) (by decide)
    have h4:∀c:Nat,bD (.str (mkS x)) (.str ⟨#[c]⟩)=some (.str (mkS (x++[c]))):=fun c=>K3 x c (by omega);have h5:iC (.str (mkS c94))=some (.int 94):=by rw[fw (by decide)];rfl
    simp (disch:=omega) [gE,vz,dW,h3,h4,h5]
   ·intro c hm
    rcases MA.mp hm with hm | hm
    ·exact hc c hm
    ·have:c=c94.getD ((a * 69621+7) % 2147483629 % 94).toNat 0:=by simpa using hm
     rw[this];refine om ?_;show _<94;omega)
 refine⟨x,?_,aG rfl ?_⟩
 ·unfold k8
  rw[decide_eq_true (by omega),decide_eq_true (by omega),MY.mpr fun c hm=>G9 c (hc c hm)];rfl
 ·simp (disch:=omega) [j0,PU.start,Ga,jB,dW,iH,hz,tW]
  rw[e];simp
theorem Hq(n:Int):∃x:List Nat,cE 12 x=true/\gb [.int n]=some (.str (mkS x)):=by
 obtain⟨ρ',e,a,x,b,rfl,hl,hc⟩:=forR (n:=(1+n % 12).toNat) (lo:=0) (h:=ak 2) (g:=ij) (ρ:=[.val (.int n),.val (.str (mkS [])),.no])
  (I:=fun i ρ=>∃a x b,ρ=[.val (.int a),.val (.str (mkS x)),b]/\x.length=i/\∀c∈x,c∈oK) ⟨_,_,_,rfl,rfl,by simp⟩ (by
   rintro i ρ hi ⟨a,x,b,rfl,hl,hc⟩;refine⟨_,_,rfl,.inl ?_,(a * 48271+11) % 2147483647,x++[oK.getD ((a * 48271+11) % 2147483647 / 8 % 26).toNat 0],(.val (.int i)),rfl,by simp[hl],?_⟩
   ·have h3:∀y:Int,gIx (.str (mkS oK)) (.int (y % 26))=some (.str ⟨#[oK.getD (y % 26).toNat 0]⟩):=fun y=>ixC _ _ (by omega) (by show y % 26<26;omega) (by decide)
    have h4:∀c:Nat,bD (.str (mkS x)) (.str ⟨#[c]⟩)=some (.str (mkS (x++[c]))):=fun c=>K3 x c (by omega);simp (disch:=omega) [ij,vz,dW,iH,h3,h4,sa]
   ·intro c hm
    rcases MA.mp hm with hm | hm
    ·exact hc c hm
    ·have:c=oK.getD ((a * 48271+11) % 2147483647 / 8 % 26).toNat 0:=by simpa using hm
     rw[this];refine om ?_;show _<26;omega)
 refine⟨x,?_,aG rfl ?_⟩
 ·unfold cE
  rw[decide_eq_true (by omega),decide_eq_true (by omega),MY.mpr fun c hm=>Iu c (hc c hm)];rfl
 ·simp (disch:=omega) [jT,PU.start,jB,dW,iH,tW]
  rw[e];simp
theorem Cs(n:Int)(t:Nat):eV (cd (nm n t))=true:=by
 have hs:=pP n;have hm:∀c∈c24,(decide (97<=c) && decide (c<=122))=true:=by decide
 have hl:(bR n t (dD n)).length=dD n:=by simp[bR]
 have h1:cE 8 (bR n t (dD n))=true:=by
  unfold cE;rw[hl,decide_eq_true hs.1,decide_eq_true hs.2,MY.mpr fun c hc=>?_]
  ·rfl
  ·obtain⟨k,_,rfl⟩:=M8.mp hc
   refine hm _ (om ?_);show _<24;omega
 have h2:bR n t (dD n)≠[98,97,99,107]:=fun z=>(Fn n t).1 (by
  show mkS (bR n t (dD n))=_;rw[z,oG])
 show eV (mkS (bR n t (dD n))).cps.toList=true;rw[aD];unfold eV;rw[h1,decide_eq_false h2];rfl
end K02
namespace K02
open PySem L2 PU MT NM
theorem gx(x y:Str):∀(l:List Str),y∈kF x l ↔ y=x\/y∈l
 | []=>by simp[kF]
 | z::r=>by
  unfold kF
  split
  ·rename_i h
   subst h;simp
  ·split
   ·simp
   ·simp only[LJ,gx x y r]
    constructor
    ·rintro (h | h | h)
     ·exact .inr (.inl h)
     ·exact .inl h
     ·exact .inr (.inr h)
    ·rintro (h | h | h)
     ·exact .inr (.inl h)
     ·exact .inl h
     ·exact .inr (.inr h)
theorem oX(y:Str):∀(l:List Str),y∈cN l ↔ y∈l
 | []=>by simp[cN]
 | x::r=>by
  show y∈kF x (cN r) ↔ _;rw[gx,oX y r,LJ]
theorem oj(x:Str):∀(l:List Str),1<=(kF x l).length/\(kF x l).length<=l.length+1
 | []=>by simp[kF]
 | z::r=>by
  have:=oj x r;unfold kF
  split
  ·simp
  ·split
   ·simp
   ·simp;omega
theorem oY:∀(l:List Str),(cN l).length<=l.length
 | []=>by simp[cN]
 | x::r=>by
  show (kF x (cN r)).length<=_;have:=oj x (cN r);have:=oY r;simp;omega
abbrev Lt(a b:Str):Prop:=a.cps.toList<b.cps.toList
theorem wY{a b:Str}(h1:a≠b)(h2:¬ Lt a b):Lt b a:=by
 have h3:b.cps.toList<=a.cps.toList:=PD.mp h2
 by_cases h:Lt b a
 ·exact h
 ·have h4:a.cps.toList<=b.cps.toList:=PD.mp h
  have e:a.cps.toList=b.cps.toList:=Ql h4 h3;exact absurd (by rw[bh a,bh b,e]) h1
theorem mV(x:Str):∀l:List Str,l.Pairwise Lt->(kF x l).Pairwise Lt
 | [],_=>by simp[kF]
 | y::r,h=>by
  unfold kF
  split
  ·exact h
  ·rename_i hxy
   split
   ·rename_i hlt
    refine Mo.mpr ⟨fun z hz=>?_,h⟩;rcases LJ.mp hz with rfl | hz
    ·exact hlt
    ·exact List.lt_trans hlt ((Mo.mp h).1 z hz)
   ·rename_i hlt
    refine Mo.mpr ⟨fun z hz=>?_,mV x r (Mo.mp h).2⟩;rcases (gx x z r).mp hz with rfl | hz
    ·exact wY hxy hlt
    ·exact(Mo.mp h).1 z hz
theorem kU:∀l:List Str,(cN l).Pairwise Lt
 | []=>by simp[cN]
 | x::r=>mV x _ (kU r)
theorem vy{xs:List Str}(h:xs.length<64):jt (.lst (xs.map .str))=some (.lst ((cN xs).map .str)):=by
 show (iG (xs.map PV.str)).bind (fun ys=>if ys.length<64 then some (PV.lst ((cN ys).map .str)) else none)=_;rw[nh,PL,if_pos h]
theorem xt:∀(ws:List (List Nat)) (t:List Nat),NY " " ((ws++[t]).map mkS)=mkS (TX.glue 32 ws t)
 | [],t=>rfl
 | [w],t=>by
  show mkS w++LB " "++mkS t=mkS (w++32::t);rw[kT,show (⟨#[32]⟩:Str)=mkS [32] from rfl,aB,aB,Nd];rfl
 | w::v::ws,t=>by
  have ih:=xt (v::ws) t;have e:NY " " ((w::v::ws++[t]).map mkS)=mkS w++LB " "++NY " " ((v::ws++[t]).map mkS):=rfl;rw[e,ih,kT,show (⟨#[32]⟩:Str)=mkS [32] from rfl,aB,aB,Nd];rfl
theorem BY (k t:Str):LB "key "++k++LB " "++t=mkS (cQ (.ben (.key k t))):=by
 have e:LB "key "=mkS [107,101,121,32]:=by decide +kernel
 rw[e,kT,show (⟨#[32]⟩:Str)=mkS [32] from rfl,bh k,bh t,aB,aB,aB];simp[cQ,Rw.kd,Bn.kd,Rw.parts,pH,Kd.c,TX.glue,cd]
theorem za (k t:Str):LB "name "++k++LB " "++t=mkS (cQ (.ben (.name k t))):=by
 have e:LB "name "=mkS [110,97,109,101,32]:=by decide +kernel
 rw[e,kT,show (⟨#[32]⟩:Str)=mkS [32] from rfl,bh k,bh t,aB,aB,aB];simp[cQ,Rw.kd,Bn.kd,Rw.parts,pH,Kd.c,TX.glue,cd]
theorem zc (a b:Int) (t:Str):LB "from "++num a++LB " "++num b++LB " "++t=mkS (cQ (.ben (.span a b t))):=by
 have e:LB "from "=mkS [102,114,111,109,32]:=by decide +kernel
 rw[e,kT,show (⟨#[32]⟩:Str)=mkS [32] from rfl,bh (num a),bh (num b),bh t,aB,aB,aB,aB,aB];simp[cQ,Rw.kd,Bn.kd,Rw.parts,pH,Kd.c,TX.glue,cd,dg]
theorem vW (n t:Str):LB "hours "++n++LB " "++t=mkS (cQ (.room n (.hours [] t))):=by
 have e:LB "hours "=mkS [104,111,117,114,115,32]:=by decide +kernel
 rw[e,kT,show (⟨#[32]⟩:Str)=mkS [32] from rfl,bh n,bh t,aB,aB,aB];simp[cQ,Rw.kd,Room.kd,Rw.parts,sy,Kd.c,TX.glue,cd]
theorem zb (n t:Str):LB "hand"++LB " "++n++LB " "++t=mkS (cQ (.room n (.hand t))):=by
 have e:LB "hand"=mkS [104,97,110,100]:=by decide +kernel
 rw[e,kT,show (⟨#[32]⟩:Str)=mkS [32] from rfl,bh n,bh t,aB,aB,aB,aB];simp[cQ,Rw.kd,Room.kd,Rw.parts,sy,Kd.c,TX.glue,cd]
theorem BZ (n t:Str):LB "end"++LB " "++n++LB " "++t=mkS (cQ (.room n (.fin t))):=by
 have e:LB "end"=mkS [101,110,100]:=by decide +kernel
 rw[e,kT,show (⟨#[32]⟩:Str)=mkS [32] from rfl,bh n,bh t,aB,aB,aB,aB];simp[cQ,Rw.kd,Room.kd,Rw.parts,sy,Kd.c,TX.glue,cd]
theorem vX (n:Str):LB "first "++n=mkS (cQ (.first n)):=by
 have e:LB "first "=mkS [102,105,114,115,116,32]:=by decide +kernel
 rw[e,bh n,aB];simp[cQ,Rw.kd,Rw.parts,Kd.c,TX.glue,cd]
theorem qP (k l:Str):LB "letters "++k++LB " "++l=mkS (cQ (.letters k (cd l))):=by
 have e:LB "letters "=mkS [108,101,116,116,101,114,115,32]:=by decide +kernel
 rw[e,kT,show (⟨#[32]⟩:Str)=mkS [32] from rfl,bh k,bh l,aB,aB,aB];simp[cQ,Rw.kd,Rw.parts,Kd.c,TX.glue,cd]
theorem BX (k:Kd) (n an bn t:Str) (a b:Int):NY " " [k.s,n,num a,an,num b,bn,t]=mkS (TX.glue 32 [k.c,cd n,dg a,cd an,dg b,cd bn] (cd t)):=by
 rw[← xt]
 have:[k.s,n,num a,an,num b,bn,t]=([k.c,cd n,dg a,cd an,dg b,cd bn]++[cd t]).map mkS:=by
  simp only[PZ,Ol,LQ,Ot,gi,dg,← FH]
 rw[this]
theorem lR(a:List Bn)(x:Bn):∀r:Room,ku r (a++[x])=(ku r a).bind fun r'=>ma r' x:=by
 induction a with
 | nil=>intro r;show ((ma r x).bind fun r'=>ku r' [])=ma r x;cases ma r x <;> rfl
 | cons y a ih=>
  intro r;show ((ma r y).bind fun r'=>ku r' (a++[x]))=((ma r y).bind fun r'=>ku r' a).bind _;cases ma r y with
  | none=>rfl
  | some r'=>exact ih r'
theorem FB:∀j:Nat,j<12->kix (mkS [bp.getD j 0])=j:=by decide +kernel
theorem C2(xs:List (Str×Str))(k:Str)(i:Nat)(h:∀z∈xs,kix z.1<i)(hk:i<=kix k):vf xs k=true:=by
 rcases iY xs with rfl | ⟨ys,z,rfl⟩
 ·rfl
 ·unfold vf
  rw[NH];have:=h z (by simp);exact decide_eq_true (by omega)
theorem C1(xs:List (Str×Str))(w:Str)(h:∀z∈xs,Lt z.1 w):zj xs w=true:=by
 rcases iY xs with rfl | ⟨ys,z,rfl⟩
 ·rfl
 ·unfold zj
  rw[NH];exact decide_eq_true (h z (by simp))
abbrev lst(nms:List Str)(name:Str)(n:Int)(sort:Str)(wr wa:Int×Str)(t:Str)(lim row:PV)(th a b c d:Sl):PSt:=
 [.val (.lst (nms.map .str)),.val (.str name),.val (.int n),.val (.str sort),.val (pvI wr),.val (pvI wa),.val (.str t),.val lim,.val row,th,a,b,c,d]
def Tg(g:Str):Prop:=eV (cd g)=true\/cd g=[98,97,99,107]
theorem pN(nms:List Str)(hn:nms.length=14)(hN:∀x∈nms,eV (cd x)=true)(z:Int):∃g,eV (cd g)=true/\atI (nms.map PV.str) (z % 14)=some (.str g):=by
 have h:(z % 14).toNat<nms.length:=by omega
 exact⟨nms[(z % 14).toNat],hN _ (MV h),bW (n:=(z % 14).toNat) (by omega) (by rw[LR,LU h];rfl)⟩
theorem Dx:cd (LB "back")=[98,97,99,107]:=by rw[oG];exact aD _
theorem Fk (nms:List Str) (hn:nms.length=14) (hN:∀x∈nms,eV (cd x)=true) (z:Int):∃g,Tg g/\atI (nms.map PV.str++[.str "back"]) (z % 15)=some (.str g):=by
 have h:(z % 15).toNat<(nms++[LB "back"]).length:=by simp;omega
 refine⟨(nms++[LB "back"])[(z % 15).toNat],?_,?_⟩
 ·rcases MA.mp (MV h) with hm | hm
  ·exact .inl (hN _ hm)
  ·have:(nms++[LB "back"])[(z % 15).toNat]=LB "back":=by simpa using hm
   rw[this];exact .inr Dx
 ·rw[show nms.map PV.str++[.str "back"]=(nms++[LB "back"]).map .str by simp]
  exact bW (n:=(z % 15).toNat) (by omega) (by rw[LR,LU h];rfl)
theorem Fu(nms:List Str)(hn:nms.length=14)(hN:∀x∈nms,eV (cd x)=true)(name:Str)(n:Int)(sort:Str)(wr wa:Int×Str)(t:Str)(lim row:PV)(c d:Sl)(ks:List (Str×Str))(i:Nat)(hi:i<12)(hl:ks.length<=i)(k:Str) :
  ∃ks',(ks'=ks\/∃g,Tg g/\ks'=ks++[(k,g)])/\bC (lst nms name n sort wr wa t lim row (.own (.lst (ks.map pv2))) (.val (.int i)) (.val (.str k)) c d)=.ok (.next (lst nms name n sort wr wa t lim row (.own (.lst (ks'.map pv2))) (.val (.int i)) (.val (.str k)) c d)):=by
 by_cases h:n / (64+(i:Int)) % 3=0
 ·obtain⟨g,hg,e2⟩:=Fk nms hn hN (n / (5+(i:Int)))
  have hg1:(nms.map PV.str).length+[PV.str "back"].length<=16777216:=by simp;omega
  have e1:=eF hg1;refine⟨ks++[(k,g)],.inr ⟨g,hg,rfl⟩,?_⟩;have hq:ks.length<16777216:=by omega
  simp (disch:=omega) [bC,lst,iH,dW,h,e1,e2,hq,pv2]
 ·refine⟨ks,.inl rfl,?_⟩
  simp (disch:=omega) [bC,lst,iH,dW,h]
structure MenuI(t:Str)(wr wa:Int×Str)(i:Nat)(ks:List (Str×Str)):Prop where
 len:ks.length<=i
 bs:∀x∈aW (.menu t ks wr wa),GBn x
 fb:ku (.menu t [] wr wa) (aW (.menu t ks wr wa))=some (.menu t ks wr wa)
 kx:∀z∈ks,kix z.1<i
theorem zM{t:Str}{wr wa:Int×Str}{i:Nat}{ks:List (Str×Str)}(hi:i<12)(h:MenuI t wr wa i ks)(g:Str)(hg:Tg g):MenuI t wr wa (i+1) (ks++[(mkS [bp.getD i 0],g)]):=by
 have hk:=FB i hi;have hm:bp.getD i 0∈bp:=om hi;have hl:=h.len;refine⟨by simp;omega,fun x hx=>?_,?_,fun z hz=>?_⟩
 ·simp only[aW,MD,MA] at hx
  rcases hx with hx | hx
  ·exact h.bs x hx
  ·have:x=.key (mkS [bp.getD i 0]) g:=by simpa using hx
   subst this;refine⟨?_,hg⟩;show lH (mkS [bp.getD i 0]).cps.toList=true;rw[aD];exact decide_eq_true hm
 ·have e:aW (.menu t (ks++[(mkS [bp.getD i 0],g)]) wr wa)=aW (.menu t ks wr wa)++[.key (mkS [bp.getD i 0]) g]:=by simp[aW]
  rw[e,lR,h.fb];show ma (.menu t ks wr wa) (.key (mkS [bp.getD i 0]) g)=_;exact if_pos ⟨by omega,C2 ks _ i h.kx (by omega)⟩
 ·rcases MA.mp hz with hz | hz
  ·have:=h.kx z hz;omega
  ·have:z=(mkS [bp.getD i 0],g):=by simpa using hz
   subst this;show kix (mkS [bp.getD i 0])<i+1;omega
theorem wW(nms:List Str)(hn:nms.length=14)(hN:∀x∈nms,eV (cd x)=true)(name:Str)(n:Int)(sort:Str)(wr wa:Int×Str)(t:Str)(lim row:PV)(a b c d:Sl) :
  ∃ks a' b',MenuI t wr wa 12 ks/\qj (gF 2 (aE (ak 10) (aE (ak 11) gJ))) bC ((mN (fA "0123456789*#")).map .tup) (lst nms name n sort wr wa t lim row (.own (.lst [])) a b c d)=.ok (.next (lst nms name n sort wr wa t lim row (.own (.lst (ks.map pv2))) a' b' c d)):=by
 have hlen:((mN (fA "0123456789*#")).map PV.tup).length=12:=by
  rw[o9,WO.signs_mk];simp[mN,bp]
 obtain⟨ρ',f1,ks,a',b',rfl,hk⟩:=ir (ps:=(mN (fA "0123456789*#")).map .tup) (h:=gF 2 (aE (ak 10) (aE (ak 11) gJ))) (g:=bC) (ρ:=lst nms name n sort wr wa t lim row (.own (.lst [])) a b c d)
  (I:=fun i ρ=>∃ks a b,ρ=lst nms name n sort wr wa t lim row (.own (.lst (ks.map pv2))) a b c d/\MenuI t wr wa i ks) ⟨[],a,b,rfl,⟨LZ _,fun x hx=>(by cases hx),rfl,fun x hx=>(by cases hx)⟩⟩ (by
   rintro i p ρ hp ⟨ks,a,b,rfl,hk⟩;rw[LR,sD,o9,WO.signs_mk,LR] at hp
   by_cases hi:i<bp.length
   ·have e:bp[i]?=some (bp.getD i 0):=by rw[MN,LU hi];rfl
    rw[e] at hp;have hp:some (PV.tup [.int i,.str (mkS [bp.getD i 0])])=some p:=hp;cases hp;have hi:i<12:=hi;obtain⟨ks',h1,h2⟩:=Fu nms hn hN name n sort wr wa t lim row c d ks i hi hk.len (mkS [bp.getD i 0]);refine⟨_,_,rfl,.inl h2,ks',_,_,rfl,?_⟩;rcases h1 with rfl | ⟨g,hg,rfl⟩
    ·have hl:=hk.len
     exact⟨by omega,hk.bs,hk.fb,fun z hz=>by have:=hk.kx z hz;omega⟩
    ·exact zM hi hk g hg
   ·rw[MQ (by omega)] at hp
    cases hp)
 rw[hlen] at hk;exact⟨ks,a',b',hk,f1⟩
structure NamI(t:Str)(wr wa:Int×Str)(ws:List Str)(i:Nat)(ks:List (Str×Str)):Prop where
 fs:ks.map (·.1)=ws.take i
 bs:∀x∈aW (.names t ks wr wa),GBn x
 fb:ku (.names t [] wr wa) (aW (.names t ks wr wa))=some (.names t ks wr wa)
theorem uB(nms:List Str)(hn:nms.length=14)(hN:∀x∈nms,eV (cd x)=true)(name:Str)(n:Int)(sort:Str)(wr wa:Int×Str)(t:Str)(lim row:PV)(a b c d:Sl)(ws:List Str)(hw:ws.length<=12)(hW:∀w∈ws,cE 12 (cd w)=true)(hs:ws.Pairwise Lt) :
  ∃ks d',NamI t wr wa ws ws.length ks/\qj (ak 13) cn (ws.map .str) (lst nms name n sort wr wa t lim row (.own (.lst [])) a b c d)=.ok (.next (lst nms name n sort wr wa t lim row (.own (.lst (ks.map pv2))) a b c d')):=by
 obtain⟨ρ',f1,ks,d',rfl,hk⟩:=ir (ps:=ws.map .str) (h:=ak 13) (g:=cn) (ρ:=lst nms name n sort wr wa t lim row (.own (.lst [])) a b c d)
  (I:=fun i ρ=>∃ks d,ρ=lst nms name n sort wr wa t lim row (.own (.lst (ks.map pv2))) a b c d/\NamI t wr wa ws i ks) ⟨[],d,rfl,⟨by simp,fun x hx=>(by cases hx),rfl⟩⟩ (by
   rintro i p ρ hp ⟨ks,d,rfl,hk⟩;rw[LR] at hp
   by_cases hi:i<ws.length
   ·rw[LU hi] at hp
    have hp:some (PV.str ws[i])=some p:=hp;cases hp;have hw1:=hW _ (MV hi)
    have hl:ks.length=i:=by
     have:=congrArg NS hk.fs;rw[LI,MS] at this;omega
    have hwl:(ws[i]).length<=12:=by have:=jS hw1;simpa [Nm] using this
    obtain⟨g,hg,e2⟩:=pN nms hn hN (n+(ks.length:Int) * ((ws[i]).length:Int));have e3:iC (.str ws[i])=some (.int (ws[i]).length):=gR (by omega);have e4:yF (.int (ks.length:Int)) (.int ((ws[i]).length:Int))=some (.int ((ks.length:Int) * ((ws[i]).length:Int))):=vz (.inr (by omega));have hq:ks.length<16777216:=by omega
    refine⟨_,lst nms name n sort wr wa t lim row (.own (.lst ((ks++[(ws[i],g)]).map pv2))) a b c (.val (.str ws[i])),rfl,.inl ?_,ks++[(ws[i],g)],_,rfl,?_⟩
    ·show cn (lst nms name n sort wr wa t lim row (.own (.lst (ks.map pv2))) a b c (.val (.str ws[i])))=_
     simp (disch:=omega) [cn,lst,dW,e2,e3,e4,hq,pv2]
    ·refine⟨?_,fun x hx=>?_,?_⟩
     ·rw[MD,hk.fs,PC,LU hi]
      rfl
     ·simp only[aW,MD,MA] at hx
      rcases hx with hx | hx
      ·exact hk.bs x hx
      ·have:x=.name ws[i] g:=by simpa using hx
       subst this;exact⟨hw1,hg⟩
     ·have e:aW (.names t (ks++[(ws[i],g)]) wr wa)=aW (.names t ks wr wa)++[.name ws[i] g]:=by simp[aW]
      rw[e,lR,hk.fb];show ma (.names t ks wr wa) (.name ws[i] g)=_;refine if_pos ⟨by omega,C1 ks _ fun z hz=>?_⟩;have hm:z.1∈ws.take i:=by rw[← hk.fs];exact NO hz
      obtain⟨j,hj,e⟩:=List.mem_iff_getElem.mp hm;rw[List.getElem_take] at e;rw[MS] at hj;rw[← e];exact RK.mp hs j i (by omega) hi (by omega)
   ·rw[MQ (by omega)] at hp
    cases hp)
 rw[LI] at hk;exact⟨ks,d',hk,f1⟩
theorem da(a b:Str):(a++b).length=a.length+b.length:=by
 rw[bh a,bh b,aB,cj,cj,cj,M1]
theorem DZ{p k q t:Str}(h:p.length+k.length+q.length+t.length<=16777216):bD (.str p) (.str k)=some (.str (p++k))/\bD (.str (p++k)) (.str q)=some (.str (p++k++q))/\bD (.str (p++k++q)) (.str t)=some (.str (p++k++q++t)):=by
 refine⟨bZ (by omega),bZ (by rw[da];omega),bZ (by rw[da,da];omega)⟩
theorem tF(s:Str):s.length=(cd s).length:=by conv=>lhs;rw[bh s,cj]
theorem xb:∀n:Nat,n<25->n.log2<1920:=by decide +kernel
theorem nE{i:Int}(h0:0<=i)(h1:i<=24):xG (.int i)=some (.str (num i)):=by
 show (if i.natAbs.log2<1920 then some (PV.str (Pz i)) else none)=_;rw[if_pos (xb _ (by omega))];rfl
theorem oZ:(LB "key ").length=4/\(LB "name ").length=5/\(LB " ").length=1/\(LB "from ").length=5/\(LB "hours ").length=6:=by decide +kernel
theorem o3{s:Str}(h:eV (cd s)=true):s.length<=8:=by rw[tF];exact jS (sI h)
theorem Hw{s:Str}(h:Tg s):s.length<=8:=by
 rcases h with h | h
 ·exact o3 h
 ·rw[tF,h];decide
theorem Iy{s:Str}(h:lH (cd s)=true):s.length<=8:=by
 obtain⟨c,_,e⟩:=xj h;rw[tF,e];show 1<=8;decide
theorem xm(ks:List (Str×Str))(h:∀k∈ks,lH (cd k.1)=true/\Tg k.2)(ρ:PSt):bz (gF 2 (aE (ak 0) (aE (ak 1) gJ))) gN fq (.no::.no::ρ) (ks.map pv2)=.ok (ks.map fun k=>.str (mkS (cQ (.ben (.key k.1 k.2))))):=
 WO.in_list_comp (fun k:Str×Str=>PV.str (mkS (cQ (.ben (.key k.1 k.2))))) ks fun k hk=>⟨.val (.str k.1)::.val (.str k.2)::ρ,rfl,by
  obtain⟨h1,h2⟩:=h k hk;have l1:=Iy h1;have l2:=Hw h2;obtain⟨s1,s2,s3,s4,s5⟩:=oZ;obtain⟨a1,a2,a3⟩:=DZ (p:="key ") (k:=k.1) (q:=" ") (t:=k.2) (by omega);rw[BY] at a3;simp[fq,a1,a2,a3]⟩
theorem uA(ks:List (Str×Str))(h:∀k∈ks,cE 12 (cd k.1)=true/\eV (cd k.2)=true)(ρ:PSt):bz (gF 2 (aE (ak 0) (aE (ak 1) gJ))) gN fh (.no::.no::ρ) (ks.map pv2)=.ok (ks.map fun k=>.str (mkS (cQ (.ben (.name k.1 k.2))))):=
 WO.in_list_comp (fun k:Str×Str=>PV.str (mkS (cQ (.ben (.name k.1 k.2))))) ks fun k hk=>⟨.val (.str k.1)::.val (.str k.2)::ρ,rfl,by
  obtain⟨h1,h2⟩:=h k hk;have l1:k.1.length<=12:=by rw[tF];exact jS h1
  have l2:=o3 h2;obtain⟨s1,s2,s3,s4,s5⟩:=oZ;obtain⟨a1,a2,a3⟩:=DZ (p:="name ") (k:=k.1) (q:=" ") (t:=k.2) (by omega);rw[za] at a3;simp[fh,a1,a2,a3]⟩
theorem zV(k:Kd)(n an bn t:Str)(a b:Int)(hn:n.length<=100)(h1:an.length<=100)(h2:bn.length<=100)(ht:t.length<=100)(ha0:0<=a)(ha:a<=24)(hb0:0<=b)(hb:b<=24) :
  lP (.str " ") (.lst [.str k.s,.str n,.str (num a),.str an,.str (num b),.str bn,.str t])=some (.str (mkS (TX.glue 32 [k.c,cd n,dg a,cd an,dg b,cd bn] (cd t)))):=by
 have l1:=nY ha0 ha;have l2:=nY hb0 hb;have l3:k.s.length<=10:=by cases k <;> decide +kernel
 have l4:(LB " ").length=1:=by decide +kernel
 have e:=vA (s:=" ") (xs:=[k.s,n,num a,an,num b,bn,t]) (by
  simp only[LQ,Ot,Rg,List.sum_nil,LS,Pu,l4];omega)
 rw[BX] at e;exact e
theorem ad1(a b c d e f:PV):bD (.lst [a,b]) (.lst [c,d,e,f])=some (.lst [a,b,c,d,e,f]):=rfl
theorem ad2(a b c d e f g:PV):bD (.lst [a,b,c,d,e,f]) (.lst [g])=some (.lst [a,b,c,d,e,f,g]):=rfl
def eS(name:Str)(r:Room):PV:=.tup [.lst ((dw (name,r)).map fun q=>.str (mkS (cQ q))),r.pv]
theorem limited(nms:List Str)(hn:nms.length=14)(hN:∀x∈nms,eV (cd x)=true)(name:Str)(hname:eV (cd name)=true)(n:Int)(k:Kd)(hk:k=.menu\/k=.names) :
  ∃r,GoodRoom r/\eA [.lst (nms.map .str),.str name,.int n,.str k.s]=some (eS name r):=by
 obtain⟨an,han,ea⟩:=pN nms hn hN (n / 5);obtain⟨bn,hbn,eb⟩:=pN nms hn hN (n / 3);obtain⟨x,hx,ep⟩:=AY n;have g1:=nE (i:=1+n / 8 % 9) (by omega) (by omega);have g2:=nE (i:=1+n / 64 % 9) (by omega) (by omega);have ej:=zV k name an bn (mkS x) (1+n / 8 % 9) (1+n / 64 % 9) (by have:=o3 hname;omega) (by have:=o3 han;omega) (by have:=o3 hbn;omega) (by rw[cj];have:=wA hx;omega) (by omega) (by omega) (by omega) (by omega);have l1:Bt (1+n / 8 % 9,an):=⟨by show 1<=1+n / 8 % 9;omega,by show 1+n / 8 % 9<=9;omega,han⟩;have l2:Bt (1+n / 64 % 9,bn):=⟨by show 1<=1+n / 64 % 9;omega,by show 1+n / 64 % 9<=9;omega,hbn⟩;have hx':k8 (cd (mkS x))=true:=by show k8 (mkS x).cps.toList=true;rw[aD];exact hx
 generalize hlp:TX.glue 32 [k.c,cd name,dg (1+n / 8 % 9),cd an,dg (1+n / 64 % 9),cd bn] (cd (mkS x))=row at ej;have hp1:pvI (1+n / 8 % 9,an)=.tup [.int (1+n / 8 % 9),.str an]:=rfl;have hp2:pvI (1+n / 64 % 9,bn)=.tup [.int (1+n / 64 % 9),.str bn]:=rfl;rcases hk with rfl | rfl
 ·obtain⟨ks,a',b',hK,f1⟩:=wW nms hn hN name n "menu" (1+n / 8 % 9,an) (1+n / 64 % 9,bn) (mkS x) (.lst [.str (num (1+n / 8 % 9)),.str an,.str (num (1+n / 64 % 9)),.str bn]) (.str (mkS row)) .no .no .no .no
  have hl:=hK.len;have hb:∀k∈ks,lH (cd k.1)=true/\Tg k.2:=fun k hk=>hK.bs (.key k.1 k.2) (M8.mpr ⟨k,hk,rfl⟩);have cr:=xm ks hb;refine⟨.menu (mkS x) ks (1+n / 8 % 9,an) (1+n / 64 % 9,bn),⟨⟨hx',l1,l2⟩,hK.bs,hK.fb,fun t ks a b z=>(by cases z),by simpa [aW] using hl⟩,aG rfl ?_⟩;have hq:ks.length<=16777216:=by omega
  have ad:=eF (a:=[.str (mkS row)]) (b:=ks.map fun k=>.str (mkS (cQ (.ben (.key k.1 k.2))))) (by simp;omega);simp only[lst,hp1,hp2] at f1;simp only[Kd.s] at ej
  have fin:eS name (.menu (mkS x) ks (1+n / 8 % 9,an) (1+n / 64 % 9,bn))=.tup [.lst ([.str (mkS row)]++ks.map fun k=>.str (mkS (cQ (.ben (.key k.1 k.2))))),.tup [.str "menu",.str (mkS x),.tup (ks.map pv2),.tup [.int (1+n / 8 % 9),.str an],.tup [.int (1+n / 64 % 9),.str bn]]]:=by
   rw[← hlp];unfold eS dw;rw[LQ,show aW (Room.menu (mkS x) ks (1+n / 8 % 9,an) (1+n / 64 % 9,bn))=ks.map fun k=>.key k.1 k.2 from rfl,M4,M4];rfl
  rw[fin];simp (disch:=omega) [dY,PU.start,dW,iH,ea,eb,ep,g1,g2,ej,Kd.s,ad1,ad2];rw[f1];simp[d8,cr,hq,ad]
 ·obtain⟨wl,hw1,hw2,ew⟩:∃wl:List Str,(1<=wl.length/\wl.length<=6)/\(∀x∈wl,cE 12 (cd x)=true)/\bz (ak 0) gN fm [.no,.val (.int n)] (dU 0 (1+n / 16 % 6).toNat)=.ok (wl.map .str):=by
   have hc:∀i:Nat,∃x:List Nat,cE 12 x=true/\gb [.int (n / (3+(i:Int)))]=some (.str (mkS x)):=fun i=>Hq _;obtain⟨wf,hwf⟩:=Classical.axiomOfChoice hc;refine⟨(M9 (1+n / 16 % 6).toNat).map fun i=>mkS (wf i),⟨by simp;omega,by simp;omega⟩,fun x hx=>?_,?_⟩
   ·obtain⟨i,_,rfl⟩:=M8.mp hx
    show cE 12 (mkS (wf i)).cps.toList=true;rw[aD];exact(hwf i).1
   ·rw[yj (fun i=>.str (mkS (wf i))) fun i p hp=>?_,mI]
    ·simp
    ·obtain⟨hi,rfl⟩:=mJ hp
     refine⟨_,rfl,rfl,?_⟩;have e2:=(hwf i).2;simp (disch:=omega) [fm,iH,e2]
  have es:=vy (xs:=wl) (by omega);have hsl:=oY wl
  have hs1:1<=(cN wl).length:=by
   cases wl with
   | nil=>simp at hw1
   | cons a l=>exact(oj a (cN l)).1
  obtain⟨ks,d',hK,f1⟩:=uB nms hn hN name n "names" (1+n / 8 % 9,an) (1+n / 64 % 9,bn) (mkS x) (.lst [.str (num (1+n / 8 % 9)),.str an,.str (num (1+n / 64 % 9)),.str bn]) (.str (mkS row)) .no .no .no .no (cN wl) (by omega) (fun w hw=>hw2 w ((oX w wl).mp hw)) (kU wl)
  have hl:ks.length=(cN wl).length:=by
   have:=congrArg NS hK.fs;rw[LI,MS] at this;omega
  have hb:∀k∈ks,cE 12 (cd k.1)=true/\eV (cd k.2)=true:=fun k hk=>hK.bs (.name k.1 k.2) (M8.mpr ⟨k,hk,rfl⟩);have cr:=uA ks hb;refine⟨.names (mkS x) ks (1+n / 8 % 9,an) (1+n / 64 % 9,bn),⟨⟨hx',l1,l2⟩,hK.bs,hK.fb,fun t ks' a b z=>?_,by simp[aW];omega⟩,aG rfl ?_⟩
  ·cases z
   intro z;rw[z] at hl;simp at hl;omega
  ·have hq:ks.length<=16777216:=by omega
   have hq2:wl.length<=16777216:=by omega
   have hq3:(cN wl).length<=16777216:=by omega
   have ad:=eF (a:=[.str (mkS row)]) (b:=ks.map fun k=>.str (mkS (cQ (.ben (.name k.1 k.2))))) (by simp;omega);have ne:(LB "names"=LB "menu")=False:=by simp
   simp only[lst,hp1,hp2] at f1;simp only[Kd.s] at ej
   have fin:eS name (.names (mkS x) ks (1+n / 8 % 9,an) (1+n / 64 % 9,bn))=.tup [.lst ([.str (mkS row)]++ks.map fun k=>.str (mkS (cQ (.ben (.name k.1 k.2))))),.tup [.str "names",.str (mkS x),.tup (ks.map pv2),.tup [.int (1+n / 8 % 9),.str an],.tup [.int (1+n / 64 % 9),.str bn]]]:=by
    rw[← hlp];unfold eS dw;rw[LQ,show aW (Room.names (mkS x) ks (1+n / 8 % 9,an) (1+n / 64 % 9,bn))=ks.map fun k=>.name k.1 k.2 from rfl,M4,M4];rfl
   rw[fin];simp (disch:=omega) [dY,PU.start,dW,iH,ea,eb,ep,g1,g2,ej,Kd.s,ad1,ad2,tW,d8,ew,hq2,es,ne];rw[f1];simp[d8,cr,hq,ad]
abbrev rst(nms:List Str)(name:Str)(n:Int)(sort:Str)(sp a b rows c d e:Sl):PSt:=
 [.val (.lst (nms.map .str)),.val (.str name),.val (.int n),.val (.str sort),sp,a,b,rows,c,d,e]
structure HrI(l:Str)(i:Nat)(sp:List (Int×Int×Str)):Prop where
 len:sp.length=i
 bs:∀x∈aW (.hours sp l),GBn x
 fb:ku (.hours [] l) (aW (.hours sp l))=some (.hours sp l)
theorem FV{l:Str}{i:Nat}{sp:List (Int×Int×Str)}(hi:i<12)(h:HrI l i sp)(a b:Int)(t:Str)(g:GBn (.span a b t))(hab:a<b):HrI l (i+1) (sp++[(a,b,t)]):=by
 have hl:=h.len;refine⟨by simp[hl],fun x hx=>?_,?_⟩
 ·simp only[aW,MD,MA] at hx
  rcases hx with hx | hx
  ·exact h.bs x hx
  ·have:x=.span a b t:=by simpa using hx
   subst this;exact g
 ·have e:aW (.hours (sp++[(a,b,t)]) l)=aW (.hours sp l)++[.span a b t]:=by simp[aW]
  rw[e,lR,h.fb];show ma (.hours sp l) (.span a b t)=_;exact if_pos ⟨by omega,hab⟩
theorem uL(nms:List Str)(hn:nms.length=14)(hN:∀x∈nms,eV (cd x)=true)(name:Str)(n:Int)(sort l:Str)(a b rows c d e:Sl)(m:Nat)(hm:m<=12) :
  ∃sp a' b',HrI l m sp/\qj (ak 5) dM (dU 0 m) (rst nms name n sort (.own (.lst [])) a b rows c d e)=.ok (.next (rst nms name n sort (.own (.lst (sp.map pv3))) a' b' rows c d e)):=by
 obtain⟨ρ',f1,sp,a',b',rfl,hk⟩:=forR (n:=m) (lo:=0) (h:=ak 5) (g:=dM) (ρ:=rst nms name n sort (.own (.lst [])) a b rows c d e)
  (I:=fun i ρ=>∃sp a b,ρ=rst nms name n sort (.own (.lst (sp.map pv3))) a b rows c d e/\HrI l i sp) ⟨[],a,b,rfl,⟨rfl,fun x hx=>(by cases hx),rfl⟩⟩ (by
   rintro i ρ hi ⟨sp,a,b,rfl,hk⟩;rw[SK];obtain⟨t,ht,e2⟩:=pN nms hn hN (n / (13+(i:Int)));have hl:=hk.len;have hq:sp.length<16777216:=by omega
   have hd:0<24-n / (9+(i:Int)) % 24:=by omega
   have hd1:=Int.emod_nonneg (n / (11+(i:Int))) (b:=24-n / (9+(i:Int)) % 24) (by omega);have hd2:=TU (n / (11+(i:Int))) hd;refine⟨_,rst nms name n sort (.own (.lst ((sp++[(n / (9+(i:Int)) % 24,n / (9+(i:Int)) % 24+1+n / (11+(i:Int)) % (24-n / (9+(i:Int)) % 24),t)]).map pv3))) (.val (.int i)) (.val (.int (n / (9+(i:Int)) % 24))) rows c d e,rfl,.inl ?_,_,_,_,rfl,FV (by omega) hk _ _ _ ⟨?_,?_,?_,?_,ht⟩ ?_⟩
   ·show dM (rst nms name n sort (.own (.lst (sp.map pv3))) (.val (.int i)) b rows c d e)=_
    simp (disch:=omega) [dM,rst,iH,dW,e2,hq,pv3]
   all_goals omega)
 exact⟨sp,a',b',hk,f1⟩
theorem L3{p k q t r u:Str}(h:p.length+k.length+q.length+t.length+r.length+u.length<=16777216):bD (.str (p++k++q++t)) (.str r)=some (.str (p++k++q++t++r))/\bD (.str (p++k++q++t++r)) (.str u)=some (.str (p++k++q++t++r++u)):=by
 refine⟨bZ (by rw[da,da,da];omega),bZ (by rw[da,da,da,da];omega)⟩
theorem xK(nms:List Str)(name:Str)(n:Int)(sort:Str)(s4 a b c d e:Sl)(r0:PV)(sp:List (Int×Int×Str))(hs:sp.length<=12)(hb:∀s∈sp,GBn (.span s.1 s.2.1 s.2.2)) :
  ∃b' c' d',qj (gF 3 (aE (ak 6) (aE (ak 8) (aE (ak 9) gJ)))) dJ (sp.map pv3) (rst nms name n sort s4 a b (.own (.lst [r0])) c d e)=.ok (.next (rst nms name n sort s4 a b' (.own (.lst (r0::sp.map fun s=>.str (mkS (cQ (.ben (.span s.1 s.2.1 s.2.2))))))) c' d' e)):=by
 obtain⟨ρ',f1,b',c',d',rfl⟩:=ir (ps:=sp.map pv3) (h:=gF 3 (aE (ak 6) (aE (ak 8) (aE (ak 9) gJ)))) (g:=dJ) (ρ:=rst nms name n sort s4 a b (.own (.lst [r0])) c d e)
  (I:=fun i ρ=>∃b c d,ρ=rst nms name n sort s4 a b (.own (.lst (r0::(sp.take i).map fun s=>.str (mkS (cQ (.ben (.span s.1 s.2.1 s.2.2))))))) c d e) ⟨b,c,d,by simp[rst]⟩ (by
   rintro i p ρ hp ⟨b,c,d,rfl⟩;rw[LR] at hp
   by_cases hi:i<sp.length
   ·rw[LU hi] at hp
    have hp:some (pv3 sp[i])=some p:=hp;cases hp;obtain⟨⟨x,y,t⟩,hst⟩:∃q,sp[i]=q:=⟨_,rfl⟩;have g:=hb _ (MV hi);rw[hst] at g ⊢;obtain⟨a0,a1,b0,b1,ht⟩:=g;dsimp only at a0 a1 b0 b1 ht;have g1:=nE (i:=x) (by omega) (by omega);have g2:=nE (i:=y) (by omega) (by omega);have n1:=nY (i:=x) (by omega) (by omega);have n2:=nY (i:=y) (by omega) (by omega);have n3:=o3 ht;obtain⟨s1,s2,s3,s4',s5⟩:=oZ;obtain⟨p1,p2,p3⟩:=DZ (p:="from ") (k:=num x) (q:=" ") (t:=num y) (by omega);obtain⟨p4,p5⟩:=L3 (p:="from ") (k:=num x) (q:=" ") (t:=num y) (r:=" ") (u:=t) (by omega);rw[zc] at p5;have hq:((sp.take i).map fun s=>PV.str (mkS (cQ (.ben (.span s.1 s.2.1 s.2.2))))).length<16777215:=by rw[LI,MS];omega
    refine⟨_,rst nms name n sort s4 a (.val (.int x)) (.own (.lst (r0::(sp.take (i+1)).map fun s=>.str (mkS (cQ (.ben (.span s.1 s.2.1 s.2.2))))))) (.val (.int y)) (.val (.str t)) e,rfl,.inl ?_,_,_,_,rfl⟩;show dJ (rst nms name n sort s4 a (.val (.int x)) (.own (.lst (r0::(sp.take i).map fun s=>.str (mkS (cQ (.ben (.span s.1 s.2.1 s.2.2))))))) (.val (.int y)) (.val (.str t)) e)=_;rw[PC,LU hi,hst,MD];generalize ((sp.take i).map fun s=>PV.str (mkS (cQ (.ben (.span s.1 s.2.1 s.2.2)))))=L at hq ⊢;have hq:L.length+1<16777216:=by omega
    simp[dJ,rst,g1,g2,p1,p2,p3,p4,p5,hq]
   ·rw[MQ (by omega)] at hp
    cases hp)
 rw[LI,List.take_length] at f1;exact⟨b',c',d',f1⟩
theorem room(nms:List Str)(hn:nms.length=14)(hN:∀x∈nms,eV (cd x)=true)(name:Str)(hname:eV (cd name)=true)(n:Int) :
  ∃r,GoodRoom r/\gc [.lst (nms.map .str),.str name,.int n]=some (eS name r):=by
 have hsort:n % 6=0\/n % 6=1\/n % 6=2\/n % 6=3\/n % 6=4\/n % 6=5:=by omega
 have a3:∀x y z u v w:PV,atI [x,y,z,u,v,w] 3=some u:=fun _ _ _ _ _ _=>bW (n:=3) rfl rfl;have a4:∀x y z u v w:PV,atI [x,y,z,u,v,w] 4=some v:=fun _ _ _ _ _ _=>bW (n:=4) rfl rfl;have a5:∀x y z u v w:PV,atI [x,y,z,u,v,w] 5=some w:=fun _ _ _ _ _ _=>bW (n:=5) rfl rfl;obtain⟨s1,s2,s3,s4,s5⟩:=oZ;have hnl:=o3 hname
 have ends:∀(sort:Str) (mk:Str->Room),(sort="hand"\/sort="end")->(∀t,eS name (mk t)=.tup [.lst [.str (sort++" "++name++" "++t)],.tup [.str sort,.str t]])->(∀t,k8 (cd t)=true->GoodRoom (mk t))->(∀q,gIx (.lst [.str "menu",.str "names",.str "hours",.str "hand",.str "end",.str "menu"]) (.int (n % 6))=some (.str sort))->∃r,GoodRoom r/\gc [.lst (nms.map .str),.str name,.int n]=some (eS name r):=fun sort mk hs ho hg hi=>by
  obtain⟨x,hx,ep⟩:=AY n;have hx':k8 (cd (mkS x))=true:=by show k8 (mkS x).cps.toList=true;rw[aD];exact hx
  refine⟨mk (mkS x),hg _ hx',aG rfl ?_⟩;rw[ho];have hsl:sort.length<=4:=by rcases hs with rfl | rfl <;> decide +kernel
  have hxl:(mkS x).length<=80:=by rw[cj];exact wA hx
  obtain⟨p1,p2,p3⟩:=DZ (p:=sort) (k:=" ") (q:=name) (t:=" ") (by omega);have p4:bD (.str (sort++" "++name++" ")) (.str (mkS x))=some (.str (sort++" "++name++" "++mkS x)):=bZ (by rw[da,da,da];omega);have q1:sort≠LB "menu":=by rcases hs with rfl | rfl <;> decide +kernel
  have q2:sort≠LB "names":=by rcases hs with rfl | rfl <;> decide +kernel
  have q3:sort≠LB "hours":=by rcases hs with rfl | rfl <;> decide +kernel
  have hi:=hi ();rw[ny] at hi;simp (disch:=omega) [de,PU.start,dW,hi,q1,q2,q3,ep,p1,p2,p3,p4]
 rcases hsort with h | h | h | h | h | h
 ·obtain⟨r,g,e⟩:=limited nms hn hN name hname n .menu (.inl rfl)
  refine⟨r,g,aG rfl ?_⟩;simp only[Kd.s] at e;simp (disch:=omega) [de,PU.start,dW,h,e]
 ·obtain⟨r,g,e⟩:=limited nms hn hN name hname n .names (.inr rfl)
  refine⟨r,g,aG rfl ?_⟩;simp only[Kd.s] at e;simp (disch:=omega) [de,PU.start,dW,h,e]
 ·obtain⟨l,hl,el⟩:=pN nms hn hN (n / 7)
  obtain⟨sp,a',b',hk,f1⟩:=uL nms hn hN name n "hours" l .no .no .no .no .no .no (n / 16 % 5).toNat (by omega);have hb:∀s∈sp,GBn (.span s.1 s.2.1 s.2.2):=fun s hs=>hk.bs _ (M8.mpr ⟨s,hs,rfl⟩);have hsl:=hk.len;obtain⟨b2,c2,d2,f2⟩:=xK nms name n "hours" (.val (.lst (sp.map pv3))) a' b' .no .no .no (.str (mkS (cQ (.room name (.hours [] l))))) sp (by omega) hb;have hll:=o3 hl;obtain⟨p1,p2,p3⟩:=DZ (p:="hours ") (k:=name) (q:=" ") (t:=l) (by omega);rw[vW] at p3;refine⟨.hours sp l,⟨hl,hk.bs,hk.fb,fun t ks a b z=>(by cases z),by simp[aW];omega⟩,aG rfl ?_⟩
  have fin:eS name (.hours sp l)=.tup [.lst (.str (mkS (cQ (.room name (.hours [] l))))::sp.map fun s=>.str (mkS (cQ (.ben (.span s.1 s.2.1 s.2.2))))),.tup [.str "hours",.tup (sp.map pv3),.str l]]:=by
   unfold eS dw;rw[LQ,show aW (Room.hours sp l)=sp.map fun s=>.span s.1 s.2.1 s.2.2 from rfl,M4,M4];rfl
  rw[fin];have hq:sp.length<=16777216:=by omega
  simp only[rst] at f1 f2;simp (disch:=omega) [de,PU.start,dW,iH,h,tW];rw[f1];simp (disch:=omega) [dW,iH,el,p1,p2,p3];rw[f2];simp (disch:=omega) [dW,iH,el]
 ·exact ends "hand" .hand (.inl rfl) (fun t=>by rw[zb];rfl) (fun t ht=>⟨ht,fun x hx=>(by cases hx),rfl,fun t ks a b z=>(by cases z),by simp[aW]⟩) fun _=>by rw[h,ny];exact a3 _ _ _ _ _ _
 ·exact ends "end" .fin (.inr rfl) (fun t=>by rw[BZ];rfl) (fun t ht=>⟨ht,fun x hx=>(by cases hx),rfl,fun t ks a b z=>(by cases z),by simp[aW]⟩) fun _=>by rw[h,ny];exact a4 _ _ _ _ _ _
 ·obtain⟨r,g,e⟩:=limited nms hn hN name hname n .menu (.inl rfl)
  refine⟨r,g,aG rfl ?_⟩;simp only[Kd.s] at e;simp (disch:=omega) [de,PU.start,dW,h,e,a5]
theorem kM(d:Nat)(i:Int):aC (d+1) [.int i]=some (.bl true):=by
 refine aG rfl ?_;have e1:kJ "tuple" (.int i)=some (.bl false):=rfl;have e2:kJ "bool" (.int i)=some (.bl false):=rfl;have e3:kJ "int" (.int i)=some (.bl true):=rfl;simp[eY,PU.start,e1,e2,e3]
theorem bY(d:Nat)(x:Str):aC (d+1) [.str x]=some (.bl true):=by
 refine aG rfl ?_;have e1:kJ "tuple" (.str x)=some (.bl false):=rfl;have e2:kJ "bool" (.str x)=some (.bl false):=rfl;have e3:kJ "int" (.str x)=some (.bl false):=rfl;have e4:kJ "str" (.str x)=some (.bl true):=rfl;simp[eY,PU.start,e1,e2,e3,e4]
theorem sG(n:Nat):ka (.bl false) (.lst (Mg n (.bl true)))=some (.bl true):=by
 have e:gIn (.bl false) (.lst (Mg n (.bl true)))=some (.bl false):=by
  show (if lE (PV.bl false)=true/\(Mg n (PV.bl true)).all lE=true then some (PV.bl (inV (scV (.bl false)) ((Mg n (PV.bl true)).map scV))) else none)=_;rw[if_pos ⟨rfl,by rw[MY];intro p hp;rw[List.eq_of_mem_replicate hp];rfl⟩]
  congr 2
  induction n with
  | zero=>rfl
  | succ n ih=>rw[List.replicate_succ,LQ];unfold inV at ih ⊢;rw[Nh,ih];rfl
 unfold ka;rw[e];rfl
theorem cz(d:Nat)(ps:List PV)(hl:ps.length<=16777216)(h:∀p∈ps,aC d [p]=some (.bl true)):aC (d+1) [.tup ps]=some (.bl true):=by
 refine aG rfl ?_;have e1:kJ "tuple" (.tup ps)=some (.bl true):=rfl
 have e2:∀ρ:PSt,bz (ak 0) gN (eC (aC d)) (.no::ρ) ps=.ok (Mg ps.length (.bl true)):=fun ρ=>by
  have:=WO.in_list_comp (enc:=id) (h:=ak 0) (fe:=eC (aC d)) (ρ:=.no::ρ) (fun _=>PV.bl true) ps fun p hp=>⟨.val p::ρ,rfl,by simp[eC,h p hp]⟩;rw[Qq] at this;rw[this,List.map_const']
 have e3:jm (.tup ps)=some ps:=rfl;have e4:=sG ps.length;simp[eY,PU.start,e1,e3,d8,e2,hl,e4]
theorem vt(d:Nat)(p:Str×Str):aC (d+2) [pv2 p]=some (.bl true):=cz (d+1) _ (by simp) fun q hq=>by
 simp only[LJ,Ln,or_false] at hq;rcases hq with rfl | rfl <;> exact bY d _
theorem nq(d:Nat)(p:Int×Str):aC (d+2) [pvI p]=some (.bl true):=cz (d+1) _ (by simp) fun q hq=>by
 simp only[LJ,Ln,or_false] at hq;rcases hq with rfl | rfl
 ·exact kM d _
 ·exact bY d _
theorem BD(d:Nat)(p:Int×Int×Str):aC (d+2) [pv3 p]=some (.bl true):=cz (d+1) _ (by simp) fun q hq=>by
 simp only[LJ,Ln,or_false] at hq;rcases hq with rfl | rfl | rfl
 ·exact kM d _
 ·exact kM d _
 ·exact bY d _
theorem tT(r:Room)(h:(aH r).length<=1000):f9 [r.pv]=some (.bl true):=by
 have l2:∀ks:List (Str×Str),ks.length<=1000->aC 3 [.tup (ks.map pv2)]=some (.bl true):=fun ks hk=>cz 2 _ (by rw[LI];omega) fun q hq=>by
  obtain⟨k,_,rfl⟩:=M8.mp hq;exact vt 0 k
 have l3:∀ks:List (Int×Int×Str),ks.length<=1000->aC 3 [.tup (ks.map pv3)]=some (.bl true):=fun ks hk=>cz 2 _ (by rw[LI];omega) fun q hq=>by
  obtain⟨k,_,rfl⟩:=M8.mp hq;exact BD 0 k
 show aC 4 [r.pv]=_;cases r with
 | menu t ks a b=>
  refine cz 3 _ (by simp) fun q hq=>?_;simp only[LJ,Ln,or_false] at hq;rcases hq with rfl | rfl | rfl | rfl | rfl
  ·exact bY 2 _
  ·exact bY 2 _
  ·exact l2 ks (by simpa [aH] using h)
  ·exact nq 1 a
  ·exact nq 1 b
 | names t ks a b=>
  refine cz 3 _ (by simp) fun q hq=>?_;simp only[LJ,Ln,or_false] at hq;rcases hq with rfl | rfl | rfl | rfl | rfl
  ·exact bY 2 _
  ·exact bY 2 _
  ·exact l2 ks (by simpa [aH] using h)
  ·exact nq 1 a
  ·exact nq 1 b
 | hours sp l=>
  refine cz 3 _ (by simp) fun q hq=>?_;simp only[LJ,Ln,or_false] at hq;rcases hq with rfl | rfl | rfl
  ·exact bY 2 _
  ·exact l3 sp (by simpa [aH] using h)
  ·exact bY 2 _
 | hand t=>
  refine cz 3 _ (by simp) fun q hq=>?_;simp only[LJ,Ln,or_false] at hq;rcases hq with rfl | rfl <;> exact bY 2 _
 | fin t=>
  refine cz 3 _ (by simp) fun q hq=>?_;simp only[LJ,Ln,or_false] at hq;rcases hq with rfl | rfl <;> exact bY 2 _
theorem zd (r:Room):kJ "tuple" r.pv=some (.bl true):=by cases r <;> rfl
theorem xC(h:House)(nd:(h.rooms.map (·.1)).Nodup):Ab h.pv h.pv=some (.bl false):=by
 have e:=uK h nd;have e1:gEq h.pv h.pv=if bL [.str h.first,.lst (h.letters.map pv2),ag h.rooms]<=60 then (lb 3 h.pv h.pv).map PV.bl else none:=rfl
 have e2:Ab h.pv h.pv=if bL [.str h.first,.lst (h.letters.map pv2),ag h.rooms]<=60 then (lb 3 h.pv h.pv).map fun b=>PV.bl (!b) else none:=rfl
 rw[e1] at e;rw[e2];split at e
 ·rename_i hd
  rw[if_pos hd];obtain⟨b,eb,ez⟩:=LV.mp e;cases ez;rw[eb];rfl
 ·cases e
theorem yU(l:List Str):Ab (.lst (l.map .str)) (.lst (l.map .str))=some (.bl false):=by
 have hp:∀l:List Str,dC (l.map .str) (l.map .str)=some true/\bL (l.map PV.str)<=60:=fun l=>by
  induction l with
  | nil=>exact⟨rfl,by simp[bL]⟩
  | cons a l ih=>exact⟨by simp[dC,bE,ih.1],by have:=ih.2;simp[bL,mi] at this ⊢;omega⟩
 show (if bL (l.map PV.str)<=60 then (dC (l.map PV.str) (l.map PV.str)).map fun b=>PV.bl (!b) else none)=_;rw[if_pos (hp l).2,(hp l).1];rfl
theorem same(h:House)(nd:(FA.names h.rooms).Nodup)(hr:∀r∈h.rooms,(aH r.2).length<=1000)(h1:h.rooms.length<=1000)(h2:h.letters.length<=1000):di [h.pv,.str h.first,.lst (h.letters.map pv2),.lst ((FA.names h.rooms).map .str),ag h.rooms]=some (.bl true):=by
 refine aG rfl ?_;have e1:kJ "dict" h.pv=some (.bl true):=rfl;have e2:pT [(.inr "first",.str h.first),(.inr "letters",.lst (h.letters.map pv2)),(.inr "rooms",ag h.rooms)]=h.pv:=rfl;have e3:=xC h nd;have r1:gIx h.pv (.str "rooms")=some (ag h.rooms):=by simp[House.pv,mz]
 have r2:gIx h.pv (.str "letters")=some (.lst (h.letters.map pv2)):=by simp[House.pv,mz]
 have e4:kJ "list" (.lst (h.letters.map pv2))=some (.bl true):=rfl
 have e5:ju (ag h.rooms)=some (.lst ((FA.names h.rooms).map .str)):=by
  show some (PV.lst ((h.rooms.map fun r=>(MU r.1:Key)).map xo))=_;unfold FA.names;rw[M4,M4];rfl
 have e6:=yU (FA.names h.rooms)
 have look:∀r∈h.rooms,gIx (ag h.rooms) (.str r.1)=some r.2.pv:=fun r hr=>by
  obtain⟨ys,zs,e⟩:=List.append_of_mem hr;rw[FA.ix_rooms];unfold FA.lookR;rw[e] at nd ⊢;unfold FA.names at nd;rw[MD,NK] at nd;have hn:r.1 ∉ ys.map (·.1):=fun z=>nd.2.2 r.1 z r.1 (by simp) rfl;rw[TQ]
  have:ys.find? (fun q=>decide (q.1=r.1))=none:=Sx.mpr fun x hx=>by
   have:x.1≠r.1:=fun e=>hn (by rw[← e];exact NO hx);simpa using this
  rw[this];simp
 have c1:∀ρ:PSt,bz (ak 0) gN fI (.no::.val h.pv::ρ) ((FA.names h.rooms).map .str)=.ok (h.rooms.map fun r=>r.2.pv):=fun ρ=>by
  have:=WO.in_list_comp (enc:=fun r:Str×Room=>PV.str r.1) (h:=ak 0) (fe:=fI) (ρ:=.no::.val h.pv::ρ) (fun r=>r.2.pv) h.rooms fun r hr=>⟨.val (.str r.1)::.val h.pv::ρ,rfl,by simp[fI,r1,look r hr]⟩;unfold FA.names;rw[M4];exact this
 have c2:∀ρ:PSt,bz (ak 0) gN ic (.no::ρ) (h.letters.map pv2)=.ok (h.letters.map pv2):=fun ρ=>
  WO.in_list_comp (fun l=>pv2 l) h.letters fun l _=>⟨.val (pv2 l)::ρ,rfl,by simp[ic]⟩
 have q1:(h.rooms.map fun r=>r.2.pv).length<=16777216:=by rw[LI];omega
 have q2:(h.letters.map pv2).length<=16777216:=by rw[LI];omega
 have ad:=eF (a:=h.rooms.map fun r=>r.2.pv) (b:=h.letters.map pv2) (by rw[LI,LI];omega)
 have told:∀p∈(h.rooms.map fun r=>r.2.pv)++h.letters.map pv2,kJ "tuple" p=some (.bl true)/\f9 [p]=some (.bl true):=fun p hp=>by
  rcases MA.mp hp with hp | hp
  ·obtain⟨r,hm,rfl⟩:=M8.mp hp
   exact⟨zd r.2,tT r.2 (hr r hm)⟩
  ·obtain⟨l,_,rfl⟩:=M8.mp hp
   exact⟨rfl,vt 2 l⟩
 have q3:((h.rooms.map fun r=>r.2.pv)++h.letters.map pv2).length<=16777216:=by rw[M1,LI,LI];omega
 generalize (h.rooms.map fun r=>r.2.pv)++h.letters.map pv2=T at *
 have c3:∀ρ:PSt,bz (ak 0) gN fH (.no::ρ) T=.ok (Mg T.length (.bl true)):=fun ρ=>by
  have:=WO.in_list_comp (enc:=id) (h:=ak 0) (fe:=fH) (ρ:=.no::ρ) (fun _=>PV.bl true) T fun p hp=>⟨.val p::ρ,rfl,by simp[fH,(told p hp).1,(told p hp).2]⟩;rw[Qq] at this;rw[this,List.map_const']
 have e7:=sG T.length;generalize (FA.names h.rooms).map PV.str=NL at *;generalize h.letters.map pv2=LL at *;generalize (h.rooms.map fun r=>r.2.pv)=RL at *;generalize ag h.rooms=RR at *;generalize h.pv=HH at *;have i1:∀l,jm (.lst l)=some l:=fun l=>rfl;simp[jU,PU.start,e1,e2,e3,r1,r2,e4,e5,e6,i1,d8,c1,c2,c3,q1,q2,ad,e7,q3]
def l0:Str×Str:=("0","zqx")
def l1:Str×Str:=("2","abc")
def l2:Str×Str:=("3","fed")
def l3:Str×Str:=("9","y")
def l4:Str×Str:=("*","ghijklmnoprstuvw")
def xs5:List (Nat×(Str×Str)):=[(0,l0),(1,l1),(2,l2),(3,l3),(4,l4)]
def one(b:Bool)(l:Str×Str):List (Str×Str):=if b=true then [l] else []
def pick(b0 b1 b2 b3 b4:Bool):List (Str×Str):=one b0 l0++(one b1 l1++(one b2 l2++(one b3 l3++one b4 l4)))
theorem rD(P:Nat×(Str×Str)->Bool):(xs5.filter P).map (·.2)=pick (P (0,l0)) (P (1,l1)) (P (2,l2)) (P (3,l3)) (P (4,l4)):=by
 simp only[xs5,List.filter];cases P (0,l0) <;> cases P (1,l1) <;> cases P (2,l2) <;> cases P (3,l3) <;> cases P (4,l4) <;> rfl
theorem Cd:∀b0 b1 b2 b3 b4:Bool,pX [] (pick b0 b1 b2 b3 b4)=true/\(pick b0 b1 b2 b3 b4).length<=5:=by decide +kernel
def GO(l:Str×Str):Bool:=lH (cd l.1) && !decide (cd l.1=[35]) && cE 26 (cd l.2) && decide (l.1.length<=1) && decide (l.2.length<=26)
theorem EZ:∀b0 b1 b2 b3 b4:Bool,(pick b0 b1 b2 b3 b4).all GO=true:=by decide +kernel
def cB(q:List Rw):List PV:=q.map fun r=>.str (mkS (cQ r))
theorem xf(L:List (Str×Str))(h:L.all GO=true)(ρ:PSt):bz (gF 2 (aE (ak 0) (aE (ak 1) gJ))) gN oz (.no::.no::ρ) (L.map pv2)=.ok (cB (L.map fun l=>.letters l.1 (cd l.2))):=by
 have:=WO.in_list_comp (enc:=pv2) (h:=gF 2 (aE (ak 0) (aE (ak 1) gJ))) (fe:=oz) (ρ:=.no::.no::ρ) (fun l:Str×Str=>PV.str (mkS (cQ (.letters l.1 (cd l.2))))) L fun l hl=>⟨.val (.str l.1)::.val (.str l.2)::ρ,rfl,by
  have g:=MY.mp h l hl;unfold GO at g;simp only[M6,decide_eq_true_eq] at g;have s0:(LB "letters ").length=8:=by decide +kernel
  obtain⟨s1,s2,s3,s4,s5⟩:=oZ;obtain⟨a1,a2,a3⟩:=DZ (p:="letters ") (k:=l.1) (q:=" ") (t:=l.2) (by omega);rw[qP] at a3;simp[oz,a1,a2,a3]⟩
 unfold cB;rw[M4];exact this
theorem xg(N:Int)(ρ:PSt):bz (gF 2 (aE (ak 0) (aE (ak 1) gJ))) kR lV (.no::.no::.val (.int N)::ρ) ((mN [pv2 l0,pv2 l1,pv2 l2,pv2 l3,pv2 l4]).map .tup)=.ok (((xs5.filter fun q=>decide (0<N / (3+(q.1:Int)) % 3)).map (·.2)).map pv2):=by
 have:=ig (enc:=fun q:Nat×(Str×Str)=>PV.tup [.int (q.1:Int),pv2 q.2]) (h:=gF 2 (aE (ak 0) (aE (ak 1) gJ))) (t:=kR) (fe:=lV) (ρ:=.no::.no::.val (.int N)::ρ) (fun q=>decide (0<N / (3+(q.1:Int)) % 3)) (fun q=>pv2 q.2) xs5 fun q hq=>⟨.val (.int (q.1:Int))::.val (pv2 q.2)::.val (.int N)::ρ,rfl,by
   have hq4:q.1<=4:=by
    simp only[xs5,LJ,Ln,or_false] at hq;rcases hq with rfl | rfl | rfl | rfl | rfl <;> decide
   have g:gGt (.int (N / (3+(q.1:Int)) % 3)) (.int 0)=some (.bl (decide (0<N / (3+(q.1:Int)) % 3))):=rfl;simp (disch:=omega) [kR,iH,dW,g,kj],fun _=>by simp[lV]⟩
 rw[M4];exact this
abbrev wst(s:PV)(N:Int)(nms:List Str)(so L:PV)(rows:List PV)(rm a b c d e f:Sl):PSt:=
 [.val s,.val (.int N),.val (.lst (nms.map .str)),.val so,.val L,.val (.lst rows),rm,a,b,c,d,e,f]
theorem Ij(nms:List Str)(hn:nms.length=14)(k:Nat)(hk:k<14):∃g,nms[k]?=some g/\atI (nms.map PV.str) (k:Int)=some (.str g):=by
 have h:k<nms.length:=by omega
 exact⟨nms[k],LU h,bW (n:=k) rfl (by rw[LR,LU h];rfl)⟩
theorem Iv(nms:List Str)(hn:nms.length=14)(hN:∀x∈nms,eV (cd x)=true)(nd:nms.Nodup)(s:PV)(N:Int)(so L:PV)(rows:List PV)(hr:rows.length<=1000)(rs:List (Str×Room))(i:Nat)(hi:i<12)(hs:FA.names rs=nms.take i)(cell:Int)(c d:Sl) :
  ∃r g,GoodRoom r/\nms[i]?=some g/\∃c' d',m4 (wst s N nms so L rows (.own (ag rs)) (.val (.int i)) (.val (.int cell)) c d .no .no)=.ok (.next (wst s N nms so L (rows++cB (dw (g,r))) (.own (ag (rs++[(g,r)]))) (.val (.int i)) (.val (.int cell)) c' d' .no .no)):=by
 obtain⟨g,hg,eg⟩:=Ij nms hn i (by omega);have gn:=hN g (O3 hg);obtain⟨r,hr',er⟩:=room nms hn hN g gn ((cell+i) % 2147483647 * 48271 % 2147483647);have em:=mixed (cell+i) 48271 (by omega);have hb:=hr'.nb;have hl:(cB (dw (g,r))).length<=13:=by simp[cB,dw];omega
 have ad:=eF (a:=rows) (b:=cB (dw (g,r))) (by omega)
 have hng:g ∉ FA.names rs:=by
  rw[hs];intro z;obtain⟨j,hj⟩:=Nu.mp z
  have hj':j<i:=by
   have:=(Lw.mp hj).1;rw[MS] at this;omega
  rw[Rh hj',← hg,LU (by omega),LU (by omega)] at hj;exact RK.mp nd j i (by omega) (by omega) hj' (MK hj)
 have hp:=qR rs g r;rw[sk rs g r hng] at hp;refine⟨r,g,hr',hg,.val (.lst (cB (dw (g,r)))),.val r.pv,?_⟩
 have hlr:rs.length<16777216:=by
  have:=congrArg NS hs;unfold FA.names at this;rw[LI,MS] at this;omega
 have eo:eS g r=.tup [.lst (cB (dw (g,r))),r.pv]:=rfl;rw[eo] at er;generalize cB (dw (g,r))=T at *;simp (disch:=omega) [m4,wst,eg,em,er,ad,ag,hlr];rw[hp];simp[ag]
theorem zQ(nms:List Str)(hn:nms.length=14)(hN:∀x∈nms,eV (cd x)=true)(nd:nms.Nodup)(s:PV)(N:Int)(so L:PV)(R0:List PV)(h0:R0.length<=10)(cs:List Int)(hc:cs.length<=12) :
  ∃rs a b c d,FA.names rs=nms.take cs.length/\(∀r∈rs,GoodRoom r.2)/\qj (gF 2 (aE (ak 7) (aE (ak 8) gJ))) m4 ((mN (cs.map .int)).map .tup) (wst s N nms so L R0 (.own (.dct [] [])) .no .no .no .no .no .no)=.ok (.next (wst s N nms so L (R0++cB (rs.flatMap dw)) (.own (ag rs)) a b c d .no .no)):=by
 have hlen:((mN (cs.map PV.int)).map PV.tup).length=cs.length:=by simp[mN]
 obtain⟨ρ',f1,rs,a,b,c,d,rfl,h1,h2,h3⟩:=ir (ps:=(mN (cs.map .int)).map .tup) (h:=gF 2 (aE (ak 7) (aE (ak 8) gJ))) (g:=m4) (ρ:=wst s N nms so L R0 (.own (.dct [] [])) .no .no .no .no .no .no)
  (I:=fun i ρ=>∃rs a b c d,ρ=wst s N nms so L (R0++cB (rs.flatMap dw)) (.own (ag rs)) a b c d .no .no/\FA.names rs=nms.take i/\(∀r∈rs,GoodRoom r.2)/\(rs.flatMap dw).length<=i * 13) ⟨[],.no,.no,.no,.no,by simp[wst,cB,ag],by simp[FA.names],fun r hr=>(by cases hr),by simp⟩ (by
   rintro i p ρ hp ⟨rs,a,b,c,d,rfl,h1,h2,h3⟩;rw[LR,sD,LR] at hp
   by_cases hi:i<cs.length
   ·rw[LU hi] at hp
    have hp:some (PV.tup [.int i,.int cs[i]])=some p:=hp;cases hp;have hlr:(R0++cB (rs.flatMap dw)).length<=1000:=by simp only[M1,cB,LI];omega
    obtain⟨r,g,g1,g2,c',d',e⟩:=Iv nms hn hN nd s N so L (R0++cB (rs.flatMap dw)) hlr rs i (by omega) h1 cs[i] c d;refine⟨_,_,rfl,.inl e,rs++[(g,r)],.val (.int i),.val (.int cs[i]),c',d',?_,?_,fun q hq=>?_,?_⟩
    ·rw[Sk,Nd]
     simp[cB]
    ·show (rs++[(g,r)]).map (·.1)=_
     rw[MD,PC,g2,← h1];rfl
    ·rcases MA.mp hq with hq | hq
     ·exact h2 q hq
     ·have:q=(g,r):=by simpa using hq
      subst this;exact g1
    ·have:=g1.nb
     rw[Sk,M1];have e:([(g,r)].flatMap dw).length=(aW r).length+1:=by simp[dw]
     omega
   ·rw[MQ (by omega)] at hp
    cases hp)
 rw[hlen] at h1;exact⟨rs,a,b,c,d,h1,h2,f1⟩
theorem Im(z:Int):((M9 14).map fun t=>nm z t).Nodup:=by
 refine List.pairwise_map.mpr (List.Pairwise.imp_of_mem (R:=(·<·)) (fun {a b} ha hb hab e=>?_) List.pairwise_lt_range);have h1:=P0.mp ha;have h2:=P0.mp hb;have:=Fo z a b (by omega) (by omega) e;omega
theorem G7(ns:List Int):∃cs:List Int,cs.length<=11/\yi (ns.map PV.int) (some 3) (some 14)=cs.map .int:=by
 refine⟨(ns.drop (HT.sIx ns.length 0 (some 3))).take (HT.sIx ns.length ns.length (some 14)-HT.sIx ns.length 0 (some 3)),?_,?_⟩
 ·have e1:=HT.sIx_nat ns.length 0 3
  have e2:=HT.sIx_nat ns.length ns.length 14;rw[show HT.sIx ns.length 0 (some 3)=Si 3 ns.length from e1,show HT.sIx ns.length ns.length (some 14)=Si 14 ns.length from e2,MS,O9];omega
 ·unfold yi
  rw[LI,← List.map_drop,← List.map_take]
theorem uH (h:House) (g:GoodH h):lP (.str "\n") (.lst (cB (gO h)))=some (.str (rW h)):=by
 have hl:=se h g;have hr:=pk h g
 have e:=vA (s:="\n") (xs:=(gO h).map fun r=>mkS (cQ r)) (by
  have l1:(LB "\n").length=1:=by decide +kernel
  have:=AM (l:=(gO h).map fun r=>mkS (cQ r)) (f:=fun x=>x.length) (b:=1000) fun x hx=>by
   obtain⟨r,hm,rfl⟩:=M8.mp hx;show (mkS (cQ r)).length<=1000;rw[cj];exact(sf r (hr r hm)).2.2
  rw[LI] at this;rw[l1,LI];omega)
 rw[M4] at e;unfold cB;have e2:=xu ((gO h).map cQ);rw[M4] at e2;have e3:NY "\n" ((gO h).map fun r=>mkS (cQ r))=rW h:=e2;rw[e3] at e;exact e
def hq:Str×Str:=("#","q")
section
variable{s0 s1 s2 s3 s4 s5 s6 s7 s8 s9 s10 s11 : Sl}
theorem Fy{α:Type}{f:PSt->R α}{t:Tr}{a:α}(e:f [s0,s1,s2,s3,s4,s5,s6,s7,s8,s9,s10,s11,.val (trV t)]=.ok a):uE 12 f [s0,s1,s2,s3,s4,s5,s6,s7,s8,s9,s10,s11,.tree t]=.ok a [s0,s1,s2,s3,s4,s5,s6,s7,s8,s9,s10,s11,.tree t]:=by
 show XO.rd _ (yC (f [s0,s1,s2,s3,s4,s5,s6,s7,s8,s9,s10,s11,.val (trV t)]))=_;rw[e];rfl
theorem Jf (h:House) (hl:h.letters.length<=1000):Bl (.fld 12 (.inr "letters")) (gQ (a7 (kS "#") (a7 (kS "q") aQ))) [s0,s1,s2,s3,s4,s5,s6,s7,s8,s9,s10,s11,.tree (aq h)]=.ok .next [s0,s1,s2,s3,s4,s5,s6,s7,s8,s9,s10,s11,.tree (aq { h with letters:=h.letters++[hq] })]:=by
 refine Eb (ps:=h.letters.map pv2) (p:=pv2 hq) ?_ (by simp[pv2,hq]) (by rw[LI];omega) ?_
 ·show (match cO [.inr "first",.inr "letters",.inr "rooms"] [.val (.str h.first),.own (.lst (h.letters.map pv2)),.own (ag h.rooms)] (.inr "letters") with
   | some (.own p)=>some (Tr.leaf p)
   | _=>none)=_
  simp[cO]
 ·rw[show h.letters.map pv2++[pv2 hq]=(h.letters++[hq]).map pv2 by simp]
  show some [s0,s1,s2,s3,s4,s5,s6,s7,s8,s9,s10,s11,.tree (.node [.inr "first",.inr "letters",.inr "rooms"] (jO [.inr "first",.inr "letters",.inr "rooms"] [.val (.str h.first),.own (.lst (h.letters.map pv2)),.own (ag h.rooms)] (.inr "letters") (.own (.lst ((h.letters++[hq]).map pv2)))))]=_;simp[jO,aq]
theorem Jb (h:House):∃t,G8 (.fld 12 (.inr "rooms")) [s0,s1,s2,s3,s4,s5,s6,s7,s8,s9,s10,s11,.tree (aq h)]=.ok .next [s0,s1,s2,s3,s4,s5,s6,s7,s8,s9,s10,s11,.tree t]:=by
 have e:uh (.fld 12 (.inr "rooms")) [s0,s1,s2,s3,s4,s5,s6,s7,s8,s9,s10,s11,.tree (aq h)]=some (.leaf (ag h.rooms)):=by
  show (match cO [.inr "first",.inr "letters",.inr "rooms"] [.val (.str h.first),.own (.lst (h.letters.map pv2)),.own (ag h.rooms)] (.inr "rooms") with
   | some (.own p)=>some (Tr.leaf p)
   | _=>none)=_
  simp[cO]
 refine⟨.node [.inr "first",.inr "letters",.inr "rooms"] (jO [.inr "first",.inr "letters",.inr "rooms"] [.val (.str h.first),.own (.lst (h.letters.map pv2)),.own (ag h.rooms)] (.inr "rooms") (.own (.dct [] []))),?_⟩;unfold G8;rw[e];rfl
end
theorem uC(rs:List (Str×Room)):ju (ag rs)=some (.lst ((FA.names rs).map .str)):=by
 show some (PV.lst ((rs.map fun r=>(MU r.1:Key)).map xo))=_;unfold FA.names;rw[M4,M4];rfl
theorem z9{m n:Nat}{g:PSt->XO Fb}{qs:List PV}{p:PV}{ρ:PSt}(hm:qs.length=m)(e:g (PU.start n qs)=.ok (.ret p) ρ):DM m n g qs=some p:=by
 unfold DM;rw[if_pos hm,e]
theorem xE(r:Room):(aH r).length=(aW r).length:=by cases r <;> simp[aH,aW]
theorem zP(ns:List Int):xS [.lst (ns.map .int)]=some (.bl true):=by
 obtain⟨x0,c0⟩:∃x,ba [.lst (ns.map .int),.int 0]=some (.int x):=⟨_,rL ns 0⟩;obtain⟨x1,c1⟩:∃x,ba [.lst (ns.map .int),.int 1]=some (.int x):=⟨_,rL ns 1⟩;obtain⟨x2,c2⟩:∃x,ba [.lst (ns.map .int),.int 2]=some (.int x):=⟨_,rL ns 2⟩;have m0:=mixed (x0) 16807 (by omega);have m1:=mixed (x1) 39373 (by omega);generalize x0 % 2147483647 * 16807 % 2147483647=z at m0;generalize x1 % 2147483647 * 39373 % 2147483647=N at m1;have en:ff [.int z,.int 14]=_:=names z 14 (by decide);rw[show ((M9 14).map fun t=>PV.str (nm z t))=((M9 14).map fun t=>nm z t).map .str by rw[M4];rfl] at en;have hn:((M9 14).map fun t=>nm z t).length=14:=by simp
 have hN:∀x∈(M9 14).map fun t=>nm z t,eV (cd x)=true:=fun x hx=>by
  obtain⟨t,_,rfl⟩:=M8.mp hx;exact Cs z t
 have nd:=Im z;generalize ((M9 14).map fun t=>nm z t)=nms at en hn hN nd;obtain⟨cs,hcs,ec⟩:=G7 ns;have ld:=xg N;rw[rD] at ld;generalize hL:pick (decide (0<N / (3+((0,l0):Nat×(Str×Str)).1) % 3)) _ _ _ _=L at ld;have hL1:=Cd (decide (0<N / (3+((0,l0):Nat×(Str×Str)).1) % 3)) (decide (0<N / (3+((1,l1):Nat×(Str×Str)).1) % 3)) (decide (0<N / (3+((2,l2):Nat×(Str×Str)).1) % 3)) (decide (0<N / (3+((3,l3):Nat×(Str×Str)).1) % 3)) (decide (0<N / (3+((4,l4):Nat×(Str×Str)).1) % 3));have hL2:=EZ (decide (0<N / (3+((0,l0):Nat×(Str×Str)).1) % 3)) (decide (0<N / (3+((1,l1):Nat×(Str×Str)).1) % 3)) (decide (0<N / (3+((2,l2):Nat×(Str×Str)).1) % 3)) (decide (0<N / (3+((3,l3):Nat×(Str×Str)).1) % 3)) (decide (0<N / (3+((4,l4):Nat×(Str×Str)).1) % 3));rw[hL] at hL1 hL2;have lr:=xf L hL2
 obtain⟨fs,hfs,ef⟩:∃g,eV (cd g)=true/\atI (nms.map PV.str) (N % 13)=some (.str g):=by
  have h:(N % 13).toNat<nms.length:=by omega
  exact⟨nms[(N % 13).toNat],hN _ (MV h),bW (n:=(N % 13).toNat) (by omega) (by rw[LR,LU h];rfl)⟩
 have a1:bD (.str "first ") (.str fs)=some (.str (mkS (cQ (.first fs)))):=by
  rw[← vX];have l1:(LB "first ").length=6:=by decide +kernel
  have:=o3 hfs;exact bZ (by omega)
 have a2:=eF (a:=[.str (mkS (cQ (.first fs)))]) (b:=cB (L.map fun l=>.letters l.1 (cd l.2))) (by simp[cB];omega);have hR0:([PV.str (mkS (cQ (.first fs)))]++cB (L.map fun l=>.letters l.1 (cd l.2))).length<=10:=by have:=hL1.2;simp[cB];omega
 obtain⟨rs,a,b,c,d,k1,k2,f1⟩:=zQ nms hn hN nd (.lst (ns.map .int)) N (.lst [.tup [.str "0",.str "zqx"],.tup [.str "2",.str "abc"],.tup [.str "3",.str "fed"],.tup [.str "9",.str "y"],.tup [.str "*",.str "ghijklmnoprstuvw"]]) (.lst (L.map pv2)) ([.str (mkS (cQ (.first fs)))]++cB (L.map fun l=>.letters l.1 (cd l.2))) hR0 (x2::cs) (by simp;omega)
 have kl:rs.length=cs.length+1:=by
  have:=congrArg NS k1;unfold FA.names at this;rw[LI,MS,LS] at this;omega
 have gh:GoodH ⟨fs,L,rs⟩:=by
  refine⟨hfs,fun l hl=>?_,hL1.1,by have:=hL1.2;show L.length<=100;omega,by show rs.length<=12;omega,fun z=>?_,?_,fun r hr=>⟨?_,k2 r hr⟩⟩
  ·have g:=MY.mp hL2 l hl
   unfold GO at g;simp only[M6,decide_eq_true_eq,Qb,decide_eq_false_iff_not] at g;exact⟨g.1.1.1.1,g.1.1.1.2,g.1.1.2⟩
  ·have z:rs=[]:=z
   rw[z] at kl;simp at kl
  ·show (FA.names rs).Nodup
   rw[k1];exact nd.sublist (TN _ _)
  ·have:r.1∈FA.names rs:=NO hr
   rw[k1] at this;exact hN _ (List.mem_of_mem_take this)
 have rd:=wc ⟨fs,L,rs⟩ gh;have jn:=uH ⟨fs,L,rs⟩ gh;have sm:=same ⟨fs,L,rs⟩ gh.nd (fun r hr=>by rw[xE];have:=(k2 r hr).nb;omega) (by show rs.length<=1000;omega) (by have:=hL1.2;show L.length<=1000;omega);have tx:[PV.str (mkS (cQ (.first fs)))]++cB (L.map fun l=>.letters l.1 (cd l.2))++cB (rs.flatMap dw)=cB (gO ⟨fs,L,rs⟩):=by simp[cB,gO]
 rw[tx] at f1;have a3:bD (.lst [.int (x2)]) (.lst (cs.map .int))=some (.lst ((x2::cs).map .int)):=eF (by simp;omega);have ld:∀ρ:PSt,bz (gF 2 (aE (ak 0) (aE (ak 1) gJ))) kR lV (.no::.no::.val (.int N)::ρ) ((mN [.tup [.str "0",.str "zqx"],.tup [.str "2",.str "abc"],.tup [.str "3",.str "fed"],.tup [.str "9",.str "y"],.tup [.str "*",.str "ghijklmnoprstuvw"]]).map .tup)=.ok (L.map pv2):=ld;have lo:=uC rs;have q1:(L.map pv2).length<=16777216:=by have:=hL1.2;rw[LI];omega
 have q2:(cB (L.map fun l=>Rw.letters l.1 (cd l.2))).length<=16777216:=by have:=hL1.2;simp[cB];omega
 have hl1:L.length<=1000:=by have:=hL1.2;omega
 have ap:=fun s0 s1 s2 s3 s4 s5 s6 s7 s8 s9 s10 s11=>Jf (s0:=s0) (s1:=s1) (s2:=s2) (s3:=s3) (s4:=s4) (s5:=s5) (s6:=s6) (s7:=s7) (s8:=s8) (s9:=s9) (s10:=s10) (s11:=s11) ⟨fs,L,rs⟩ hl1;have cl:=fun s0 s1 s2 s3 s4 s5 s6 s7 s8 s9 s10 s11=>Jb (s0:=s0) (s1:=s1) (s2:=s2) (s3:=s3) (s4:=s4) (s5:=s5) (s6:=s6) (s7:=s7) (s8:=s8) (s9:=s9) (s10:=s10) (s11:=s11) ⟨fs,L++[hq],rs⟩;have sm:di [trV (aq ⟨fs,L,rs⟩),.str fs,.lst (L.map pv2),.lst ((FA.names rs).map .str),ag rs]=some (.bl true):=sm;have ap:∀s0 s1 s2 s3 s4 s5 s6 s7 s8 s9 s10 s11,Bl (.fld 12 (.inr "letters")) (gQ (a7 (kS "#") (a7 (kS "q") aQ))) [s0,s1,s2,s3,s4,s5,s6,s7,s8,s9,s10,s11,.tree (aq ⟨fs,L,rs⟩)]=.ok .next [s0,s1,s2,s3,s4,s5,s6,s7,s8,s9,s10,s11,.tree (aq ⟨fs,L++[hq],rs⟩)]:=ap;simp only[wst,LQ] at f1;simp only[LQ] at a3;generalize cB (gO ⟨fs,L,rs⟩)=RP at *;generalize rW ⟨fs,L,rs⟩=T at *;generalize aq ⟨fs,L,rs⟩=t1 at *;generalize aq ⟨fs,L++[hq],rs⟩=t2 at *;generalize (FA.names rs).map PV.str=NL at *;generalize ag rs=RR at *;generalize [PV.str (mkS (cQ (.first fs)))]++cB (L.map fun l=>Rw.letters l.1 (cd l.2))=R0 at *;generalize cB (L.map fun l=>Rw.letters l.1 (cd l.2))=RL at *;have tw:trV t1=trV t1:=rfl;generalize L.map pv2=LL at *;generalize nms.map PV.str=NN at *;generalize cs.map PV.int=CC at *;obtain⟨t3,cl⟩:=cl (.val (.lst (ns.map .int))) (.val (.int N)) (.val (.lst NN)) (.val (.lst [.tup [.str "0",.str "zqx"],.tup [.str "2",.str "abc"],.tup [.str "3",.str "fed"],.tup [.str "9",.str "y"],.tup [.str "*",.str "ghijklmnoprstuvw"]])) (.val (.lst LL)) (.val (.lst RP)) (.val RR) a b c d (.val (.str T))
 have ts:vD 12 (oF (a7 (a8 11) aQ) bf) [.val (.lst (ns.map .int)),.val (.int N),.val (.lst NN),.val (.lst [.tup [.str "0",.str "zqx"],.tup [.str "2",.str "abc"],.tup [.str "3",.str "fed"],.tup [.str "9",.str "y"],.tup [.str "*",.str "ghijklmnoprstuvw"]]),.val (.lst LL),.val (.lst RP),.own RR,a,b,c,d,.val (.str T),.no]=.ok .next [.val (.lst (ns.map .int)),.val (.int N),.val (.lst NN),.val (.lst [.tup [.str "0",.str "zqx"],.tup [.str "2",.str "abc"],.tup [.str "3",.str "fed"],.tup [.str "9",.str "y"],.tup [.str "*",.str "ghijklmnoprstuvw"]]),.val (.lst LL),.val (.lst RP),.own RR,a,b,c,d,.val (.str T),.tree t1]:=by
  have:oF (a7 (a8 11) aQ) bf [.val (.lst (ns.map .int)),.val (.int N),.val (.lst NN),.val (.lst [.tup [.str "0",.str "zqx"],.tup [.str "2",.str "abc"],.tup [.str "3",.str "fed"],.tup [.str "9",.str "y"],.tup [.str "*",.str "ghijklmnoprstuvw"]]),.val (.lst LL),.val (.lst RP),.own RR,a,b,c,d,.val (.str T),.no]=.ok t1:=by
   show (a7 (a8 11) aQ _ >>= _)=_;simp[rd]
  show (XO.rd _ (oF _ _ _)).bind _=_;rw[this];rfl
 have ln:=Fy (s0:=.val (.lst (ns.map .int))) (s1:=.val (.int N)) (s2:=.val (.lst NN)) (s3:=.val (.lst [.tup [.str "0",.str "zqx"],.tup [.str "2",.str "abc"],.tup [.str "3",.str "fed"],.tup [.str "9",.str "y"],.tup [.str "*",.str "ghijklmnoprstuvw"]])) (s4:=.val (.lst LL)) (s5:=.val (.lst RP)) (s6:=.val RR) (s7:=a) (s8:=b) (s9:=c) (s10:=d) (s11:=.val (.str T)) (t:=t1) (a:=false)
  (f:=nZ (bU (bg (a7 (a8 12) (a7 (ai (a8 2) (ai (a8 1) (kI 13) i9) gIx) (a7 (a8 4) (a7 (un1 (lN 6) ju) (a7 (a8 6) aQ))))) di))) (by simp (disch:=omega) [dW,ef,lo,sm])
 have rt:GI (oF (a7 (a8 11) aQ) bf) [.val (.lst (ns.map .int)),.val (.int N),.val (.lst NN),.val (.lst [.tup [.str "0",.str "zqx"],.tup [.str "2",.str "abc"],.tup [.str "3",.str "fed"],.tup [.str "9",.str "y"],.tup [.str "*",.str "ghijklmnoprstuvw"]]),.val (.lst LL),.val (.lst RP),.val RR,a,b,c,d,.val (.str T),.tree t3]=.ok (trV t1):=by
  have:oF (a7 (a8 11) aQ) bf [.val (.lst (ns.map .int)),.val (.int N),.val (.lst NN),.val (.lst [.tup [.str "0",.str "zqx"],.tup [.str "2",.str "abc"],.tup [.str "3",.str "fed"],.tup [.str "9",.str "y"],.tup [.str "*",.str "ghijklmnoprstuvw"]]),.val (.lst LL),.val (.lst RP),.val RR,a,b,c,d,.val (.str T),.tree t3]=.ok t1:=by
   show (a7 (a8 11) aQ _ >>= _)=_;simp[rd]
  show (oF _ _ _ >>= _)=_;rw[this];rfl
 refine z9 rfl (ρ:=[.val (.lst (ns.map .int)),.val (.int N),.val (.lst NN),.val (.lst [.tup [.str "0",.str "zqx"],.tup [.str "2",.str "abc"],.tup [.str "3",.str "fed"],.tup [.str "9",.str "y"],.tup [.str "*",.str "ghijklmnoprstuvw"]]),.val (.lst LL),.val (.lst RP),.val RR,a,b,c,d,.val (.str T),.tree t3]) ?_;simp (disch:=omega) [Aa,PU.start,c0,c1,c2,m0,m1,en,d8,ld,q1,lr,q2,ef,dW,a1,a2,ec,a3];rw[f1];simp (disch:=omega) [jn,ts,ln,ap,cl,rt,dW,ef,lo,sm]
end K02
namespace K02
open PySem PySem.Spec PyProof.Rows L2 PU
seal EV EO EN EA ET EW SV SVs TGt DG TCt DH EI ETs ED EOI ELF EVF ENF ETF SVF EM SVM EDN XB XT SB SBs ENT EDF
def top(i:Nat):Stmt:=PySem.Challenge.pw_menutree_k02_houses_read_back.main.body.getD i (.Pass ⟨0,0,0,0⟩)
structure Txt(w:Ly)(K:LC)(mg:Str->Option LD):Prop where
 n_all:mg "all"=none
 n_any:mg "any"=none
 n_bool:mg "bool"=none
 n_dict:mg "dict"=none
 n_enumerate:mg "enumerate"=none
 n_int:mg "int"=none
 n_isinstance:mg "isinstance"=none
 n_len:mg "len"=none
 n_list:mg "list"=none
 n_ord:mg "ord"=none
 n_range:mg "range"=none
 n_set:mg "set"=none
 n_sorted:mg "sorted"=none
 n_str:mg "str"=none
 n_tuple:mg "tuple"=none
 n_zip:mg "zip"=none
 c_BENEATH:@Con (tw w) K mg "BENEATH" c_BENEATH
 c_FIELDS:@Con (tw w) K mg "FIELDS" c_FIELDS
 c_FIGURES:@Con (tw w) K mg "FIGURES" c_FIGURES
 c_KEYS:@Con (tw w) K mg "KEYS" c_KEYS
 c_MOST_BENEATH:@Con (tw w) K mg "MOST_BENEATH" c_MOST_BENEATH
 c_MOST_ROOMS:@Con (tw w) K mg "MOST_ROOMS" c_MOST_ROOMS
 c_PER_CENT:@Con (tw w) K mg "PER_CENT" c_PER_CENT
 c_ROOM_KINDS:@Con (tw w) K mg "ROOM_KINDS" c_ROOM_KINDS
 c_SMALL_LETTERS:@Con (tw w) K mg "SMALL_LETTERS" c_SMALL_LETTERS
end K02
namespace K02
open PySem PySem.Spec PyProof.Rows L2 PU
seal EV EO EN EA ET EW SV SVs TGt DG TCt DH EI ETs ED EOI ELF EVF ENF ETF SVF EM SVM EDN XB XT SB SBs ENT EDF
variable{P : LY}{w : Ly}{K : LC}{mg : Str → Option LD}{base : Heap}
abbrev gZ:Stmt:=top 8
theorem jb:FnScope ["text","most"] ["text","most"] (ab gZ):=fsc
theorem bI (T:Txt w K mg) (hs:Hs K mg "is_letters" gZ):@PF (tw w) P w K mg base 1 "is_letters" aX:=
 letI:TW:=tw w
 kq (g:=dF) hs jb fun _ _ _ _ _ _ _ hr=>have hu:=hr.units;(af (au (lT (oy B2 B2 lI ae (EV.o (gd rM rfl T.n_len rfl (ar 0))) (ar 1)) (iD (gd Jd rfl T.n_all rfl (EN.o (dP (N':=["sign"]) (cok jb) (gf (aT 0)) (fun _ _ _ _ _=>(md 0)) (fun _ _ _ _ _=>(d6 (B3 hu) (ar 0) (EV.o (fG rfl T.c_SMALL_LETTERS)))))))))))
abbrev l5:Stmt:=top 9
theorem uk:FnScope ["text"] ["text"] (ab l5):=fsc
theorem il (T:Txt w K mg) (hs:Hs K mg "is_name" l5) (bI:@PF (tw w) P w K mg base 1 "is_letters" aX):@PF (tw w) P w K mg base 2 "is_name" ib:=
 letI:TW:=tw w
 kq (g:=jq) hs uk fun _ _ _ _ _ _ _ hr=>have hu:=hr.units;(af (au (lT (az bI hr (a6 (aT 0) (a6 bF ah))) (iD (d6 (Cp hu) (ar 0) ay)))))
abbrev kZ:Stmt:=top 10
theorem uj:FnScope ["text"] ["text"] (ab kZ):=fsc
theorem jP (T:Txt w K mg) (hs:Hs K mg "is_word" kZ) (bI:@PF (tw w) P w K mg base 1 "is_letters" aX):@PF (tw w) P w K mg base 2 "is_word" jw:=
 letI:TW:=tw w
 kq (g:=lO) hs uj fun _ _ _ _ _ _ _ hr=>have hu:=hr.units;(af (au (az bI hr (a6 (aT 0) (a6 bF ah)))))
abbrev nQ:Stmt:=top 11
theorem vQ:FnScope ["text"] ["text"] (ab nQ):=fsc
theorem jd (T:Txt w K mg) (hs:Hs K mg "is_key" nQ):@PF (tw w) P w K mg base 1 "is_key" jx:=
 letI:TW:=tw w
 kq (g:=jr) hs vQ fun _ _ _ _ _ _ _ hr=>have hu:=hr.units;(af (au (lT (d6 (j7 hu) (EV.o (gd rM rfl T.n_len rfl (ar 0))) ae) (iD (d6 (B3 hu) (ar 0) (EV.o (fG rfl T.c_KEYS)))))))
abbrev eN:Stmt:=top 12
theorem ko:FnScope ["sign"] ["sign"] (ab eN):=fsc
theorem dO (T:Txt w K mg) (hs:Hs K mg "is_plain_sign" eN):@PF (tw w) P w K mg base 1 "is_plain_sign" cZ:=
 letI:TW:=tw w
 kq (g:=cm) hs ko fun _ _ _ _ _ _ _ hr=>have hu:=hr.units;(af (au (lT (oy B2 B2 lI ay (ar 0) ay) (iD (d6 (Cp hu) (EV.o (gd KU rfl T.n_ord rfl (ar 0))) (EV.o (fG rfl T.c_PER_CENT)))))))
abbrev jN:Stmt:=top 13
theorem kX:FnScope ["text"] ["text"] (ab jN):=fsc
theorem iV (T:Txt w K mg) (hs:Hs K mg "is_plain" jN) (dO:@PF (tw w) P w K mg base 1 "is_plain_sign" cZ):@PF (tw w) P w K mg base 2 "is_plain" iu:=
 letI:TW:=tw w
 kq (g:=fZ) hs kX fun _ _ _ _ _ _ _ hr=>have hu:=hr.units;(af (au (lT (oy B2 B2 lI ae (EV.o (gd rM rfl T.n_len rfl (ar 0))) ae) (iD (gd Jd rfl T.n_all rfl (EN.o (dP (N':=["sign"]) (cok kX) (gf (aT 0)) (fun _ _ _ _ _=>(md 0)) (fun _ _ _ _ _=>(az dO hr (a6 (aT 0) ah))))))))))
abbrev hJ:Stmt:=top 14
theorem jc:FnScope ["text"] ["text"] (ab hJ):=fsc
theorem gw (T:Txt w K mg) (hs:Hs K mg "is_figures" hJ):@PF (tw w) P w K mg base 1 "is_figures" fF:=
 letI:TW:=tw w
 kq (g:=cM) hs jc fun _ _ _ _ _ _ _ hr=>have hu:=hr.units;(aa (bH (EW.et (ox (aM (j7 hu) b9 (ar 0) ay) (jy (gM (bo (EV.o (gd Jd rfl T.n_all rfl (EN.o (dP (N':=["sign"]) (cok jc) (gf (aT 0)) (fun _ _ _ _ _=>(md 0)) (fun _ _ _ _ _=>(d6 (B3 hu) (ar 0) (EV.o (fG rfl T.c_FIGURES))))))))))))) (af (au gB)) aA) (af (au (Dc (d6 (j7 hu) (ar 0) ay) (iD (d6 (Cp hu) (EV.o (aJ (ixP hu) (ar 0) ae)) ay))))))
abbrev eM:Stmt:=top 15
theorem gG:FnScope ["text","least","most","number"] ["text","least","most"] (ab eM):=fsc
theorem bK (T:Txt w K mg) (hs:Hs K mg "number_within" eM) (gw:@PF (tw w) P w K mg base 1 "is_figures" fF):@PF (tw w) P w K mg base 2 "number_within" aO:=
 letI:TW:=tw w
 kq (g:=bj) hs gG fun _ _ _ _ _ _ _ hr=>have hu:=hr.units;(aa (bH (EW.et (ox (gM (bo (EV.o (az gw hr (a6 (aT 0) ah))))) (jy (aM GL rB (EV.o (gd rM rfl T.n_len rfl (ar 0))) (EV.o (gd rM rfl T.n_len rfl (EV.o (mw cStr rfl T.n_str rfl (ar 2))))))))) (af (au kb)) aA) (aa (aK 3 gG.nd (mw Jc rfl T.n_int rfl (ar 0))) (af (au (xU (Ah B2 B2 lI lI (ar 1) (ar 3) (ar 2)) (aT 3) kb)))))
abbrev fN:Stmt:=top 22
theorem kY:FnScope ["room"] ["room"] (ab fN):=fsc
theorem eR (T:Txt w K mg) (hs:Hs K mg "held_beneath" fN):@PF (tw w) P w K mg base 1 "held_beneath" dr:=
 letI:TW:=tw w
 kq (g:=fR) hs kY fun _ _ _ _ _ _ _ hr=>have hu:=hr.units;(aa (bH (aM (j7 hu) b9 (EV.o (aJ (ixP hu) (ar 0) ae)) ay) (af (au (aJ (ixP hu) (ar 0) ae))) aA) (af (au (xU (aM (B3 hu) lJ (EV.o (aJ (ixP hu) (ar 0) ae)) (EV.o (fG rfl T.c_BENEATH))) (aJ (ixP hu) (ar 0) ae) (bq ah)))))
abbrev fK:Stmt:=top 24
theorem cT:FnScope ["rows","number","row","below"] ["rows"] (ab fK):=fsc
theorem eO (T:Txt w K mg) (hs:Hs K mg "wordless_row" fK):@PF (tw w) P w K mg base 1 "wordless_row" dq:=
 letI:TW:=tw w
 kq (g:=fQ) hs cT fun _ _ _ _ _ _ _ hr=>have hu:=hr.units;(aa (iy (tf rfl T.n_enumerate (aT 0)) (mC rfl (cq (bG 1 cT.nd) (cq (bG 2 cT.nd) jG))) (aa (aK 3 cT.nd (xU (aM DQ rA (ar 1) (EV.o (gd rM rfl T.n_len rfl (ar 0)))) (aJ (ixP hu) (ar 0) (ar 1)) aV)) (af (bH (EW.et (G0 (bo (EV.o (mx vV wX (aT 2) ay))) (D9 (gM (bo (EV.o (mx vV wX (aT 3) ay))))))) (af (au (aT 1))) aA)))) (af (au bF)))
abbrev vU:Stmt:=top 28
theorem BQ:FnScope ["field","part"] ["field","part"] (ab vU):=fsc
theorem qW (T:Txt w K mg) (hs:Hs K mg "fits" vU) (il:@PF (tw w) P w K mg base 2 "is_name" ib) (jP:@PF (tw w) P w K mg base 2 "is_word" jw) (jd:@PF (tw w) P w K mg base 1 "is_key" jx) (bI:@PF (tw w) P w K mg base 1 "is_letters" aX) (iV:@PF (tw w) P w K mg base 2 "is_plain" iu):@PF (tw w) P w K mg base 3 "fits" sW:=
 letI:TW:=tw w
 kq (g:=i8) hs BQ fun _ _ _ _ _ _ _ hr=>have hu:=hr.units;(aa (bH (aM (j7 hu) b9 (ar 0) ay) (af (au (az il hr (a6 (aT 1) ah)))) aA) (aa (bH (aM (j7 hu) b9 (ar 0) ay) (af (au (Dc (az il hr (a6 (aT 1) ah)) (iD (d6 (j7 hu) (ar 1) ay))))) aA) (aa (bH (aM (j7 hu) b9 (ar 0) ay) (af (au (az jP hr (a6 (aT 1) ah)))) aA) (aa (bH (aM (j7 hu) b9 (ar 0) ay) (af (au (az jd hr (a6 (aT 1) ah)))) aA) (aa (bH (aM (j7 hu) b9 (ar 0) ay) (af (au (lT (az jd hr (a6 (aT 1) ah)) (iD (d6 (Cp hu) (ar 1) ay))))) aA) (aa (bH (aM (j7 hu) b9 (ar 0) ay) (af (au (az bI hr (a6 (aT 1) (a6 bF ah))))) aA) (af (au (az iV hr (a6 (aT 1) ah))))))))))
abbrev gs:Stmt:=top 27
theorem mf:FnScope ["field","part"] ["field","part"] (ab gs):=fsc
theorem fP (T:Txt w K mg) (hs:Hs K mg "field_value" gs) (bK:@PF (tw w) P w K mg base 2 "number_within" aO) (qW:@PF (tw w) P w K mg base 3 "fits" sW):@PF (tw w) P w K mg base 4 "field_value" eB:=
 letI:TW:=tw w
 kq (g:=cx) hs mf fun _ _ _ _ _ _ _ hr=>have hu:=hr.units;(aa (bH (aM (j7 hu) b9 (ar 0) ay) (af (au (az bK hr (a6 (aT 1) (a6 bF (a6 bF ah)))))) aA) (aa (bH (aM (j7 hu) b9 (ar 0) ay) (af (au (az bK hr (a6 (aT 1) (a6 bF (a6 bF ah)))))) aA) (aa (bH (aM (j7 hu) b9 (ar 0) ay) (af (au (az bK hr (a6 (aT 1) (a6 bF (a6 bF ah)))))) aA) (af (au (xU (bo (EV.o (az qW hr (a6 (aT 0) (a6 (aT 1) ah))))) (aT 1) kb))))))
abbrev gX:Stmt:=top 26
theorem cW:FnScope ["kind","row","fields","parts","values"] ["kind","row"] (ab gX):=fsc
theorem gu (T:Txt w K mg) (hs:Hs K mg "row_values" gX) (fP:@PF (tw w) P w K mg base 4 "field_value" eB):@PF (tw w) P w K mg base 5 "row_values" fE:=
 letI:TW:=tw w
 kq (g:=dE) hs cW fun _ _ _ _ _ _ _ hr=>have hu:=hr.units;(aa (bH (aM (r8 hu) uI (ar 0) (EV.o (fG rfl T.c_FIELDS))) (af (au kb)) aA) (aa (aK 2 cW.nd (aJ (ixP hu) (EV.o (fG rfl T.c_FIELDS)) (ar 0))) (aa (aK 3 cW.nd (sX (EV.o (J8 AS Cz (aT 1) ay (EV.o (gd rM rfl T.n_len rfl (ar 2))))) (qO bF) BL)) (aa (bH (aM DQ rA (EV.o (gd rM rfl T.n_len rfl (ar 3))) (EV.o (gd rM rfl T.n_len rfl (ar 2)))) (af (au kb)) aA) (aa (vH false 4 cW.nd (N':=["field","part"]) (cok cW) (Dm rfl T.n_zip (aT 2) (aT 3)) (fun _ _ _ _ _=>(mE rfl (cF (md 0) (cF (md 1) jH)))) (fun _ _ _ _ _=>(az fP hr (a6 (aT 0) (a6 (aT 1) ah))))) (af (au (xU (aM (B3 hu) lJ (EV.o kb) (ar 4)) kb (aT 4)))))))))
abbrev iJ:Stmt:=top 33
theorem pb:FnScope ["room","held"] ["room","held"] (ab iJ):=fsc
theorem hU (T:Txt w K mg) (hs:Hs K mg "with_held" iJ):@PF (tw w) P w K mg base 1 "with_held" df:=
 letI:TW:=tw w
 kq (g:=eW) hs pb fun _ _ _ _ _ _ _ hr=>have hu:=hr.units;(aa (bH (aM (j7 hu) b9 (EV.o (aJ (ixP hu) (ar 0) ae)) ay) (af (au (bq (a6 (aJ (ixP hu) (ar 0) ae) (a6 (aT 1) (a6 (aJ (ixP hu) (ar 0) ae) ah)))))) aA) (af (au (bq (a6 (aJ (ixP hu) (ar 0) ae) (a6 (aJ (ixP hu) (ar 0) ae) (a6 (aT 1) (a6 (aJ (ixP hu) (ar 0) ae) (a6 (aJ (ixP hu) (ar 0) ae) ah)))))))))
abbrev iP:Stmt:=top 34
theorem pg:FnScope ["kind","held","values"] ["kind","held","values"] (ab iP):=fsc
theorem dB (T:Txt w K mg) (hs:Hs K mg "is_rising" iP):@PF (tw w) P w K mg base 1 "is_rising" aU:=
 letI:TW:=tw w
 kq (g:=ck) hs pg fun _ _ _ _ _ _ _ hr=>have hu:=hr.units;(aa (bH (aM (j7 hu) b9 (ar 0) ay) (af (au (d6 DQ (EV.o (aJ (ixP hu) (ar 2) ae)) (EV.o (aJ (ixP hu) (ar 2) ae))))) aA) (aa (bH (gM (bo (ar 1))) (af (au gB)) aA) (aa (bH (aM (j7 hu) b9 (ar 0) ay) (af (au (d6 DQ (EV.o (aJ (ixP hu) (EV.o (aJ (ixP hu) (ar 1) (EV.o (xT bF)))) ae)) (EV.o (aJ (ixP hu) (ar 2) ae))))) aA) (af (au (d6 DQ (EV.o (mx AU B8 (fG rfl T.c_KEYS) (EV.o (aJ (ixP hu) (EV.o (aJ (ixP hu) (ar 1) (EV.o (xT bF)))) ae)))) (EV.o (mx AU B8 (fG rfl T.c_KEYS) (EV.o (aJ (ixP hu) (ar 2) ae))))))))))
abbrev fM:Stmt:=top 32
theorem cV:FnScope ["rooms","kind","values","name","room","held"] ["rooms","kind","values"] (ab fM):=fsc
theorem eQ (T:Txt w K mg) (hs:Hs K mg "take_beneath" fM) (eR:@PF (tw w) P w K mg base 1 "held_beneath" dr) (dB:@PF (tw w) P w K mg base 1 "is_rising" aU) (hU:@PF (tw w) P w K mg base 1 "with_held" df):@PFB (tw w) P w K mg base 2 "take_beneath" bw:=
 letI:TW:=tw w
 zu (g:=bu) (DW hs) cV fun _ _ _ _ _ _ _ hr=>have hu:=hr.units;(av (aL (bH (gM (bo (yG 0))) (af (au gB)) aA)) (av (aL (aK 3 cV.nd (aJ (ixP hu) (EN.o (Aj tG rfl T.n_list rfl (yG 0))) (EV.o (xT bF))))) (av (aL (aK 4 cV.nd (aJ (ixP hu) (yG 0) (ar 3)))) (av (aL (bH (aM (Cp hu) rz (EV.o (De (EV.o (fG rfl T.c_BENEATH)) (EV.o (aJ (ixP hu) (ar 4) ae)))) (ar 1)) (af (au gB)) aA)) (av (aL (aK 5 cV.nd (az eR hr (a6 (aT 4) ah)))) (av (aL (bH (EW.et (ox (aM (j7 hu) b9 (EV.o (gd rM rfl T.n_len rfl (ar 5))) (EV.o (fG rfl T.c_MOST_BENEATH))) (jy (gM (bo (EV.o (az dB hr (a6 (aT 1) (a6 (aT 5) (a6 (aT 2) ah)))))))))) (af (au gB)) aA)) (av (AQ hu (nX 0) (aT 3) (az hU hr (a6 (aT 4) (a6 (a9 aR (ar 5) (EV.o (bq (a6 (mw yo rfl T.n_tuple rfl (ar 2)) ah)))) ah)))) (d9 (aL (au gB))))))))))
abbrev fL:Stmt:=top 29
theorem cU:FnScope ["house","values","told"] ["house","values"] (ab fL):=fsc
theorem eP (T:Txt w K mg) (hs:Hs K mg "take_letters" fL) (dB:@PF (tw w) P w K mg base 1 "is_rising" aU):@PFB (tw w) P w K mg base 2 "take_letters" bP:=
 letI:TW:=tw w
 zu (g:=bO) (DW hs) cU fun _ _ _ _ _ _ _ hr=>have hu:=hr.units;(av (um (vk 0 (EW.et (ox (bo (EV.o (aJ (ixP hu) (ar 0) ay))) (jy (gM (bo (EV.o (az dB hr (a6 aV (a6 (aJ (ixP hu) (ar 0) ay) (a6 (aT 1) ah))))))))))) (d9 (aL (au gB))) jI) (av (aL (aK 2 cU.nd (a9 aR (EV.o (mx BU CA aV (EN.o (Ak (N':=["key","letters"]) (cok cU) (G4 (xX 0 hu)) (fun _ _ _ _ _=>(mE rfl (cF (md 0) (cF (md 1) jH)))) (fun _ _ _ _ _=>(aT 1)))))) (EV.o (aJ (ixP hu) (ar 1) ae))))) (av (aL (bH (bo (EV.o (gd KY rfl T.n_any rfl (EN.o (dP (N':=["letter","told"]) (cok cU) (gf (aJ (ixP hu) (ar 1) ae)) (fun _ _ _ _ _=>(md 0)) (fun _ _ _ _ _=>(d6 GL (EV.o (mx EG Fx (aT 1) (ar 0))) ae))))))) (af (au gB)) aA)) (av (AR (lq 0 hu) (bq (a6 (aJ (ixP hu) (ar 1) ae) (a6 (aJ (ixP hu) (ar 1) ae) ah)))) (d9 (aL (au gB)))))))
abbrev iQ:Stmt:=top 31
theorem ph:FnScope ["kind","values"] ["kind","values"] (ab iQ):=fsc
theorem hZ (T:Txt w K mg) (hs:Hs K mg "bare_room" iQ):@PF (tw w) P w K mg base 1 "bare_room" bJ:=
 letI:TW:=tw w
 kq (g:=eZ) hs ph fun _ _ _ _ _ _ _ hr=>have hu:=hr.units;(aa (bH (aM (j7 hu) b9 (ar 0) ay) (af (au (bq (a6 (aT 0) (a6 (bq ah) (a6 (aJ (ixP hu) (ar 1) ae) ah)))))) aA) (aa (bH (aM (B3 hu) lJ (ar 0) (EV.o (fG rfl T.c_BENEATH))) (af (au (bq (a6 (aT 0) (a6 (aJ (ixP hu) (ar 1) ae) (a6 (bq ah) (a6 (bq (a6 (aJ (ixP hu) (ar 1) ae) (a6 (aJ (ixP hu) (ar 1) ae) ah))) (a6 (bq (a6 (aJ (ixP hu) (ar 1) ae) (a6 (aJ (ixP hu) (ar 1) ae) ah))) ah)))))))) aA) (af (au (bq (a6 (aT 0) (a6 (aJ (ixP hu) (ar 1) ae) ah)))))))
abbrev iK:Stmt:=top 30
theorem pd:FnScope ["rooms","kind","values"] ["rooms","kind","values"] (ab iK):=fsc
theorem hV (T:Txt w K mg) (hs:Hs K mg "take_room" iK) (hZ:@PF (tw w) P w K mg base 1 "bare_room" bJ):@PFB (tw w) P w K mg base 2 "take_room" dh:=
 letI:TW:=tw w
 zu (g:=eX) (DW hs) pd fun _ _ _ _ _ _ _ hr=>have hu:=hr.units;(av (aL (bH (EW.et (ox (aM (j7 hu) b9 (EV.o (gd rM rfl T.n_len rfl (yG 0))) (EV.o (fG rfl T.c_MOST_ROOMS))) (jy (aM (B3 hu) lJ (EV.o (aJ (ixP hu) (ar 2) ae)) (yG 0))))) (af (au gB)) aA)) (av (AQ hu (nX 0) (aJ (ixP hu) (ar 2) ae) (az hZ hr (a6 (aT 1) (a6 (aT 2) ah)))) (d9 (aL (au gB)))))
abbrev jJ:Stmt:=top 25
theorem iI:FnScope ["house","row","kind","values"] ["house","row"] (ab jJ):=fsc
theorem iS (T:Txt w K mg) (hs:Hs K mg "take_row" jJ) (gu:@PF (tw w) P w K mg base 5 "row_values" fE) (eP:@PFB (tw w) P w K mg base 2 "take_letters" bP) (hV:@PFB (tw w) P w K mg base 2 "take_room" dh) (eQ:@PFB (tw w) P w K mg base 2 "take_beneath" bw):@PFB (tw w) P w K mg base 6 "take_row" g9:=
 letI:TW:=tw w
 zu (g:=bN) (DW hs) iI fun _ _ _ _ _ _ _ hr=>have hu:=hr.units;(av (aL (aK 2 iI.nd (aJ (ixP hu) (EV.o (mx HK Ir (aT 1) ay)) ae))) (av (aL (aK 3 iI.nd (az gu hr (a6 (aT 2) (a6 (aT 1) ah))))) (av (aL (bH (EW.et (ox (aM Ih A5 (ar 3) (EV.o kb)) (jy (aM (Cp hu) rz (EV.o (d6 (j7 hu) (ar 2) ay)) (EV.o (d6 (j7 hu) (xX 0 hu) ay)))))) (af (au gB)) aA)) (av (um (qH (aM (j7 hu) b9 (ar 2) ay)) (av (BS 0 hu (aJ (ixP hu) (ar 3) ae)) (d9 (aL (au gB)))) jI) (av (um (qH (aM (j7 hu) b9 (ar 2) ay)) (d9 (vS (ni eP hr (nX 0) (a6 (aT 3) ah)))) jI) (av (um (qH (aM (B3 hu) lJ (ar 2) (EV.o (fG rfl T.c_ROOM_KINDS)))) (d9 (vS (ni hV hr (lq 0 hu) (a6 (aT 2) (a6 (aT 3) ah))))) jI) (d9 (vS (ni eQ hr (lq 0 hu) (a6 (aT 2) (a6 (aT 3) ah)))))))))))
abbrev gY:Stmt:=top 23
theorem cu:FnScope ["text","rows","house","number","row","wordless"] ["text"] (ab gY):=fsc
theorem dX (T:Txt w K mg) (hs:Hs K mg "read_house" gY) (iS:@PFB (tw w) P w K mg base 6 "take_row" g9) (eO:@PF (tw w) P w K mg base 1 "wordless_row" dq):@PFT (tw w) P w K mg base 7 "read_house" bf:=
 letI:TW:=tw w
 HS (g:=i7) (DW hs) cu fun _ _ _ _ _ _ _ hr=>have hu:=hr.units;(av (aL (bH (gM (bo (EV.o (kc xx rfl T.n_isinstance rfl T.n_str (by decide +kernel) (ar 0))))) (af nA) aA)) (av (aL (aK 1 cu.nd (mx AS Fw (aT 0) ay))) (av (vR 2 cu.nd (Ai (Dn aV (ya (dH ah) (ya xZ Do))))) (av (EE (tf rfl T.n_enumerate (aT 1)) (mC rfl (cq (bG 3 cu.nd) (cq (bG 4 cu.nd) jG))) (d9 (um (E5 (E4 (ni iS hr (nX 2) (a6 (aT 4) ah)))) (d9 z7) jI))) (av (aL (bH (gM (bo (xX 2 hu))) (af nA) aA)) (av (aL (aK 5 cu.nd (az eO hr (a6 (aT 1) ah)))) (av (aL (bH (aM GL rB (ar 5) ae) (af nA) aA)) (d9 (BR 2)))))))))
abbrev gq:Stmt:=top 36
theorem me:FnScope ["_law_script","_law_k"] ["_law_script","_law_k"] (ab gq):=fsc
theorem cC (T:Txt w K mg) (hs:Hs K mg "_law_cell_at" gq):@PF (tw w) P w K mg base 1 "_law_cell_at" ba:=
 letI:TW:=tw w
 kq (g:=dZ) hs me fun _ _ _ _ _ _ _ hr=>have hu:=hr.units;(aa (bH (aM DQ rA (ar 1) (EV.o (gd rM rfl T.n_len rfl (ar 0)))) (af (au (aJ (ixP hu) (ar 0) (ar 1)))) aA) (af (au bF)))
abbrev iO:Stmt:=top 37
theorem pf:FnScope ["_law_cell","_law_by"] ["_law_cell","_law_by"] (ab iO):=fsc
theorem dA (T:Txt w K mg) (hs:Hs K mg "_law_mixed" iO):@PF (tw w) P w K mg base 1 "_law_mixed" dk:=
 letI:TW:=tw w
 kq (g:=j4) hs pf fun _ _ _ _ _ _ _ hr=>have hu:=hr.units;(af (au (a9 cJ (EV.o (a9 wL (EV.o (a9 cJ (ar 0) ae)) (ar 1))) ae)))
abbrev iN:Stmt:=top 38
theorem bc:FnScope ["_law_number","_law_many","_law_letters","_law_size","_law_at","_law_names_here","_law_turn","_law_name","_law_k","_law_more"] ["_law_number","_law_many"] (ab iN):=fsc
theorem hX (T:Txt w K mg) (hs:Hs K mg "_law_names" iN):@PF (tw w) P w K mg base 1 "_law_names" ff:=
 letI:TW:=tw w
 kq (g:=j3) hs bc fun _ _ _ _ _ _ _ hr=>have hu:=hr.units;(aa (aK 2 bc.nd aV) (aa (aK 3 bc.nd (a9 aR ae (EV.o (a9 cJ (ar 0) ae)))) (aa (aK 4 bc.nd (a9 cJ (EV.o (a9 fX (ar 0) ae)) (ar 3))) (aa (oQ 5 bc.nd (dH ah)) (aa (iy (gg rfl T.n_range (aT 1)) (bG 6 bc.nd) (aa (aK 7 bc.nd aV) (aa (iy (gg rfl T.n_range (aT 3)) (bG 8 bc.nd) (aa (aK 9 bc.nd (a9 wL (ar 6) (EV.o (mw cInt rfl T.n_int rfl (EV.o (d6 (j7 hu) (ar 8) (ar 4))))))) (af (aK 7 bc.nd (a9 aR (ar 7) (EV.o (aJ (ixP hu) (ar 2) (EV.o (a9 cJ (EV.o (a9 aR (EV.o (a9 fX (ar 0) (EV.o (a9 aR (ar 8) ae)))) (ar 9))) ae))))))))) (af (gU 5 (aT 7)))))) (af (SV.frz 5 (au (aT 5)))))))))
abbrev iM:Stmt:=top 39
theorem cf:FnScope ["_law_number","_law_signs","_law_text","_law_k"] ["_law_number"] (ab iM):=fsc
theorem dz (T:Txt w K mg) (hs:Hs K mg "_law_plain" iM):@PF (tw w) P w K mg base 1 "_law_plain" dj:=
 letI:TW:=tw w
 kq (g:=j0) hs cf fun _ _ _ _ _ _ _ hr=>have hu:=hr.units;(aa (aK 1 cf.nd aV) (aa (aK 1 cf.nd (a9 aR (ar 1) ay)) (aa (aK 2 cf.nd aV) (aa (iy (gg rfl T.n_range (aJ (ixP hu) (EN.o (dH (a6 (a9 aR ae (EV.o (a9 cJ (ar 0) ae))) (a6 bF ah)))) (EV.o (a9 fX (EV.o (a9 cJ (EV.o (a9 fX (ar 0) ae)) ae)) ae)))) (bG 3 cf.nd) (aa (aK 0 cf.nd (a9 cJ (EV.o (a9 aR (EV.o (a9 wL (ar 0) ae)) ae)) ae)) (af (aK 2 cf.nd (a9 aR (ar 2) (EV.o (aJ (ixP hu) (ar 1) (EV.o (a9 cJ (ar 0) (EV.o (gd rM rfl T.n_len rfl (ar 1)))))))))))) (af (au (aT 2)))))))
abbrev jK:Stmt:=top 40
theorem eK:FnScope ["_law_number","_law_word_here","_law_k"] ["_law_number"] (ab jK):=fsc
theorem iT (T:Txt w K mg) (hs:Hs K mg "_law_word" jK):@PF (tw w) P w K mg base 1 "_law_word" gb:=
 letI:TW:=tw w
 kq (g:=jT) hs eK fun _ _ _ _ _ _ _ hr=>have hu:=hr.units;(aa (aK 1 eK.nd aV) (aa (iy (gg rfl T.n_range (a9 aR ae (EV.o (a9 cJ (ar 0) ae)))) (bG 2 eK.nd) (aa (aK 0 eK.nd (a9 cJ (EV.o (a9 aR (EV.o (a9 wL (ar 0) ae)) ae)) ae)) (af (aK 1 eK.nd (a9 aR (ar 1) (EV.o (aJ (ixP hu) ay (EV.o (a9 cJ (EV.o (a9 fX (ar 0) ae)) ae))))))))) (af (au (aT 1)))))
abbrev gp:Stmt:=top 41
theorem ax:FnScope ["_law_names_here","_law_name","_law_number","_law_sort","_law_wrong","_law_waits","_law_text","_law_limits","_law_row","_law_things","_law_j","_law_key","_law_rows","_law_word_here"] ["_law_names_here","_law_name","_law_number","_law_sort"] (ab gp):=fsc
theorem fO (T:Txt w K mg) (hs:Hs K mg "_law_limited" gp) (dz:@PF (tw w) P w K mg base 1 "_law_plain" dj) (iT:@PF (tw w) P w K mg base 1 "_law_word" gb):@PF (tw w) P w K mg base 2 "_law_limited" eA:=
 letI:TW:=tw w
 kq (g:=dY) hs ax fun _ _ _ _ _ _ _ hr=>have hu:=hr.units;(aa (aK 4 ax.nd (bq (a6 (a9 aR ae (EV.o (a9 cJ (EV.o (a9 fX (ar 2) ae)) ae))) (a6 (aJ (ixP hu) (ar 0) (EV.o (a9 cJ (EV.o (a9 fX (ar 2) ae)) ae))) ah)))) (aa (aK 5 ax.nd (bq (a6 (a9 aR ae (EV.o (a9 cJ (EV.o (a9 fX (ar 2) ae)) ae))) (a6 (aJ (ixP hu) (ar 0) (EV.o (a9 cJ (EV.o (a9 fX (ar 2) ae)) ae))) ah)))) (aa (aK 6 ax.nd (az dz hr (a6 (aT 2) ah))) (aa (aK 7 ax.nd (EN.v (dH (a6 (mw cStr rfl T.n_str rfl (EV.o (aJ (ixP hu) (ar 4) ae))) (a6 (aJ (ixP hu) (ar 4) ae) (a6 (mw cStr rfl T.n_str rfl (EV.o (aJ (ixP hu) (ar 5) ae))) (a6 (aJ (ixP hu) (ar 5) ae) ah))))))) (aa (aK 8 ax.nd (mx BU CA aV (EV.o (a9 aR (EV.o (a9 aR (EN.o (dH (a6 (aT 3) (a6 (aT 1) ah)))) (ar 7))) (EN.o (dH (a6 (aT 6) ah))))))) (aa (oQ 9 ax.nd (dH ah)) (aa (bH (aM (j7 hu) b9 (ar 3) ay) (aa (iy (rG rfl T.n_enumerate aV) (mC rfl (cq (bG 10 ax.nd) (cq (bG 11 ax.nd) jG))) (af (bH (aM (j7 hu) b9 (EV.o (a9 cJ (EV.o (a9 fX (ar 2) (EV.o (a9 aR ae (ar 10))))) ae)) ae) (af (gU 9 (bq (a6 (aT 11) (a6 (aJ (ixP hu) (EV.o (a9 aR (ar 0) (EN.o (dH (a6 aV ah))))) (EV.o (a9 cJ (EV.o (a9 fX (ar 2) (EV.o (a9 aR ae (ar 10))))) ae))) ah))))) aA))) (af (SV.frz 9 (aK 12 ax.nd (a9 aR (EN.o (dH (a6 (aT 8) ah))) (EN.o (dP (N':=["_law_key","_law_target"]) (cok ax) (gf (aT 9)) (fun _ _ _ _ _=>(mE rfl (cF (md 0) (cF (md 1) jH)))) (fun _ _ _ _ _=>(a9 aR (EV.o (a9 aR (EV.o (a9 aR ay (ar 0))) ay)) (ar 1)))))))))) (aa (iy (gf (EN.v (uP rfl rfl T.n_sorted rfl T.n_set (EN.o (dP (N':=["_law_j","_law_number"]) (cok ax) (gg rfl T.n_range (a9 aR ae (EV.o (a9 cJ (EV.o (a9 fX (ar 2) ae)) ae)))) (fun _ _ _ _ _=>(md 0)) (fun _ _ _ _ _=>(az iT hr (a6 (a9 fX (ar 1) (EV.o (a9 aR ae (ar 0)))) ah)))))))) (bG 13 ax.nd) (af (gU 9 (bq (a6 (aT 13) (a6 (aJ (ixP hu) (ar 0) (EV.o (a9 cJ (EV.o (a9 aR (ar 2) (EV.o (a9 wL (EV.o (gd rM rfl T.n_len rfl (yG 9))) (EV.o (gd rM rfl T.n_len rfl (ar 13))))))) ae))) ah)))))) (af (SV.frz 9 (aK 12 ax.nd (a9 aR (EN.o (dH (a6 (aT 8) ah))) (EN.o (dP (N':=["_law_word_here","_law_target"]) (cok ax) (gf (aT 9)) (fun _ _ _ _ _=>(mE rfl (cF (md 0) (cF (md 1) jH)))) (fun _ _ _ _ _=>(a9 aR (EV.o (a9 aR (EV.o (a9 aR ay (ar 0))) ay)) (ar 1))))))))))) (af (au (bq (a6 (aT 12) (a6 (bq (a6 (aT 3) (a6 (aT 6) (a6 (mw yo rfl T.n_tuple rfl (yG 9)) (a6 (aT 4) (a6 (aT 5) ah)))))) ah))))))))))))
abbrev jM:Stmt:=top 42
theorem bt:FnScope ["_law_names_here","_law_name","_law_number","_law_sort","_law_spans","_law_j","_law_first","_law_rows","_law_last","_law_target","_law_text"] ["_law_names_here","_law_name","_law_number"] (ab jM):=fsc
theorem iU (T:Txt w K mg) (hs:Hs K mg "_law_room" jM) (fO:@PF (tw w) P w K mg base 2 "_law_limited" eA) (dz:@PF (tw w) P w K mg base 1 "_law_plain" dj):@PF (tw w) P w K mg base 3 "_law_room" gc:=
 letI:TW:=tw w
 kq (g:=de) hs bt fun _ _ _ _ _ _ _ hr=>have hu:=hr.units;(aa (aK 3 bt.nd (aJ (ixP hu) (EN.o (dH (a6 aV (a6 aV (a6 aV (a6 aV (a6 aV (a6 aV ah)))))))) (EV.o (a9 cJ (ar 2) ae)))) (aa (bH (EW.et (ox (aM (j7 hu) b9 (ar 3) ay) (jy (aM (j7 hu) b9 (ar 3) ay)))) (af (au (az fO hr (a6 (aT 0) (a6 (aT 1) (a6 (aT 2) (a6 (aT 3) ah))))))) aA) (aa (bH (aM (j7 hu) b9 (ar 3) ay) (aa (oQ 4 bt.nd (dH ah)) (aa (iy (gg rfl T.n_range (a9 cJ (EV.o (a9 fX (ar 2) ae)) ae)) (bG 5 bt.nd) (aa (aK 6 bt.nd (a9 cJ (EV.o (a9 fX (ar 2) (EV.o (a9 aR ae (ar 5))))) ae)) (af (gU 4 (bq (a6 (aT 6) (a6 (a9 aR (EV.o (a9 aR (ar 6) ae)) (EV.o (a9 cJ (EV.o (a9 fX (ar 2) (EV.o (a9 aR ae (ar 5))))) (EV.o (a9 Ig ae (ar 6)))))) (a6 (aJ (ixP hu) (ar 0) (EV.o (a9 cJ (EV.o (a9 fX (ar 2) (EV.o (a9 aR ae (ar 5))))) ae))) ah)))))))) (aa (oQ 7 bt.nd (dH (a6 (a9 aR (EV.o (a9 aR (EV.o (a9 aR ay (ar 1))) ay)) (EV.o (aJ (ixP hu) (ar 0) (EV.o (a9 cJ (EV.o (a9 fX (ar 2) ae)) ae))))) ah))) (aa (SV.frz 4 (iy (gf (aT 4)) (mC rfl (cq (bG 6 bt.nd) (cq (bG 8 bt.nd) (cq (bG 9 bt.nd) jG)))) (af (gU 7 (a9 aR (EV.o (a9 aR (EV.o (a9 aR (EV.o (a9 aR (EV.o (a9 aR ay (EV.o (mw cStr rfl T.n_str rfl (ar 6))))) ay)) (EV.o (mw cStr rfl T.n_str rfl (ar 8))))) ay)) (ar 9)))))) (af (SV.frz 7 (au (bq (a6 (aT 7) (a6 (bq (a6 aV (a6 (mw yo rfl T.n_tuple rfl (yG 4)) (a6 (aJ (ixP hu) (ar 0) (EV.o (a9 cJ (EV.o (a9 fX (ar 2) ae)) ae))) ah)))) ah)))))))))) aA) (aa (aK 10 bt.nd (az dz hr (a6 (aT 2) ah))) (af (au (bq (a6 (EN.v (dH (a6 (a9 aR (EV.o (a9 aR (EV.o (a9 aR (EV.o (a9 aR (ar 3) ay)) (ar 1))) ay)) (ar 10)) ah))) (a6 (bq (a6 (aT 3) (a6 (aT 10) ah))) ah)))))))))
abbrev iL:Stmt:=top 43
theorem gW:FnScope ["_law_thing"] ["_law_thing"] (ab iL):=fsc
theorem dy (T:Txt w K mg) (hs:Hs K mg "_law_whole" iL):@PF (tw w) P w K mg base 5 "_law_whole" f9:=
 letI:TW:=tw w
 have rcd:∀d,PF P w K mg base (1+d) "_law_whole" (aC d):=by
  intro d
  induction d with
  | zero=>exact Ce (DW (ps:=["_law_thing"]) hs) gW
  | succ d dy=>exact kq (g:=eY (aC d)) hs gW fun _ _ _ _ _ _ _ hr=>have hu:=hr.units;(aa (bH (bo (EV.o (kc qb rfl T.n_isinstance rfl T.n_tuple (by decide +kernel) (ar 0)))) (af (au (d6 (r8 hu) (EV.o gB) (EN.o (dP (N':=["_law_part"]) (cok gW) (gf (aT 0)) (fun _ _ _ _ _=>(md 0)) (fun _ _ _ _ _=>(az dy hr (a6 (aT 0) ah) (hk:=LZ _)))))))) aA) (aa (bH (bo (EV.o (kc A3 rfl T.n_isinstance rfl T.n_bool (by decide +kernel) (ar 0)))) (af (au gB)) aA) (af (au (Dc (kc CO rfl T.n_isinstance rfl T.n_int (by decide +kernel) (ar 0)) (iD (kc xx rfl T.n_isinstance rfl T.n_str (by decide +kernel) (ar 0))))))))
 rcd 4
abbrev jL:Stmt:=top 44
theorem eL:FnScope ["_law_found","_law_first","_law_letters","_law_names_here","_law_rooms","_law_told"] ["_law_found","_law_first","_law_letters","_law_names_here","_law_rooms"] (ab jL):=fsc
theorem gv (T:Txt w K mg) (hs:Hs K mg "_law_same" jL) (dy:@PF (tw w) P w K mg base 5 "_law_whole" f9):@PF (tw w) P w K mg base 6 "_law_same" di:=
 letI:TW:=tw w
 kq (g:=jU) hs eL fun _ _ _ _ _ _ _ hr=>have hu:=hr.units;(aa (bH (EW.et (ox (gM (bo (EV.o (kc A2 rfl T.n_isinstance rfl T.n_dict (by decide +kernel) (ar 0))))) (jy (aM (Fh hu) sP (ar 0) (EN.o (Dg (rH aV (aT 1) (rH aV (aT 2) (rH aV (aT 4) G5))))))))) (af (au gB)) aA) (aa (bH (EW.et (ox (gM (bo (EV.o (kc A1 rfl T.n_isinstance rfl T.n_list (by decide +kernel) (EV.o (aJ (ixP hu) (ar 0) ay)))))) (jy (aM (Fh hu) sP (EN.o (Aj tG rfl T.n_list rfl (EV.o (aJ (ixP hu) (ar 0) ay)))) (ar 3))))) (af (au gB)) aA) (aa (aK 5 eL.nd (a9 aR (EN.o (dP (N':=["_law_name","_law_found"]) (cok eL) (gf (aT 3)) (fun _ _ _ _ _=>(md 0)) (fun _ _ _ _ _=>(aJ (ixP hu) (EV.o (aJ (ixP hu) (ar 1) ay)) (ar 0))))) (EN.o (dP (N':=["_law_pair"]) (cok eL) (gf (aJ (ixP hu) (ar 0) ay)) (fun _ _ _ _ _=>(md 0)) (fun _ _ _ _ _=>(aT 0)))))) (af (au (d6 (r8 hu) (EV.o gB) (EN.o (dP (N':=["_law_one"]) (cok eL) (gf (aT 5)) (fun _ _ _ _ _=>(md 0)) (fun _ _ _ _ _=>(lT (kc qb rfl T.n_isinstance rfl T.n_tuple (by decide +kernel) (ar 0)) (iD (az dy hr (a6 (aT 0) ah)))))))))))))
abbrev nN:Stmt:=top 45
theorem dR:FnScope ["_law_script","_law_number","_law_names_here","_law_some","_law_letters","_law_rows","_law_rooms","_law_k","_law_cell","_law_told","_law_room_here","_law_text","_law_found"] ["_law_script"] (ab nN):=fsc
theorem Fj {f:Addr} {fd:FuncData} (T:Txt w K mg) (F:Fun K "law" "law" nN f fd) (dA:@PF (tw w) P w K mg base 1 "_law_mixed" dk) (cC:@PF (tw w) P w K mg base 1 "_law_cell_at" ba) (hX:@PF (tw w) P w K mg base 1 "_law_names" ff) (iU:@PF (tw w) P w K mg base 3 "_law_room" gc) (dX:@PFT (tw w) P w K mg base 7 "read_house" bf) (gv:@PF (tw w) P w K mg base 6 "_law_same" di):FnOk P w K mg base CX0 8 f fd ["_law_script"] (@spP (tw w) K 1 xS):=
 letI:TW:=(tw w)
 have main:FnOk P w K mg base CX0 (7+1) f fd ["_law_script"] (spP K 1 (DM 1 13 Aa)):=by
  refine Fi (N:=["_law_script","_law_number","_law_names_here","_law_some","_law_letters","_law_rows","_law_rooms","_law_k","_law_cell","_law_told","_law_room_here","_law_text","_law_found"]) (ps:=["_law_script"]) (k:=7) (g:=Aa) F dR ?_;intro cdv A outer s H E hr;have hu:=hr.units;exact(av (aL (aK 1 dR.nd (az dA hr (a6 (az cC hr (a6 (aT 0) (a6 bF ah))) (a6 bF ah))))) (av (aL (aK 2 dR.nd (az hX hr (a6 (az dA hr (a6 (az cC hr (a6 (aT 0) (a6 bF ah))) (a6 bF ah))) (a6 bF ah))))) (av (aL (aK 3 dR.nd (EN.v (dH (a6 (bq (a6 aV (a6 aV ah))) (a6 (bq (a6 aV (a6 aV ah))) (a6 (bq (a6 aV (a6 aV ah))) (a6 (bq (a6 aV (a6 aV ah))) (a6 (bq (a6 aV (a6 aV ah))) ah))))))))) (av (aL (vH false 4 dR.nd (N':=["_law_j","_law_one","_law_number"]) (cok dR) (rG rfl T.n_enumerate (aT 3)) (fun _ _ _ _ _=>(mE rfl (cF (md 0) (cF (md 1) jH)))) (fun _ _ _ _ _=>(aT 1)) (ht:=fun _ _ _ _ _=>(Df (aM GL rB (EV.o (a9 cJ (EV.o (a9 fX (ar 2) (EV.o (a9 aR ae (ar 0))))) ae)) ae))))) (av (aL (aK 5 dR.nd (a9 aR (EN.o (dH (a6 (a9 aR ay (EV.o (aJ (ixP hu) (ar 2) (EV.o (a9 cJ (ar 1) ae))))) ah))) (EN.o (dP (N':=["_law_key","_law_one"]) (cok dR) (gf (aT 4)) (fun _ _ _ _ _=>(mE rfl (cF (md 0) (cF (md 1) jH)))) (fun _ _ _ _ _=>(a9 aR (EV.o (a9 aR (EV.o (a9 aR ay (ar 0))) ay)) (ar 1)))))))) (av (aL (oQ 6 dR.nd xZ)) (av (aL (iy (rG rfl T.n_enumerate (a9 aR (EN.o (dH (a6 (az cC hr (a6 (aT 0) (a6 bF ah))) ah))) (EV.o (sX (ar 0) (qO bF) (qO bF))))) (mC rfl (cq (bG 7 dR.nd) (cq (bG 8 dR.nd) jG))) (aa (vG (az iU hr (a6 (aT 2) (a6 (aJ (ixP hu) (ar 2) (ar 7)) (a6 (az dA hr (a6 (a9 aR (ar 8) (ar 7)) (a6 bF ah))) ah)))) (mC rfl (cq (bG 9 dR.nd) (cq (bG 10 dR.nd) jG)))) (aa (aK 5 dR.nd (a9 aR (ar 5) (ar 9))) (af (Ew 6 hu (aJ (ixP hu) (ar 2) (ar 7)) (aT 10))))))) (av (aL (aK 11 dR.nd (mx BU CA aV (ar 5)))) (av (vR 12 dR.nd (sZ dX hr (a6 (aT 11) ah))) (av (SB.frz 6 (um (vk 12 (gM (bo (EV.o (az gv hr (a6 (aT 12) (a6 (aJ (ixP hu) (ar 2) (EV.o (a9 cJ (ar 1) ae))) (a6 (aT 4) (a6 (EN.v (Aj tG rfl T.n_list rfl (yG 6))) (a6 (aT 6) ah)))))))))) (d9 (aL (au gB))) jI)) (av (AR (lq 12 hu) (bq (a6 aV (a6 aV ah)))) (av (vT (lq 12 hu)) (d9 (aL (SV.frz 6 (au (az gv hr (a6 (ENT.v (sZ dX hr (a6 (aT 11) ah))) (a6 (aJ (ixP hu) (ar 2) (EV.o (a9 cJ (ar 1) ae))) (a6 (aT 4) (a6 (EN.v (Aj tG rfl T.n_list rfl (yG 6))) (a6 (aT 6) ah))))))))))))))))))))))
 main
end K02
namespace K02
open PySem PySem.Spec PyProof.Rows L2 PU
seal EV EO EN EA ET EW SV SVs TGt DG TCt DH EI ETs ED EOI ELF EVF ENF ETF SVF EM SVM EDN XB XT SB SBs ENT EDF
theorem all_mk {l:Qc} {w:Ly} {K:LC} {h:Heap} {mg:Str->Option LD} {fa:Addr} (X:K.In h) (G:h.Ns Lv mg) (hfa:mg "law"=some (.ref fa))
  {f30:Addr} {od30 an30:Option Addr} {sl30:Array (Option LD)} {oc30 kV30 dc30 pm30 cd30 ct30:LD}
  (h0:Has K "is_letters" gZ)
  (h1:Has K "is_name" l5)
  (h2:Has K "is_word" kZ)
  (h3:Has K "is_key" nQ)
  (h4:Has K "is_plain_sign" eN)
  (h5:Has K "is_plain" jN)
  (h6:Has K "is_figures" hJ)
  (h7:Has K "number_within" eM)
  (h8:Has K "held_beneath" fN)
  (h9:Has K "wordless_row" fK)
  (h10:Has K "fits" vU)
  (h11:Has K "field_value" gs)
  (h12:Has K "row_values" gX)
  (h13:Has K "with_held" iJ)
  (h14:Has K "is_rising" iP)
  (h15:Has K "take_beneath" fM)
  (h16:Has K "take_letters" fL)
  (h17:Has K "bare_room" iQ)
  (h18:Has K "take_room" iK)
  (h19:Has K "take_row" jJ)
  (h20:Has K "read_house" gY)
  (h21:Has K "_law_cell_at" gq)
  (h22:Has K "_law_mixed" iO)
  (h23:Has K "_law_names" iN)
  (h24:Has K "_law_plain" iM)
  (h25:Has K "_law_word" jK)
  (h26:Has K "_law_limited" gp)
  (h27:Has K "_law_room" jM)
  (h28:Has K "_law_whole" iL)
  (h29:Has K "_law_same" jL)
  (a30:ME K Lv "law"=some (some (.ref f30))) (l30:K.lookup f30=some ⟨oc30,od30,.func (N7 "law" "law" (fT nN) (bT nN) (ab nN) .none kV30 dc30 pm30 an30 cd30 ct30),sl30⟩) (c30:OP K cd30 "law"=true) (k30:NR K (.ref f30)=true)
  (z_all:ME K Lv "all"=some none)
  (z_any:ME K Lv "any"=some none)
  (z_bool:ME K Lv "bool"=some none)
  (z_dict:ME K Lv "dict"=some none)
  (z_enumerate:ME K Lv "enumerate"=some none)
  (z_int:ME K Lv "int"=some none)
  (z_isinstance:ME K Lv "isinstance"=some none)
  (z_len:ME K Lv "len"=some none)
  (z_list:ME K Lv "list"=some none)
  (z_ord:ME K Lv "ord"=some none)
  (z_range:ME K Lv "range"=some none)
  (z_set:ME K Lv "set"=some none)
  (z_sorted:ME K Lv "sorted"=some none)
  (z_str:ME K Lv "str"=some none)
  (z_tuple:ME K Lv "tuple"=some none)
  (z_zip:ME K Lv "zip"=some none)
  (c_BENEATH:@Con (tw w) K mg "BENEATH" c_BENEATH)
  (c_FIELDS:@Con (tw w) K mg "FIELDS" c_FIELDS)
  (c_FIGURES:@Con (tw w) K mg "FIGURES" c_FIGURES)
  (c_KEYS:@Con (tw w) K mg "KEYS" c_KEYS)
  (c_MOST_BENEATH:@Con (tw w) K mg "MOST_BENEATH" c_MOST_BENEATH)
  (c_MOST_ROOMS:@Con (tw w) K mg "MOST_ROOMS" c_MOST_ROOMS)
  (c_PER_CENT:@Con (tw w) K mg "PER_CENT" c_PER_CENT)
  (c_ROOM_KINDS:@Con (tw w) K mg "ROOM_KINDS" c_ROOM_KINDS)
  (c_SMALL_LETTERS:@Con (tw w) K mg "SMALL_LETTERS" c_SMALL_LETTERS)
  : ∃fd:FuncData,(∀(s:LG) (v:LD),Ry s fd ⟨[v],[]⟩ [("_law_script",v)])/\∀base:Heap,K.In base->base.Ns Lv mg->FnOk l.prog w K mg base CX0 8 fa fd ["_law_script"] (@spP (tw w) K 1 xS):=by
 have e:=hfa.symm.trans (OZ X G a30);cases e;have T:Txt w K mg:=⟨MB X G z_all,MB X G z_any,MB X G z_bool,MB X G z_dict,MB X G z_enumerate,MB X G z_int,MB X G z_isinstance,MB X G z_len,MB X G z_list,MB X G z_ord,MB X G z_range,MB X G z_set,MB X G z_sorted,MB X G z_str,MB X G z_tuple,MB X G z_zip,c_BENEATH,c_FIELDS,c_FIGURES,c_KEYS,c_MOST_BENEATH,c_MOST_ROOMS,c_PER_CENT,c_ROOM_KINDS,c_SMALL_LETTERS⟩;have F30:=Bf (st:=nN) l30 c30 k30;refine⟨N7 "law" "law" (fT nN) (bT nN) (ab nN) .none kV30 dc30 pm30 an30 cd30 ct30,fun s v=>.of_eq rfl,fun base hKb _=>?_⟩;have p_is_letters:=bI (P:=l.prog) (base:=base) T (h0.fn X G);have p_is_name:=il (P:=l.prog) (base:=base) T (h1.fn X G) p_is_letters;have p_is_word:=jP (P:=l.prog) (base:=base) T (h2.fn X G) p_is_letters;have p_is_key:=jd (P:=l.prog) (base:=base) T (h3.fn X G);have p_is_plain_sign:=dO (P:=l.prog) (base:=base) T (h4.fn X G);have p_is_plain:=iV (P:=l.prog) (base:=base) T (h5.fn X G) p_is_plain_sign;have p_is_figures:=gw (P:=l.prog) (base:=base) T (h6.fn X G);have p_number_within:=bK (P:=l.prog) (base:=base) T (h7.fn X G) p_is_figures;have p_held_beneath:=eR (P:=l.prog) (base:=base) T (h8.fn X G);have p_wordless_row:=eO (P:=l.prog) (base:=base) T (h9.fn X G);have p_fits:=qW (P:=l.prog) (base:=base) T (h10.fn X G) p_is_name p_is_word p_is_key p_is_letters p_is_plain;have p_field_value:=fP (P:=l.prog) (base:=base) T (h11.fn X G) p_number_within p_fits;have p_row_values:=gu (P:=l.prog) (base:=base) T (h12.fn X G) p_field_value;have p_with_held:=hU (P:=l.prog) (base:=base) T (h13.fn X G);have p_is_rising:=dB (P:=l.prog) (base:=base) T (h14.fn X G);have p_take_beneath:=eQ (P:=l.prog) (base:=base) T (h15.fn X G) p_held_beneath p_is_rising p_with_held;have p_take_letters:=eP (P:=l.prog) (base:=base) T (h16.fn X G) p_is_rising;have p_bare_room:=hZ (P:=l.prog) (base:=base) T (h17.fn X G);have p_take_room:=hV (P:=l.prog) (base:=base) T (h18.fn X G) p_bare_room;have p_take_row:=iS (P:=l.prog) (base:=base) T (h19.fn X G) p_row_values p_take_letters p_take_room p_take_beneath;have p_read_house:=dX (P:=l.prog) (base:=base) T (h20.fn X G) p_take_row p_wordless_row;have p_law_cell_at:=cC (P:=l.prog) (base:=base) T (h21.fn X G);have p_law_mixed:=dA (P:=l.prog) (base:=base) T (h22.fn X G);have p_law_names:=hX (P:=l.prog) (base:=base) T (h23.fn X G);have p_law_plain:=dz (P:=l.prog) (base:=base) T (h24.fn X G);have p_law_word:=iT (P:=l.prog) (base:=base) T (h25.fn X G);have p_law_limited:=fO (P:=l.prog) (base:=base) T (h26.fn X G) p_law_plain p_law_word;have p_law_room:=iU (P:=l.prog) (base:=base) T (h27.fn X G) p_law_limited p_law_plain;have p_law_whole:=dy (P:=l.prog) (base:=base) T (h28.fn X G);have p_law_same:=gv (P:=l.prog) (base:=base) T (h29.fn X G) p_law_whole;exact Fj T F30 p_law_mixed p_law_cell_at p_law_names p_law_room p_read_house p_law_same
theorem walk{l:Qc}{q:LY}{loose:List Str}{XP:(Str->Option LD)->Heap->Prop}{YP:Ly->Heap->Prop}{d:DefRec}{K:Params->LC}(hn:l.most=some 63)(hdf:d.params.defaults=[])
  (hY:∀(w:Ly)(h:Heap),YP w h->(K w.params).In h)
  (F:∀(w:Ly)(mg:Str->Option LD)(fa:Addr)(h:Heap),(K w.params).In h->h.Ns Lv mg->mg d.name=some (.ref fa)->
   ∃fd:FuncData,(∀(s:LG) (u:LD),Ry s fd ⟨[u],[]⟩ [("_law_script",u)])/\∀base:Heap,(K w.params).In base->base.Ns Lv mg->FnOk l.prog w (K w.params) mg base CX0 8 fa fd ["_law_script"] (@spP (tw w) (K w.params) 1 xS)) :
  PySem.W.WalkO q loose XP YP l.row.toRowW d [] (fun f vs=>Sb f vs):=
 L2.walk_ofF (n:=63) (k:=8) (x:="_law_script") (CX:=fun _=>CX0) (sp:=fun w=>@spP (tw w) (K w.params) 1 xS) hn (by decide) hdf ⟨rfl,by decide,by decide⟩ hY F
  (fun w _ a ns hl _ hS=>letI:TW:=tw w;⟨rfl,Hx (ts:=[]) rfl (fun P h=>nomatch h),_,_,ui hS,zP ns,fun v _ _ r=>r⟩) fun _ _ _ _ _ z=>z
end K02
namespace PySem.W.Fast
def tw4365397271497092477:=0
def tw16833351011458274027:=0
def tw10830412131452032041:=0
def tw8798273023807319768:=0
def tw15403216084021734879:=0
def tw5027882845188056658:=0
def tw4730904457375814357:=0
def tw14796445037551203445:=0
def tw9670059969210263419:=0
def tw18342726028817189869:=0
def tw11861234529379040153:=0
def tw9034954631114050070:=0
def tw9090721544518292107:=0
def tw12880941016411664822:=0
def tw3302323076215486836:=0
def tw4768298332452707941:=0
def tw7496183888993895566:=0
def tw16553553531286041707:=0
def tw6460523054088026959:=0
def tw2081725821681811373:=0
def tw7944960473976362925:=0
def tw11388058747228244022:=0
def tw4267798034755754711:=0
def tw13827738143736995475:=0
def tw13278888734636315364:=0
def tw4834717636186520856:=0
def tw207731506555587728:=0
def tw4947194347029661858:=0
def tw12380906024131518995:=0
def tw17592023718605115919:=0
def tw8203878833769982407:=0
def tw13381419557140463287:=0
def tw9164866277516343087:=0
def tw12532462370999095914:=0
def tw2774105834777315324:=0
def tw16989430081313333529:=0
def tw8347023169932741098:=0
def tw12329489645229417781:=0
def tw14849419979634030838:=0
def tw5734580740005564822:=0
def tw12954579055393027598:=0
def tw17176790452543255343:=0
def tw15437148789693653789:=0
def tw7254403020240191122:=0
def tw1953847821826071995:=0
def tw16773418121630285577:=0
def tw16014134909170974317:=0
def tw7062737190689251997:=0
def tw11762999231915124680:=0
def tw4330250700872912441:=0
def tw2408529848719657567:=0
def tw15679633783479097768:=0
def tw4545150949631139387:=0
def tw12014788109925649477:=0
def tw3429262935571372969:=0
end PySem.W.Fast
open PySem PySem.W PyProof.Rows
set_option maxRecDepth 100000 in
set_option maxHeartbeats 0 in
theorem PySem.Challenge.cw_menutree_k02_houses_read_back_holds : PySem.Challenge.rw_menutree_k02_houses_read_back.Holds := by
 w_on;o_law;k_head;(case hw=>w_witness2)
 k_fill
 refine K02.walk (l:=PySem.Challenge.rw_menutree_k02_houses_read_back) rfl rfl (fun w h Y=>PySem.W.kIn_of Y) ?F
 case F=>
  intro w mg fa h KX G hmg;refine' K02.all_mk KX G hmg ?h0 ?h1 ?h2 ?h3 ?h4 ?h5 ?h6 ?h7 ?h8 ?h9 ?h10 ?h11 ?h12 ?h13 ?h14 ?h15 ?h16 ?h17 ?h18 ?h19 ?h20 ?h21 ?h22 ?h23 ?h24 ?h25 ?h26 ?h27 ?h28 ?h29 ?a30 ?l30 ?c30 ?k30 ?z_all ?z_any ?z_bool ?z_dict ?z_enumerate ?z_int ?z_isinstance ?z_len ?z_list ?z_ord ?z_range ?z_set ?z_sorted ?z_str ?z_tuple ?z_zip ?q_BENEATH ?q_FIELDS ?q_FIGURES ?q_KEYS ?q_MOST_BENEATH ?q_MOST_ROOMS ?q_PER_CENT ?q_ROOM_KINDS ?q_SMALL_LETTERS
  (case h0 | h1 | h2 | h3 | h4 | h5 | h6 | h7 | h8 | h9 | h10 | h11 | h12 | h13 | h14 | h15 | h16 | h17 | h18 | h19 | h20 | h21 | h22 | h23 | h24 | h25 | h26 | h27 | h28 | h29=>(refine' PU.Has.of ?n1 ?n2 ?n3 ?n4;(case n1=>k_is);(case n2=>k_is);(case n3=>k_is);(case n4=>k_is)))
  (case a30=>k_is)
  (case l30=>k_is)
  (case c30=>k_is)
  (case k30=>k_is)
  (case z_all=>k_is)
  (case z_any=>k_is)
  (case z_bool=>k_is)
  (case z_dict=>k_is)
  (case z_enumerate=>k_is)
  (case z_int=>k_is)
  (case z_isinstance=>k_is)
  (case z_len=>k_is)
  (case z_list=>k_is)
  (case z_ord=>k_is)
  (case z_range=>k_is)
  (case z_set=>k_is)
  (case z_sorted=>k_is)
  (case z_str=>k_is)
  (case z_tuple=>k_is)
  (case z_zip=>k_is)
  (case q_BENEATH=>(refine' PU.con_dct [(LB "menu",_,_),(LB "names",_,_),(LB "hours",_,_)] (xs:=[.str (LB "key"),.str (LB "name"),.str (LB "from")]) KX G ?n1 ?n2 ?n3 ?n4 ?n5 ?n6 ?n7 ?n8;(case n1=>k_is);(case n2=>k_is);(case n3=>exact rfl);(case n4=>decide);(case n5=>decide +kernel);(case n6=>show 3<=sizeLine;decide);(case n7=>exact .cons ⟨_,rfl⟩ (.cons ⟨_,rfl⟩ (.cons ⟨_,rfl⟩ (.nil))));(case n8=>intro H;exact⟨_,_,rfl,rfl,_,_,rfl,rfl,_,_,rfl,rfl,rfl⟩)))
  (case q_FIELDS=>(refine' PU.con_dctT [(LB "first",_,_),(LB "letters",_,_),(LB "menu",_,_),(LB "key",_,_),(LB "names",_,_),(LB "name",_,_),(LB "hours",_,_),(LB "from",_,_),(LB "hand",_,_),(LB "end",_,_)] KX G ?n1 ?n2 ?n3 ?n4 ?n5 ?n6 ?n8;(case n1=>k_is);(case n2=>k_is);(case n3=>exact rfl);(case n4=>decide);(case n5=>decide +kernel);(case n6=>show 10<=sizeLine;decide);(case n8=>intro H;refine' ⟨_,_,rfl,PU.rep_conT (xs:=[.str (LB "name")]) ?t0 ?u0 ?v0 ?w0 ?x0 ?y0,_,_,rfl,PU.rep_conT (xs:=[.str (LB "letters key"),.str (LB "letters")]) ?t1 ?u1 ?v1 ?w1 ?x1 ?y1,_,_,rfl,PU.rep_conT (xs:=[.str (LB "name"),.str (LB "many"),.str (LB "name"),.str (LB "many"),.str (LB "name"),.str (LB "text")]) ?t2 ?u2 ?v2 ?w2 ?x2 ?y2,_,_,rfl,PU.rep_conT (xs:=[.str (LB "key"),.str (LB "target")]) ?t3 ?u3 ?v3 ?w3 ?x3 ?y3,_,_,rfl,PU.rep_conT (xs:=[.str (LB "name"),.str (LB "many"),.str (LB "name"),.str (LB "many"),.str (LB "name"),.str (LB "text")]) ?t4 ?u4 ?v4 ?w4 ?x4 ?y4,_,_,rfl,PU.rep_conT (xs:=[.str (LB "word"),.str (LB "name")]) ?t5 ?u5 ?v5 ?w5 ?x5 ?y5,_,_,rfl,PU.rep_conT (xs:=[.str (LB "name"),.str (LB "name")]) ?t6 ?u6 ?v6 ?w6 ?x6 ?y6,_,_,rfl,PU.rep_conT (xs:=[.str (LB "from"),.str (LB "till"),.str (LB "name")]) ?t7 ?u7 ?v7 ?w7 ?x7 ?y7,_,_,rfl,PU.rep_conT (xs:=[.str (LB "name"),.str (LB "text")]) ?t8 ?u8 ?v8 ?w8 ?x8 ?y8,_,_,rfl,PU.rep_conT (xs:=[.str (LB "name"),.str (LB "text")]) ?t9 ?u9 ?v9 ?w9 ?x9 ?y9,rfl⟩;(case t0=>k_is);(case u0=>exact rfl);(case v0=>exact rfl);(case w0=>show 1<=sizeLine;decide);(case x0=>exact .cons ⟨_,rfl⟩ (.nil));(case y0=>exact⟨_,_,rfl,rfl,rfl⟩);(case t1=>k_is);(case u1=>exact rfl);(case v1=>exact rfl);(case w1=>show 2<=sizeLine;decide);(case x1=>exact .cons ⟨_,rfl⟩ (.cons ⟨_,rfl⟩ (.nil)));(case y1=>exact⟨_,_,rfl,rfl,_,_,rfl,rfl,rfl⟩);(case t2=>k_is);(case u2=>exact rfl);(case v2=>exact rfl);(case w2=>show 6<=sizeLine;decide);(case x2=>exact .cons ⟨_,rfl⟩ (.cons ⟨_,rfl⟩ (.cons ⟨_,rfl⟩ (.cons ⟨_,rfl⟩ (.cons ⟨_,rfl⟩ (.cons ⟨_,rfl⟩ (.nil)))))));(case y2=>exact⟨_,_,rfl,rfl,_,_,rfl,rfl,_,_,rfl,rfl,_,_,rfl,rfl,_,_,rfl,rfl,_,_,rfl,rfl,rfl⟩);(case t3=>k_is);(case u3=>exact rfl);(case v3=>exact rfl);(case w3=>show 2<=sizeLine;decide);(case x3=>exact .cons ⟨_,rfl⟩ (.cons ⟨_,rfl⟩ (.nil)));(case y3=>exact⟨_,_,rfl,rfl,_,_,rfl,rfl,rfl⟩);(case t4=>k_is);(case u4=>exact rfl);(case v4=>exact rfl);(case w4=>show 6<=sizeLine;decide);(case x4=>exact .cons ⟨_,rfl⟩ (.cons ⟨_,rfl⟩ (.cons ⟨_,rfl⟩ (.cons ⟨_,rfl⟩ (.cons ⟨_,rfl⟩ (.cons ⟨_,rfl⟩ (.nil)))))));(case y4=>exact⟨_,_,rfl,rfl,_,_,rfl,rfl,_,_,rfl,rfl,_,_,rfl,rfl,_,_,rfl,rfl,_,_,rfl,rfl,rfl⟩);(case t5=>k_is);(case u5=>exact rfl);(case v5=>exact rfl);(case w5=>show 2<=sizeLine;decide);(case x5=>exact .cons ⟨_,rfl⟩ (.cons ⟨_,rfl⟩ (.nil)));(case y5=>exact⟨_,_,rfl,rfl,_,_,rfl,rfl,rfl⟩);(case t6=>k_is);(case u6=>exact rfl);(case v6=>exact rfl);(case w6=>show 2<=sizeLine;decide);(case x6=>exact .cons ⟨_,rfl⟩ (.cons ⟨_,rfl⟩ (.nil)));(case y6=>exact⟨_,_,rfl,rfl,_,_,rfl,rfl,rfl⟩);(case t7=>k_is);(case u7=>exact rfl);(case v7=>exact rfl);(case w7=>show 3<=sizeLine;decide);(case x7=>exact .cons ⟨_,rfl⟩ (.cons ⟨_,rfl⟩ (.cons ⟨_,rfl⟩ (.nil))));(case y7=>exact⟨_,_,rfl,rfl,_,_,rfl,rfl,_,_,rfl,rfl,rfl⟩);(case t8=>k_is);(case u8=>exact rfl);(case v8=>exact rfl);(case w8=>show 2<=sizeLine;decide);(case x8=>exact .cons ⟨_,rfl⟩ (.cons ⟨_,rfl⟩ (.nil)));(case y8=>exact⟨_,_,rfl,rfl,_,_,rfl,rfl,rfl⟩);(case t9=>k_is);(case u9=>exact rfl);(case v9=>exact rfl);(case w9=>show 2<=sizeLine;decide);(case x9=>exact .cons ⟨_,rfl⟩ (.cons ⟨_,rfl⟩ (.nil)));(case y9=>exact⟨_,_,rfl,rfl,_,_,rfl,rfl,rfl⟩))))
  (case q_FIGURES=>(refine' PU.con_str KX G ?n1;(case n1=>k_is)))
  (case q_KEYS=>(refine' PU.con_str KX G ?n1;(case n1=>k_is)))
  (case q_MOST_BENEATH=>(refine' PU.con_int KX G ?n1;(case n1=>k_is)))
  (case q_MOST_ROOMS=>(refine' PU.con_int KX G ?n1;(case n1=>k_is)))
  (case q_PER_CENT=>(refine' PU.con_int KX G ?n1;(case n1=>k_is)))
  (case q_ROOM_KINDS=>(refine' PU.con_tup (xs:=[.str (LB "menu"),.str (LB "names"),.str (LB "hours"),.str (LB "hand"),.str (LB "end")]) KX G ?n1 ?n2 ?n3 ?n4 ?n5 ?n6 ?n7;(case n1=>k_is);(case n2=>k_is);(case n3=>exact rfl);(case n4=>exact rfl);(case n5=>show 5<=sizeLine;decide);(case n6=>exact .cons ⟨_,rfl⟩ (.cons ⟨_,rfl⟩ (.cons ⟨_,rfl⟩ (.cons ⟨_,rfl⟩ (.cons ⟨_,rfl⟩ (.nil))))));(case n7=>intro H;exact⟨_,_,rfl,rfl,_,_,rfl,rfl,_,_,rfl,rfl,_,_,rfl,rfl,_,_,rfl,rfl,rfl⟩)))
  (case q_SMALL_LETTERS=>(refine' PU.con_str KX G ?n1;(case n1=>k_is)))
